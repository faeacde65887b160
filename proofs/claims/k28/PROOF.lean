import PyProof.Rows.All
import Wide.All
import OpenK.AllK
import Wide.FinOn
import Lean
import PyProof.EqAt
import PyProof.EqKinds
import PyProof.TupleCall
import PyProof.StrBlock2
import KE.KDictOf
import PyProof.AttrMissHeap
import KE.KRevSl
import KE.KDictSum
import PyProof.Rows.SortStr
import KE.KRevIter
import PyProof.RangeIter
import PySem.Challenge.RW_gapscribe_k28_whole_no_shorter_row
set_option compiler.extract_closed false
set_option bootstrap.genMatcherCode false
set_option genSizeOfSpec false
set_option Elab.async false
set_option linter.all false
set_option maxRecDepth 100000
open Array renaming length_toList->Rr
open Bool renaming false_ne_true->Ot,and_eq_true->Pa,false_and->Pb,true_and->Pi,eq_iff_iff->P9,false_eq_true->Sf,not_eq_true'->Tt,or_eq_true->T1,and_false->T7
open Classical renaming choose_spec->Qn,choose->Ve
open False renaming elim->Py
open Int renaming emod_lt_of_pos->Qp,emod_nonneg->Qs,toNat_natCast->Ts,zero_add->R6,toNat->Ri
open List renaming getElem?_eq_getElem->Oi,size_toArray->On,length_append->Ou,replicate->Oo,getElem?_eq_some_iff->O6,mem_of_getElem?->Oz,length_cons->Ox,mem_cons->Ow,length_map->O1,mem_cons_of_mem->Pd,all_eq_true->O4,length_singleton->Pz,mem_cons_self->Pl,eq_nil_of_length_eq_zero->Qw,getElem?_append_right->Qi,map_cons->O9,mem_append_right->P6,getElem?_append_left->Qj,drop_eq_getElem_cons->Qk,take_of_length_le->Qd,eq_of_mem_replicate->Ql,append_assoc->Pp,range->O2,length_take->Pq,map_append->Pm,length_replicate->Qm,replicate_succ->Qe,mem_append->Pr,append_nil->Pt,lookup_cons->P7,not_mem_nil->P8,mem_singleton->Qo,drop_of_length_le->Q7,getElem?_map->Qq,getElem?_eq_none->Q8,mem_append_left->Q9,getElem?_set_self->Rm,take_succ_cons->Rb,find?_cons->Qr,length_set->Q1,nil_append->Q2,flatMap_append->Rs,getElem_mem->Rc,take_zero->Q5,take_add_one->Rt,reverse_append->Sd,flatMap_singleton->Ti,lookup->Qt,all_cons->Rg,flatten_cons->Sh,getElem?_set_ne->Tj,drop_zero->R0,length_drop->Sj,length_reverse->Tk,getElem?_cons_succ->Um,reverse_singleton->Uq,take_append_drop->Us,cons_append->Tv,take_length->Tw,any_cons->Sn,dropLast_concat_getLast->Vq,filterMap_cons->Ut,nodup_cons->Tz,length->R7,length_nil->T4,length_pos_iff->Uu,mem_filterMap->Uw,set_cons_zero->U0,set_cons_succ->U1,mem_range->T6,flatMap_cons->U9,ext_getElem?->Va,ext_getElem->Vd,mem_filter->Vf,of_mem_zip->Vi,map_nil->Ud,map_map->Uf,foldl->Sw
open Nat renaming le_refl->Ol,lt_of_lt_of_le->O3,ne_of_lt->Oy,le_trans->Pc,zero_le->Pj,lt_irrefl->Qa,lt_succ_self->Ru,sub_self->Rh,ne_of_gt->R4,sub_zero->R5,zero_add->Sq,le_succ->Ss
open Ne renaming symm->Pf
open Option renaming isSome_iff_exists->Q6,map_some->Ry
open Option.some renaming inj->Ov
open PyProof.Rows renaming callWith_type1->Qx,slot_tuple_getitem->Rk,assignInOrder_cons->Uv
open PySem renaming wpAny_bind->Oh,wpAny_pure->Om,wpAny_truthy_bool->Qf,wpAny_callSpecial?_slot->Rl,wpAny_newObj_type->Q0,mem_of_lookup->Ra,wpAny_holding->Qb,wpAny_field->Px,Params->Qg,wpAny_passesOwn->Re,wpAny_getItem_str_slice->Tg,wpAny_call_entry->Rv,wpAny_Call_Name_kw->Se,call_meets->Qh,Stmt->Qv,wpAny_pyIter_tuple->Tq,wpAny_specialOf->Sk,codeAny_builtin->Sl,plainId_quiet->R3,wpAny_pyIter_rangeiter->Up,noFill_tuple_add->Tu,wpAny_standAt->Sm,wpAny_execs_nil->Tx,post_val_or_str->T0,wpAny_of_eq->R8,wpAny_updateSeq->T2,wpAny_ite_false->T3,codeAny_mono->So,wpAny_setField_rec->Uz,wpAny_mono->R9,wpAny_pyIter_list->U8,sizeLine_eq->Sr,seq_tuple_add->T9,Within->Ua,concat_meets->Ub,wpAny_typeOf->Uc,wpAny_rule->Su,typeIs_int->Sv,seqIndex_of->Ug
open PySem.Around renaming under_plainId->Sc
open PySem.AutoSeq1 renaming wpAny_loadPart'->Sy
open PySem.Builtin.List renaming listTooLong->Te,listLengthHint->Ui,listExtendWith->Uj
open PySem.Builtin.Range renaming rangeFitsLong->O7,rangeSize->P5
open PySem.Builtin.Slice renaming slicePlaces->Ta,sliceAdjust->Uk
open PySem.Builtin.SmallTypes renaming nextOf->Tb,ownedTupleIsFree->Vl
open PySem.Builtin.Str renaming strSliceIndices->S9
open PySem.Builtin.Tuple renaming tupleExact->Td
open PySem.Calls renaming spliced_cons->Ux,spliced_nil->U7
open PySem.Challenge renaming pw_gapscribe_k28_whole_no_shorter_row->Rj
open PySem.F renaming plainAttrs_list->Pg,slot_list_append->Qy,type_list_append->Qz,slot_tuple_iterator_next->Sx,plain_extend_loop->Sa,slot_list_pop->Rp,type_list_pop->Rq,slot_enumerate_next->Sz,slot_tuple_mul->Sb,args_tuple_add_2->Tc,entry_tuple_add->Tf,slot_tuple_add->Th,args_tuple_mul_2->Ul,args_tuple_iterator_next_1->Vm,entry_tuple_iterator_next->Vn,entry_tuple_mul->Uo,slot_range_reversed->Ur,args_enumerate_next_1->Vo,entry_enumerate_next->Vp
open PySem.Heap renaming get?_push_of_some->Oq,get?_push_size->O0,lt_size->Os,SameBut->Pe,get?_update_other->Rn,get?_update_self->Ro,size_push->Q3,ExtBut->Uh
open PySem.Obj renaming mapSeq->Pk
open PySem.Paired renaming length->T8
open PySem.PassesOwn renaming never->O8
open PySem.SeqAt renaming EqAt->Oj,RcAt->Qu
open PySem.SeqAt.EqAt renaming same->Rf,of_refs->Sg,int_str->Tl,str_int->To,str_str->Tp,int_int->Uy
open PySem.SeqAt.RcAt renaming tuples->Si
open PySem.Str renaming ofString->Pw
open PySem.Txt renaming slice->P4,slice_le->Ue
open PySem.W renaming Frag->Og,nsIn->O5,emptyDict->Po,findIn->Ph,kia_one->Ps,instObj->P0,keepIn->P3,fnOf->Pn,kitOne->Q4,BT->Qc,makesIn->Rx,codeIn->Rz,Looks->R1,methodObj->U2,plainOver->U3,hasDictIn->U4,specialIn->U5,kitx_list->U6,makes_of->Vb,plainGet->Vc,takerIn->Vg,takesIn->Vh,OpenLaw->Vj,kitMeta->Vk
namespace L2
open PySem PySem.Spec PyProof.Rows
noncomputable abbrev Ap:=Sum Int Str
noncomputable def Gw:Ap->Value->Bool
 | .inl k,v=>Value.isInt k v
 | .inr x,v=>Value.isStrOf x v
noncomputable def keyH (w:World):Ap->Int
 | .inl k=>hashInt k
 | .inr x=>hashStr w x
theorem Eo:∀{k:Ap}{v:Value},Gw k v=true->(∃ i t,k=Sum.inl i/\v=Value.int i t)\/(∃ x t,k=Sum.inr x/\v=Value.str x t)
 | .inl i,v,h=>by
  obtain ⟨t,e⟩:=Value.isInt_shape (k:=i) (v:=v) h
  exact .inl ⟨i,t,rfl,e⟩
 | .inr x,v,h=>by
  obtain ⟨t,e⟩:=Value.isStrOf_shape (x:=x) (v:=v) h
  exact .inr ⟨x,t,rfl,e⟩
theorem Zgt (i:Int)(t:Tok):Gw (.inl i) (.int i t)=true:=by simp [Gw,Value.isInt]
theorem Zhl (x:Str)(t:Tok):Gw (.inr x) (.str x t)=true:=by simp [Gw,Value.isStrOf]
theorem Zf8 (a b:Int):decide ((Sum.inl a:Ap)=Sum.inl b)=(a == b):=by
 by_cases e:a=b
 ·subst e;simp
 ·have h:¬ (Sum.inl a:Ap)=Sum.inl b:=fun q=>e (Sum.inl.inj q)
  rw [decide_eq_false h]
  exact (beq_eq_false_iff_ne.mpr e).symm
theorem Zjd (a b:Str):decide ((Sum.inr a:Ap)=Sum.inr b)=decide (a=b):=by
 by_cases e:a=b
 ·subst e;simp
 ·have h:¬ (Sum.inr a:Ap)=Sum.inr b:=fun q=>e (Sum.inr.inj q)
  rw [decide_eq_false h,decide_eq_false e]
theorem Zj6 (a:Int)(b:Str):decide ((Sum.inl a:Ap)=Sum.inr b)=false:=decide_eq_false (fun q=>nomatch q)
theorem Znt (a:Str)(b:Int):decide ((Sum.inr a:Ap)=Sum.inl b)=false:=decide_eq_false (fun q=>nomatch q)
noncomputable def Cz (prog:Program)(w:World):PySem.KeyKind prog w Ap where
 is:=Gw
 hash:=keyH w
 inj:=fun v a b ha hb=>by
  rcases Eo ha with ⟨i,t,rfl,rfl⟩ | ⟨x,t,rfl,rfl⟩
  ·rcases Eo hb with ⟨j,u,rfl,e⟩ | ⟨y,u,rfl,e⟩
   ·injection e with e1 _;rw [e1]
   ·exact nomatch e
  ·rcases Eo hb with ⟨j,u,rfl,e⟩ | ⟨y,u,rfl,e⟩
   ·exact nomatch e
   ·injection e with e1 _;rw [e1]
 byValue:=fun k v h=>by
  rcases Eo h with ⟨i,t,rfl,rfl⟩ | ⟨x,t,rfl,rfl⟩ <;> rfl
 pyHash:=fun hv h=>by
  rcases Eo hv with ⟨i,t,rfl,rfl⟩ | ⟨x,t,rfl,rfl⟩
  ·exact wpAny_pyHash_int h
  ·exact wpAny_pyHash_str h
 eqBool:=fun hu hv h=>by
  rcases Eo hu with ⟨i,t,rfl,rfl⟩ | ⟨x,t,rfl,rfl⟩
  ·rcases Eo hv with ⟨j,u,rfl,rfl⟩ | ⟨y,u,rfl,rfl⟩
   ·rw [Zf8] at h;exact wpAny_eqBool_int h
   ·rw [Zj6] at h;exact Tl i t y u _ _ _ _ h
  ·rcases Eo hv with ⟨j,u,rfl,rfl⟩ | ⟨y,u,rfl,rfl⟩
   ·rw [Znt] at h;exact To x t j u _ _ _ _ h
   ·rw [Zjd] at h;exact wpAny_eqBool_str h
 «strs»:=fun k x t v h=>by
  rcases Eo h with ⟨i,u,rfl,e⟩ | ⟨y,u,rfl,e⟩
  ·exact nomatch e
  ·injection e with e1 _
   subst e1
   cases v <;> rfl
theorem Zg3 (prog:Program)(w:World)(i:Int)(t:Tok):(Cz prog w).is (.inl i) (.int i t)=true:=Zgt i t
theorem Zhx (prog:Program)(w:World)(x:Str)(t:Tok):(Cz prog w).is (.inr x) (.str x t)=true:=Zhl x t
inductive V where
 | non | bl (b:Bool) | int (i:Int) | str (x:Str) | byt (b:Array UInt8) | flt (b:UInt64) | ref (a:Addr) | ty (n:String)
 deriving DecidableEq
noncomputable def RelV:V->Value->Prop
 | .non,u=>u=Value.none
 | .bl b,u=>u=Value.bool b
 | .int i,u=>∃ t,u=Value.int i t
 | .str x,u=>∃ t,u=Value.str x t
 | .byt b,u=>∃ t,u=Value.bytes b t
 | .flt b,u=>∃ t,u=Value.float b t
 | .ref a,u=>u=Value.ref a
 | .ty n,u=>u=Value.type n
noncomputable abbrev Vals:List V->List Value->Prop:=Paired RelV
theorem Vals.length {xs:List V}{us:List Value}(r:Vals xs us):xs.length=us.length:=T8 r
theorem Vals.get:∀{xs:List V}{us:List Value}{i:Nat}{x:V},Vals xs us->xs[i]?=some x->∃ u,us[i]?=some u/\RelV x u
 | _,_,_,_,.nil,e=>by simp at e
 | _,_,0,_,.cons r _,e=>by simp at e;subst e;exact ⟨_,rfl,r⟩
 | _,_,i+1,x,.cons _ t,e=>by
  obtain ⟨u,h1,h2⟩:=Vals.get (i:=i) (x:=x) t (by simpa using e)
  exact ⟨u,by simpa using h1,h2⟩
theorem Vals.set {x:V}{u:Value}(r:RelV x u):∀{xs:List V}{us:List Value}(i:Nat),Vals xs us->Vals (xs.set i x) (us.set i u)
 | _,_,_,.nil=>.nil
 | _,_,0,.cons _ t=>.cons r t
 | _,_,i+1,.cons q t=>.cons q (Vals.set r i t)
theorem Vals.append:∀{xs ys:List V}{us ws:List Value},Vals xs us->Vals ys ws->Vals (xs++ys) (us++ws)
 | _,_,_,_,.nil,s=>s
 | _,_,_,_,.cons r t,s=>.cons r (Vals.append t s)
theorem Vals.take:∀{xs:List V}{us:List Value}(n:Nat),Vals xs us->Vals (xs.take n) (us.take n)
 | _,_,0,_=>.nil
 | _,_,_+1,.nil=>.nil
 | _,_,n+1,.cons r t=>.cons r (Vals.take n t)
theorem Vals.drop:∀{xs:List V}{us:List Value}(n:Nat),Vals xs us->Vals (xs.drop n) (us.drop n)
 | _,_,0,r=>r
 | _,_,_+1,.nil=>.nil
 | _,_,n+1,.cons _ t=>Vals.drop n t
noncomputable def RelO:Option V->Option Value->Prop
 | some v,some u=>RelV v u
 | none,none=>True
 | _,_=>False
noncomputable def KV {κ:Type}:List (κ×V)->List (κ×Value)->Prop:=Paired fun (p:κ×V) (q:κ×Value)=>p.1=q.1/\RelV p.2 q.2
noncomputable def kV:Ap->V
 | .inl i=>.int i
 | .inr x=>.str x
inductive HO where
  | lst (xs:List V)
  | tup (xs:List V)
  | dK (kvs:List (Ap×V)) | dT (kvs:List (List Ap×V))
  | set (S:Int->Bool) (n:Nat)
  | ins (C dx:Addr) (fs:List (Str×V))
  | own (x:Addr)
  | xd (fs:List (Str×V))
  | met (f x:Addr)
  | rng (lo hi:Int)
  | frz (o:Obj) (u:HO)
  | tbl (ps:Array Value)
  | ext (φ:Heap->Prop)
noncomputable abbrev Hp:=Addr->Option HO
noncomputable def upd (H:Hp)(a:Addr)(o:HO):Hp:=fun b=>if b=a then some o else H b
theorem Ad {H:Hp}{a:Addr}{o:HO}:upd H a o a=some o:=by unfold upd;rw [if_pos rfl]
theorem Ah {H:Hp}{a b:Addr}{o:HO}(h:b≠a):upd H a o b=H b:=by unfold upd;rw [if_neg h]
theorem Nd {H:Hp}{a:Addr}{o u:HO}:upd (upd H a o) a u=upd H a u:=by
 funext b;unfold upd;split <;> rfl
theorem Gu {H:Hp}{a b:Addr}{o u:HO}(h:H a=some o)(h':H b=some u)(d:o≠u):a≠b:=by
 intro e;subst e;rw [h] at h';exact d (Ov h')
theorem Bf {H:Hp}{a b:Addr}{o:HO}(h:H a=some o)(h':H b=none):a≠b:=by
 intro e;subst e;rw [h] at h';cases h'
section
variable (P:Program)(w:World)
noncomputable def ObjOk (H:Hp)(h:Heap)(a:Addr):HO->Prop
 | .lst xs=>xs.length<=sizeLine/\∃(its:List Value)(n:Nat),Vals xs its/\h.get? a=some { cls:=.type "list",data:=.seq its.toArray n }
 | .tup xs=>xs.length<=sizeLine/\∃ its:List Value,Vals xs its/\IsTup h a its.toArray
 | .dK kvs=>kvs.length<=sizeLine/\(a == sysModules)=false/\∃ vs,KV kvs vs/\h.DictOf (Cz P w) a vs
 | .dT kvs=>kvs.length<=sizeLine/\(a == sysModules)=false/\∃ xs:List (List Ap×Addr×Value),
   Paired (fun (p:List Ap×V) (q:List Ap×Addr×Value)=>p.1=q.1/\H q.2.1=some (.tup (p.1.map kV))/\RelV p.2 q.2.2) kvs xs /\
   ∃ o es ep,h.get? a=some o/\o.ExactDict/\o.data=.dict es ep/\es.toList=xs.map (entryOfKey (tupleKind (Cz P w)))/\(xs.map (·.1)).Nodup
 | .set S n=>h.SetOf (intKind P w) a S n
 | .ins C dx fs=>H dx=some (.own a)/\fs.length<=1000/\dx≠a/\h.get? a=some (P0 C dx) /\
   ∃ mA,h.Ns1 dx mA/\(∀ f,RelO (fs.lookup f) (mA f))/\Ua mA (fs.map (·.1))
 | .own _=>∃ o,h.get? a=some o
 | .xd fs=>∃ mA,h.Ns1 a mA/\∀ f,RelO (fs.lookup f) (mA f)
 | .rng lo hi=>∃ t u v,h.get? a=some { cls:=.type "range",data:=.fields #[.int lo t,.int hi u,.int 1 v] }
 | .frz o u=>h.get? a=some o/\ObjOk H h a u
 | .tbl ps=>h.get? a=some { cls:=.none,data:=.fields ps }
 | .met f x=>h.get? a=some (U2 (.ref f) (.ref x))
 | .ext φ=>φ h/\(∃ o,h.get? a=some o)/\∀ h1 h2:Heap,φ h1->(∀ o,h1.get? a=some o->h2.get? a=some o)->φ h2
noncomputable def HOk (H:Hp)(h:Heap):Prop:=∀ a o,H a=some o->ObjOk P w H h a o
end
section
variable {P:Program}{w:World}{H H':Hp}{h h':Heap}{a:Addr}{o:HO}
theorem ObjOk.lt (x:ObjOk P w H h a o):a < h.objs.size:=by
 cases o with
 | lst xs=>obtain ⟨_,_,_,_,e⟩:=x;exact Os e
 | tup xs=>obtain ⟨_,_,_,p⟩:=x;exact p.lt
 | dK kvs=>obtain ⟨_,_,_,_,o,_,_,e,_⟩:=x;exact Os e
 | dT kvs=>obtain ⟨_,_,_,_,o,_,_,e,_⟩:=x;exact Os e
 | set S n=>obtain ⟨o,_,_,_,e,_⟩:=x;exact Os e
 | ins C dx fs=>obtain ⟨_,_,_,e,_⟩:=x;exact Os e
 | own y=>obtain ⟨_,e⟩:=x;exact Os e
 | xd fs=>obtain ⟨_,⟨_,_,_,e,_⟩,_⟩:=x;exact Os e
 | rng lo hi=>obtain ⟨_,_,_,e⟩:=x;exact Os e
 | frz ob u=>obtain ⟨e,_⟩:=x;exact Os e
 | tbl ps=>exact Os (show h.get? a=some _ from x)
 | met f y=>exact Os (show h.get? a=some _ from x)
 | ext φ=>obtain ⟨_,⟨_,e⟩,_⟩:=x;exact Os e
theorem Paired.mapP {α β:Type}{F G:α->β->Prop}:∀{l₁:List α}{l₂:List β},Paired F l₁ l₂->(∀ a b,F a b->G a b)->Paired G l₁ l₂
 | _,_,.nil,_=>.nil
 | _,_,.cons r t,f=>.cons (f _ _ r) (Paired.mapP t f)
theorem ObjOk.stay (x:ObjOk P w H h a o)(k:∀ b u,(b=a\/H b=some (.own a))->h.get? b=some u->h'.get? b=some u)
  (ho:∀ b,H b=some (.own a)->H' b=some (.own a)) (ht:∀ b xs,H b=some (.tup xs)->H' b=some (.tup xs)):ObjOk P w H' h' a o:=by
 induction o with
 | lst xs=>obtain ⟨z,its,n,r,e⟩:=x;exact ⟨z,its,n,r,k _ _ (.inl rfl) e⟩
 | tup xs=>obtain ⟨z,its,r,ob,e,c⟩:=x;exact ⟨z,its,r,ob,k _ _ (.inl rfl) e,c⟩
 | dK kvs=>obtain ⟨z,y,vs,r,ob,es,ep,e,c⟩:=x;exact ⟨z,y,vs,r,ob,es,ep,k _ _ (.inl rfl) e,c⟩
 | dT kvs =>
  obtain ⟨z,y,xs,r,ob,es,ep,e,c⟩:=x
  exact ⟨z,y,xs,Paired.mapP r fun p q z=>⟨z.1,ht _ _ z.2.1,z.2.2⟩,ob,es,ep,k _ _ (.inl rfl) e,c⟩
 | set S n=>obtain ⟨ob,es,ep,t,e,c⟩:=x;exact ⟨ob,es,ep,t,k _ _ (.inl rfl) e,c⟩
 | ins C dx fs =>
  obtain ⟨d,z,ne,e,mA,⟨od,es,ep,e2,c⟩,r⟩:=x
  exact ⟨ho _ d,z,ne,k _ _ (.inl rfl) e,mA,⟨od,es,ep,k _ _ (.inr d) e2,c⟩,r⟩
 | own y=>obtain ⟨ob,e⟩:=x;exact ⟨ob,k _ _ (.inl rfl) e⟩
 | xd fs=>obtain ⟨mA,⟨od,es,ep,e,c⟩,r⟩:=x;exact ⟨mA,⟨od,es,ep,k _ _ (.inl rfl) e,c⟩,r⟩
 | rng lo hi=>obtain ⟨t,u,v,e⟩:=x;exact ⟨t,u,v,k _ _ (.inl rfl) e⟩
 | frz ob u ih=>obtain ⟨e,q⟩:=x;exact ⟨k _ _ (.inl rfl) e,ih q⟩
 | tbl ps =>
  have e:h.get? a=some { cls:=.none,data:=.fields ps }:=x
  show h'.get? a=some { cls:=.none,data:=.fields ps }
  exact k a _ (.inl rfl) e
 | met f y =>
  have e:h.get? a=some (U2 (.ref f) (.ref y)):=x
  show h'.get? a=some (U2 (.ref f) (.ref y))
  exact k a _ (.inl rfl) e
 | ext φ=>obtain ⟨p,⟨o,e⟩,st⟩:=x;exact ⟨st _ _ p fun o q=>k _ _ (.inl rfl) q,⟨o,k _ _ (.inl rfl) e⟩,st⟩
theorem HOk.lt (x:HOk P w H h)(e:H a=some o):a < h.objs.size:=(x a o e).lt
theorem HOk.fresh (x:HOk P w H h)(e:h.objs.size<=a):H a=none:=by
 cases q:H a with
 | none=>rfl
 | some u=>exact absurd (O3 (x.lt q) e) (Qa _)
theorem HOk.kept (x:HOk P w H h)(k:∀ b u,h.get? b=some u->h'.get? b=some u):HOk P w H h':=fun a o e =>
 (x a o e).stay (fun b u _ q=>k b u q) (fun _ q=>q) fun _ _ q=>q
theorem HOk.laid (x:HOk P w H h)(k:∀ b u,h.get? b=some u->h'.get? b=some u)(hp:h.objs.size<=a)(new:ObjOk P w (upd H a o) h' a o):HOk P w (upd H a o) h':=fun b u e=>by
 have hn:=x.fresh hp
 by_cases hb:b=a
 ·subst hb;rw [Ad] at e;cases e;exact new
 ·rw [Ah hb] at e
  exact (x b u e).stay (fun c v _ q=>k c v q) (fun c q=>by rw [Ah (Bf q hn)];exact q) fun c xs q=>by rw [Ah (Bf q hn)];exact q
end
noncomputable def Rd (H:Hp)(a:Addr)(u:HO):Prop:=H a=some u\/∃ o,H a=some (.frz o u)
theorem Rd.ok {P:Program}{w:World}{H:Hp}{h:Heap}{a:Addr}{u:HO}(r:Rd H a u)(x:HOk P w H h):ObjOk P w H h a u:=by
 rcases r with r | ⟨o,r⟩
 ·exact x a u r
 ·obtain ⟨_,q⟩:=x a _ r
  exact q
noncomputable def Mut:Option HO->Prop
 | some (.lst _)=>True
 | some (.dK _)=>True
 | some (.dT _)=>True
 | some (.set _ _)=>True
 | some (.ins _ _ _)=>True
 | some (.ext _)=>True
 | _=>False
section
variable {P:Program}{w:World}{H:Hp}{h h':Heap}{x e:Addr}{o':HO}
theorem HOk.write (ok:HOk P w H h)(mu:Mut (H x))(he:e=x\/H e=some (.own x))(k:∀ b u,b≠e->h.get? b=some u->h'.get? b=some u)(heo:∃ u,h'.get? e=some u)
  (new:ObjOk P w (upd H x o') h' x o'):HOk P w (upd H x o') h':=fun b u q=>by
 have nown:∀ c y,H c=some (.own y)->c≠x:=fun c y r z=>by subst z;rw [r] at mu;exact mu
 have ntup:∀ c xs,H c=some (.tup xs)->c≠x:=fun c xs r z=>by subst z;rw [r] at mu;exact mu
 by_cases hb:b=x
 ·subst hb;rw [Ad] at q;cases q;exact new
 ·rw [Ah hb] at q
  by_cases hbe:b=e
  ·have q':H b=some (.own x):=by
    rcases he with z | z
    ·exact absurd (hbe.trans z) hb
    ·rw [hbe];exact z
   rw [q] at q';cases q'
   obtain ⟨v,hv⟩:=heo
   exact ⟨v,by rw [hbe];exact hv⟩
  ·refine (ok b u q).stay (fun c v hc r=>k c v ?_ r) (fun c r=>by rw [Ah (nown c b r)];exact r) fun c xs r=>by rw [Ah (ntup c xs r)];exact r
   rcases hc with rfl | hc
   ·exact hbe
   ·rintro rfl
    rcases he with z | z
    ·exact nown c b hc z
    ·rw [hc] at z;cases z;exact hb rfl
end
structure Un (fs ex:List Addr)(H H':Hp)(h h':Heap):Prop where
 keep:∀ b o,h.get? b=some o->H b=none->b ∉ fs->b ∉ ex->h'.get? b=some o
 slot:∀ b o,h.get? b=some o->H b=none->b∈fs->b ∉ ex->∃ sl,h'.get? b=some { o with slots:=sl }
 free:∀ b o,h.get? b=some o->H b=none->b ∉ ex->H' b=none
 there:∀ b o,h.get? b=some o->b ∉ ex->∃ o',h'.get? b=some o'
 tups:∀ b xs,H b=some (.tup xs)->H' b=some (.tup xs)
 frzs:∀ b o u,H b=some (.frz o u)->H' b=some (.frz o u)
 tbls:∀ b ps,H b=some (.tbl ps)->∃ more,H' b=some (.tbl (ps++more))
section
variable {fs fs' ex ex':List Addr}{H H1 H2:Hp}{h h1 h2 h':Heap}{a x e:Addr}{o:HO}
theorem Un.any (u:Un fs ex H H1 h h1){b:Addr}{ob:Obj}(q:h.get? b=some ob)(n:H b=none)(hx:b ∉ ex):∃ sl,h1.get? b=some { ob with slots:=sl }:=by
 by_cases hb:b∈fs
 ·exact u.slot b ob q n hb hx
 ·exact ⟨ob.slots,u.keep b ob q n hb hx⟩
theorem Un.kept (k:∀ b u,h.get? b=some u->h'.get? b=some u):Un fs ex H H h h' :=
 ⟨fun b ob q _ _ _=>k b ob q,fun b ob q _ _ _=>⟨ob.slots,k b ob q⟩,fun _ _ _ n _=>n,fun b ob q _=>⟨ob,k b ob q⟩,fun _ _ q=>q,fun _ _ _ q=>q,fun _ ps q=>⟨#[],by rw [q];simp⟩⟩
theorem Un.refl:Un fs ex H H h h:=Un.kept fun _ _ q=>q
theorem Un.laid (k:∀ b u,h.get? b=some u->h'.get? b=some u)(hp:h.objs.size<=a)(hn:H a=none):Un fs ex H (upd H a o) h h' where
 keep:=fun b u q _ _ _=>k b u q
 slot:=fun b u q _ _ _=>⟨u.slots,k b u q⟩
 free:=fun b u q n _=>by rw [Ah (Oy (O3 (Os q) hp))];exact n
 there:=fun b u q _=>⟨u,k b u q⟩
 tups:=fun b xs q=>by rw [Ah (Bf q hn)];exact q
 frzs:=fun b u xs q=>by rw [Ah (Bf q hn)];exact q
 tbls:=fun b ps q=>⟨#[],by rw [Ah (Bf q hn),q];simp⟩
theorem Un.write (mu:Mut (H x))(he:e=x\/H e=some (.own x))(k:∀ b u,b≠e->h.get? b=some u->h'.get? b=some u)(heo:∃ u,h'.get? e=some u):Un fs ex H (upd H x o) h h':=by
 have hx:∀ b,H b=none->b≠x:=fun b n z=>by subst z;rw [n] at mu;exact mu
 have hb:∀ b,H b=none->b≠e:=fun b n z=>by
  subst z
  rcases he with r | r
  ·exact hx b n r
  ·rw [n] at r;cases r
 have hm:∀ b u,H b=some u->¬ Mut (some u)->b≠x:=fun b u q nm z=>by subst z;rw [q] at mu;exact nm mu
 refine ⟨fun b u q n _ _=>k b u (hb b n) q,fun b u q n _ _=>⟨u.slots,k b u (hb b n) q⟩,fun b u q n _=>by rw [Ah (hx b n)];exact n,fun b u q _=>?_,
  fun b xs q=>by rw [Ah (hm b _ q fun z=>z)];exact q,fun b u xs q=>by rw [Ah (hm b _ q fun z=>z)];exact q,fun b ps q=>⟨#[],by rw [Ah (hm b _ q fun z=>z),q];simp⟩⟩
 by_cases hbe:b=e
 ·subst hbe;exact heo
 ·exact ⟨u,k b u hbe q⟩
end
noncomputable def trk (h:Heap)(H:Hp):List Addr:=(O2 h.objs.size).filter fun a=>(H a).isSome
noncomputable def Ej (h:Heap)(H:Hp):Heap:=PySem.W.hideAll h (trk h H)
theorem Znz (h:Heap)(H:Hp):(Ej h H).objs.size=h.objs.size:=PySem.W.hideAll_size _ _
theorem Zpd {h:Heap}{H:Hp}{b:Addr}{o:Obj}(e:h.get? b=some o)(n:H b=none):(Ej h H).get? b=some o :=
 PySem.W.hideAll_get _ e fun hm=>by
  have q:(H b).isSome=true:=(Vf.mp hm).2
  rw [n] at q;simp at q
theorem Zn1 {h:Heap}{H:Hp}{b:Addr}{o:Obj}(e:(Ej h H).get? b=some o):h.get? b=some o/\H b=none:=by
 have e':h.get? b=some o:=PySem.W.of_hideAll (trk h H) e
 refine ⟨e',?_⟩
 cases q:H b with
 | none=>rfl
 | some x =>
  have hm:b∈trk h H:=Vf.mpr ⟨T6.mpr (Os e'),by simp [q]⟩
  have z:(Ej h H).get? b=none:=PySem.W.hideAll_none (trk h H) hm
  rw [z] at e;cases e
structure Mod (K:Og)(mg:Str->Option Value)(base:Heap):Prop where
 kin:K.In base
 glob:base.Ns mainGlobals mg
 blt:∃ mb,base.Ns builtinsNs mb/\∀ x:Str,x ≠ "__name__" -> mb x=bootBuiltins x
 nolimit:base.NoLimit
structure Cx where
 prog:Program
 w:World
 K:Og
 mg:Str->Option Value
 base:Heap
 A:Around
 N:List Str
 s₀:Shared
 H₀:Hp
 env:Env
 outer:List Env
 stack:List Env
 ex:List Addr
 fn:Str->Bool
 calm:Bool
 pn:List (Addr×Obj)
 xe:Value->Shared->Prop
noncomputable def Co (l:List Env):List Addr:=l.filterMap (·.frame)
noncomputable abbrev Cx.fs (X:Cx):List Addr:=Co X.outer
noncomputable def Vis (sc:Scope)(x:Str):Prop:=sc.names.lookup x=some .local\/sc.names.lookup x=some .cell\/sc.names.lookup x=some .free
noncomputable def Ew (sc:Scope)(x:Str):Prop:=sc.names.lookup x=some .local\/sc.names.lookup x=some .cell
noncomputable def Look (env:Env)(h:Heap)(m:Str->Option Value)(x:Str)(u:Value):Prop :=
 (env.kindOf x=some .local/\m x=some u)\/((env.kindOf x=some .cell\/env.kindOf x=some .free)/\∃ c,env.cells.lookup x=some c/\h.IsCell c (some u))
structure Cx.Ok (X:Cx):Prop where
 mod:Mod X.K X.mg X.base
 kind:X.env.scope.kind=.function
 glob:X.env.globals=mainGlobals
 blt:X.env.builtins=builtinsNs
 above:X.s₀.heap.objs.size<=X.env.locals
 inj:∀ x y c,X.env.cells.lookup x=some c->X.env.cells.lookup y=some c->x=y
 has:∀ x,(X.env.kindOf x=some .cell\/X.env.kindOf x=some .free)->∃ c,X.env.cells.lookup x=some c
 cab:∀ x c,X.fn x=true->X.env.cells.lookup x=some c->X.s₀.heap.objs.size<=c
 hd:X.calm=true->X.A.handled=none
 frames:X.A.frames=some X.stack
 stk:X.stack=X.outer\/(X.stack=X.env::X.outer/\X.env.frame=some X.env.locals)
 exf:∀ b∈X.ex,b≠X.env.locals/\∀ x c,X.env.cells.lookup x=some c->c≠b
 bs:∀ b o,X.base.get? b=some o->X.s₀.heap.get? b=some o/\X.H₀ b=none
 bsz:X.base.objs.size<=X.s₀.heap.objs.size
 noex:∀ b o,X.base.get? b=some o->b ∉ X.ex
 exfs:∀ b∈X.ex,b ∉ X.fs
 funs:X.s₀.heap.FunFrames X.base X.outer
 frf:∀ b∈X.fs,X.H₀ b=none
structure Inv (X:Cx)(pins:List (Addr×Obj))(σ:List (Option V))(H:Hp)(s:Shared):Prop where
 ok:X.Ok
 os:s.os=X.s₀.os
 bare:AllBare s.gens
 base:Un X.fs X.ex X.H₀ H X.s₀.heap s.heap
 loc:∃ m,s.heap.Ns X.env.locals m/\∀(i:Nat)(x:Str)(v:V),X.N[i]?=some x->σ[i]?=some (some v)->Vis X.env.scope x->∃ u,RelV v u/\Look X.env s.heap m x u
 cell:∀ x c,X.env.cells.lookup x=some c->∃ v,s.heap.IsCell c v
 free:H X.env.locals=none
 freeC:∀ x c,X.env.cells.lookup x=some c->H c=none
 pin:∀ p∈X.pn++pins,s.heap.get? p.1=some p.2/\H p.1=none/\p.1≠X.env.locals/\p.1 ∉ X.fs/\∀ v,p.2.data≠.cell v
 hok:HOk X.prog X.w H s.heap
 len:σ.length=X.N.length
section
variable {X:Cx}{pins:List (Addr×Obj)}{σ:List (Option V)}{H H':Hp}{s:Shared}{h':Heap}
theorem Cx.Ok.nofr (ok:X.Ok){b:Addr}{o:Obj}(e:X.base.get? b=some o):b ∉ X.fs:=fun hb=>by
 have:=(ok.funs.mem hb).1
 rw [e] at this;cases this
theorem Inv.bs (I:Inv X pins σ H s):∀ b o,X.base.get? b=some o->s.heap.get? b=some o/\H b=none:=fun b o e =>
 ⟨I.base.keep b o (I.ok.bs b o e).1 (I.ok.bs b o e).2 (I.ok.nofr e) (I.ok.noex b o e),I.base.free b o (I.ok.bs b o e).1 (I.ok.bs b o e).2 (I.ok.noex b o e)⟩
theorem Inv.bk (I:Inv X pins σ H s):∀ b o,X.base.get? b=some o->s.heap.get? b=some o:=fun b o e=>(I.bs b o e).1
theorem Inv.mod (I:Inv X pins σ H s):Mod X.K X.mg X.base:=I.ok.mod
theorem Inv.kIn (I:Inv X pins σ H s):X.K.In s.heap:=I.ok.mod.kin.keeps I.bk
theorem Inv.lt (I:Inv X pins σ H s):X.env.locals < s.heap.objs.size:=let ⟨_,hn,_⟩:=I.loc;hn.lt
theorem Inv.sz (I:Inv X pins σ H s):X.s₀.heap.objs.size<=s.heap.objs.size:=Pc I.ok.above (Nat.le_of_lt I.lt)
theorem Inv.nofs (I:Inv X pins σ H s){a:Addr}(h:s.heap.objs.size<=a):a ∉ X.fs:=fun hb=>by
 obtain ⟨_,o,ho,_⟩:=I.ok.funs.mem hb
 exact absurd (O3 (Os ho) (Pc I.sz h)) (Qa _)
theorem Inv.cne (I:Inv X pins σ H s):∀ x c,X.env.cells.lookup x=some c->c≠X.env.locals:=fun x c e z=>by
 obtain ⟨v,o,ho,hd⟩:=I.cell x c e
 obtain ⟨m,⟨o',es,ep,ho',hd',_⟩,_⟩:=I.loc
 rw [z,ho'] at ho;cases ho;rw [hd'] at hd;cases hd
theorem Inv.funs (I:Inv X pins σ H s):s.heap.FunFrames X.base X.outer:=by
 have all:∀(l:List Env),(∀ b∈Co l,b∈X.fs)->X.s₀.heap.FunFrames X.base l->s.heap.FunFrames X.base l:=by
  intro l
  induction l with
  | nil=>intro _ _;trivial
  | cons env r ih =>
   intro hs hl
   obtain ⟨hk,⟨L,o,hf,hn,ho,hd⟩,hr⟩:=hl
   have hL:L∈X.fs:=hs L (by unfold Co;rw [Ut,hf];exact Pl)
   obtain ⟨sl,e⟩:=I.base.slot L o ho (I.ok.frf L hL) hL fun z=>I.ok.exfs L z hL
   exact ⟨hk,⟨L,_,hf,hn,e,hd⟩,ih (fun b hb=>hs b (by unfold Co;rw [Ut,hf];exact Pd _ hb)) hr⟩
 exact all X.outer (fun _ hb=>hb) I.ok.funs
theorem Inv.stack (I:Inv X pins σ H s):s.heap.FunFrames X.base X.stack:=by
 rcases I.ok.stk with e | ⟨e,hf⟩
 ·rw [e];exact I.funs
 ·rw [e]
  obtain ⟨m,hn,_⟩:=I.loc
  refine .cons (by rw [I.ok.kind];decide) hf hn ?_ I.funs
  exact Heap.get?_none_of_le (Pc I.ok.bsz I.ok.above)
theorem Inv.stkSub (I:Inv X pins σ H s):∀ b∈Co X.stack,b∈X.env.locals::X.fs:=fun b hb=>by
 rcases I.ok.stk with e | ⟨e,hf⟩
 ·rw [e] at hb;exact Pd _ hb
 ·rw [e] at hb
  unfold Co at hb
  rw [Ut,hf] at hb
  exact hb
theorem Inv.stkFree (I:Inv X pins σ H s):∀ b∈Co X.stack,H b=none:=fun b hb=>by
 rcases Ow.mp (I.stkSub b hb) with e | hb
 ·rw [e];exact I.free
 ·obtain ⟨_,o,ho,_⟩:=I.ok.funs.mem hb
  exact I.base.free b o ho (I.ok.frf b hb) fun z=>I.ok.exfs b z hb
theorem Inv.step {g':Array GenState}{t':Nat}{d':Drawn}{ch:List Addr}(I:Inv X pins σ H s)
  (hch:∀ b∈ch,(b∈X.ex\/X.s₀.heap.objs.size<=b)/\b≠X.env.locals/\(∀ x c,X.env.cells.lookup x=some c->c≠b)/\∀ p∈X.pn++pins,p.1≠b)
  (keep:∀ b o,b≠X.env.locals->b ∉ X.fs->b ∉ ch->s.heap.get? b=some o->H b=none->h'.get? b=some o)
  (slot:∀ b o,b≠X.env.locals->b∈X.fs->b ∉ ch->s.heap.get? b=some o->H b=none->∃ sl,h'.get? b=some { o with slots:=sl }) (free:∀ b o,b ∉ ch->s.heap.get? b=some o->H b=none->H' b=none)
  (there:∀ b o,b ∉ ch->s.heap.get? b=some o->∃ o',h'.get? b=some o')
  (tups:∀ b xs,H b=some (.tup xs)->H' b=some (.tup xs)) (frzs:∀ b o u,H b=some (.frz o u)->H' b=some (.frz o u)) (tbls:∀ b ps,H b=some (.tbl ps)->∃ more,H' b=some (.tbl (ps++more)))
  (ns:∀ m,s.heap.Ns X.env.locals m->h'.Ns X.env.locals m) (hok:HOk X.prog X.w H' h') (hg:AllBare g') :
  Inv X pins σ H' { s with heap:=h',gens:=g',drawn:=d',toks:=t' }:=by
 have neL:∀ b o,X.s₀.heap.get? b=some o->b≠X.env.locals:=fun b o e=>Oy (O3 (Os e) I.ok.above)
 have neC:∀ b o,X.s₀.heap.get? b=some o->b ∉ X.ex->b ∉ ch:=fun b o e hx hb=>by
  rcases (hch b hb).1 with z | z
  ·exact hx z
  ·exact absurd (O3 (Os e) z) (Qa _)
 have cellK:∀ x c,X.env.cells.lookup x=some c->∀ v,s.heap.IsCell c v->h'.IsCell c v:=fun x c e v ⟨o,ho,hd⟩=>by
  have nch:c ∉ ch:=fun z=>(hch c z).2.2.1 x c e rfl
  by_cases hc:c∈X.fs
  ·obtain ⟨sl,q⟩:=slot c o (I.cne x c e) hc nch ho (I.freeC x c e)
   exact ⟨_,q,hd⟩
  ·exact ⟨o,keep c o (I.cne x c e) hc nch ho (I.freeC x c e),hd⟩
 refine ⟨I.ok,I.os,hg,⟨fun b o e n hb hx=>?_,fun b o e n hb hx=>?_,fun b o e n hx=>?_,fun b o e hx=>?_,fun b xs e=>tups b xs (I.base.tups b xs e),fun b o xs e=>frzs b o xs (I.base.frzs b o xs e),fun b ps e=>?_⟩,?_,fun x c e=>?_,?_,fun x c e=>?_,fun p hp=>?_,hok,I.len⟩
 ·exact keep b o (neL b o e) hb (neC b o e hx) (I.base.keep b o e n hb hx) (I.base.free b o e n hx)
 ·obtain ⟨sl,e1⟩:=I.base.slot b o e n hb hx
  obtain ⟨sl',e2⟩:=slot b _ (neL b o e) hb (neC b o e hx) e1 (I.base.free b o e n hx)
  exact ⟨sl',e2⟩
 ·obtain ⟨o',e1⟩:=I.base.there b o e hx
  exact free b o' (neC b o e hx) e1 (I.base.free b o e n hx)
 ·obtain ⟨o',e1⟩:=I.base.there b o e hx
  exact there b o' (neC b o e hx) e1
 ·obtain ⟨m1,e1⟩:=I.base.tbls b ps e
  obtain ⟨m2,e2⟩:=tbls b _ e1
  exact ⟨m1++m2,by rw [e2,Array.append_assoc]⟩
 ·obtain ⟨m,hn,hl⟩:=I.loc
  refine ⟨m,ns m hn,fun i x v e1 e2 e3=>?_⟩
  obtain ⟨u,r,l⟩:=hl i x v e1 e2 e3
  refine ⟨u,r,?_⟩
  rcases l with l | ⟨k,c,e,z⟩
  ·exact .inl l
  ·exact .inr ⟨k,c,e,cellK x c e _ z⟩
 ·obtain ⟨v,z⟩:=I.cell x c e
  exact ⟨v,cellK x c e v z⟩
 ·obtain ⟨m,⟨o,_,_,ho,_⟩,_⟩:=I.loc
  exact free _ o (fun z=>(hch _ z).2.1 rfl) ho I.free
 ·obtain ⟨v,o,ho,hd⟩:=I.cell x c e
  exact free c o (fun z=>(hch c z).2.2.1 x c e rfl) ho (I.freeC x c e)
 ·obtain ⟨e,n,ne,nf,d⟩:=I.pin p hp
  have nch:p.1 ∉ ch:=fun z=>(hch p.1 z).2.2.2 p hp rfl
  exact ⟨keep p.1 p.2 ne nf nch e n,free p.1 p.2 nch e n,ne,nf,d⟩
theorem Inv.un {t':Nat}(I:Inv X pins σ H s)(u:Un X.fs [] H H' s.heap h')(hok:HOk X.prog X.w H' h'):Inv X pins σ H' { s with heap:=h',toks:=t' }:=by
 obtain ⟨m,⟨o,es,ep,ho,r⟩,_⟩:=id I.loc
 obtain ⟨sl,hL⟩:=u.any ho I.free (by simp)
 exact I.step (g':=s.gens) (d':=s.drawn) (ch:=[]) (fun _ z=>nomatch z) (fun b o _ hb _ e n=>u.keep b o e n hb (by simp)) (fun b o _ hb _ e n=>u.slot b o e n hb (by simp)) (fun b o _ e n=>u.free b o e n (by simp)) (fun b o _ e=>u.there b o e (by simp)) u.tups u.frzs u.tbls (fun m' hm=>by
  obtain ⟨o',es',ep',ho',r'⟩:=hm
  rw [ho] at ho';cases ho'
  exact ⟨_,es',ep',hL,r'⟩) hok I.bare
theorem Inv.call {g':Array GenState}{t':Nat}{d':Drawn}{ch:List Addr}(I:Inv X pins σ H s)(u:Un (Co X.stack) ch H H' s.heap h')(hok:HOk X.prog X.w H' h')(hg:AllBare g')
  (hch:∀ b∈ch,(b∈X.ex\/X.s₀.heap.objs.size<=b)/\b≠X.env.locals/\(∀ x c,X.env.cells.lookup x=some c->c≠b)/\∀ p∈X.pn++pins,p.1≠b) :
  Inv X pins σ H' { s with heap:=h',gens:=g',drawn:=d',toks:=t' }:=by
 obtain ⟨m,⟨o,es,ep,ho,r⟩,_⟩:=id I.loc
 obtain ⟨sl,hL⟩:=u.any ho I.free fun z=>(hch _ z).2.1 rfl
 exact I.step (ch:=ch) hch (fun b o hL hb hc e n=>u.keep b o e n (fun z=>(Ow.mp (I.stkSub b z)).elim hL hb) hc) (fun b o _ _ hc e n=>u.any e n hc) (fun b o hc e n=>u.free b o e n hc) (fun b o hc e=>u.there b o e hc) u.tups u.frzs u.tbls (fun m' hm=>by
  obtain ⟨o',es',ep',ho',r'⟩:=hm
  rw [ho] at ho';cases ho'
  exact ⟨_,es',ep',hL,r'⟩) hok hg
theorem Inv.turned {t':Nat}{it:Addr}(I:Inv X pins σ H s)(k:∀ b o,b≠it->s.heap.get? b=some o->h'.get? b=some o)(hn:H it=none)(hL:it≠X.env.locals)
  (h1:it∈X.ex\/X.s₀.heap.objs.size<=it) (h2:∀ x c,X.env.cells.lookup x=some c->c≠it) (h3:∀ p∈X.pn++pins,p.1≠it):Inv X pins σ H { s with heap:=h',toks:=t' }:=by
 have nit:∀ b u,H b=some u->b≠it:=fun b u e z=>by rw [z,hn] at e;cases e
 refine I.step (g':=s.gens) (d':=s.drawn) (ch:=[it]) (fun b hb=>?_) (fun b o _ _ hc e _=>k b o (fun z=>hc (by simp [z])) e) (fun b o _ _ hc e _=>⟨o.slots,k b o (fun z=>hc (by simp [z])) e⟩) (fun _ _ _ _ n=>n)
  (fun b o hc e=>⟨o,k b o (fun z=>hc (by simp [z])) e⟩) (fun _ _ e=>e) (fun _ _ _ e=>e) (fun b ps e=>⟨#[],by rw [e];simp⟩) (fun m hm=>?_) (fun b u e=>?_) I.bare
 ·have e:b=it:=by simpa using hb
  subst e
  exact ⟨h1,hL,h2,h3⟩
 ·obtain ⟨o,es,ep,ho,r⟩:=hm
  exact ⟨o,es,ep,k _ o (Pf hL) ho,r⟩
 ·refine (I.hok b u e).stay (fun c v hc q=>k c v ?_ q) (fun _ q=>q) fun _ _ q=>q
  rcases hc with z | z
  ·rw [z];exact nit b u e
  ·exact nit c _ z
theorem Inv.tok (I:Inv X pins σ H s)(t:Nat):Inv X pins σ H { s with toks:=t }:=I.un (h':=s.heap) (t':=t) Un.refl I.hok
theorem Inv.kept {t':Nat}(I:Inv X pins σ H s)(k:∀ b u,s.heap.get? b=some u->h'.get? b=some u):Inv X pins σ H { s with heap:=h',toks:=t' }:=I.un (Un.kept k) (I.hok.kept k)
theorem Inv.laid {a:Addr}{o:HO}{t':Nat}(I:Inv X pins σ H s)(k:∀ b u,s.heap.get? b=some u->h'.get? b=some u)(hp:s.heap.objs.size<=a)(new:ObjOk X.prog X.w (upd H a o) h' a o) :
  Inv X pins σ (upd H a o) { s with heap:=h',toks:=t' }:=I.un (Un.laid k hp (I.hok.fresh hp)) (I.hok.laid k hp new)
theorem Inv.write {x e:Addr}{o:HO}{t':Nat}(I:Inv X pins σ H s)(mu:Mut (H x))(he:e=x\/H e=some (.own x))(k:∀ b u,b≠e->s.heap.get? b=some u->h'.get? b=some u)(heo:∃ u,h'.get? e=some u)
  (new:ObjOk X.prog X.w (upd H x o) h' x o):Inv X pins σ (upd H x o) { s with heap:=h',toks:=t' }:=I.un (Un.write mu he k heo) (I.hok.write mu he k heo new)
theorem Inv.pins_of {pins':List (Addr×Obj)}(I:Inv X pins σ H s)(h:∀ p∈pins',s.heap.get? p.1=some p.2/\H p.1=none/\p.1≠X.env.locals/\p.1 ∉ X.fs/\∀ v,p.2.data≠.cell v):Inv X pins' σ H s :=
 ⟨I.ok,I.os,I.bare,I.base,I.loc,I.cell,I.free,I.freeC,fun p hp=>(Pr.mp hp).elim (fun z=>I.pin p (Q9 _ z)) (h p),I.hok,I.len⟩
theorem Zc1 {N:List Str}(hN:N.Nodup){i j:Nat}{x:Str}(a:N[i]?=some x)(b:N[j]?=some x):i=j:=by
 obtain ⟨h1,e1⟩:=O6.mp a
 obtain ⟨h2,e2⟩:=O6.mp b
 exact (List.getElem_inj hN).mp (e1.trans e2.symm)
theorem Zfh {M:Model}{A:Around}{E:Value->Shared->Prop}{i:Nat}{x:Str}{v:V}{u:Value}{Q:Unit->Shared->Prop}(I:Inv X pins σ H s)(hN:X.N.Nodup)(hi:X.N[i]?=some x)(hx:Ew X.env.scope x)(r:RelV v u)
  (h:∀ s',Inv X pins (σ.set i (some v)) H s'->(∃ a,Pe a s.heap s'.heap/\(a=X.env.locals\/X.env.cells.lookup x=some a))->Q () s') (hf:X.fn x=true\/X.env.scope.names.lookup x=some .local:=by first | exact .inl rfl | exact .inr rfl | assumption):wpAny M A (storeName X.env x u) Q E s:=by
 obtain ⟨m,hn,hl⟩:=id I.loc
 have hcls:(X.env.scope.kind == .class || (X.env.scope.kind == .module && X.env.locals != X.env.globals))=false:=by rw [I.ok.kind];rfl
 have hiσ:i < σ.length:=by rw [I.len];exact (O6.mp hi).1
 have cne:=I.cne
 have tracked:∀{a:Addr}{h':Heap},(∃ o,s.heap.get? a=some o/\H a=none)->Pe a s.heap h'->HOk X.prog X.w H h':=fun {a h'} ha hs b ob e=>by
  obtain ⟨_,_,hfree⟩:=ha
  refine (I.hok b ob e).stay (fun c w' hc q=>(hs.2 c ?_).trans q) (fun _ q=>q) fun _ _ q=>q
  rintro rfl
  rcases hc with rfl | hc
  ·rw [hfree] at e;cases e
  ·rw [hfree] at hc;cases hc
 rcases hx with hk | hk
 ·refine wpAny_storeName_local hk hn (fun h' hn' hs=>?_) hcls
  obtain ⟨oL,_,_,hoL,_⟩:=id hn
  refine h _ ⟨I.ok,I.os,I.bare,⟨fun b o e n hb hx=>?_,fun b o e n hb hx=>?_,I.base.free,fun b o e hx=>?_,I.base.tups,I.base.frzs,I.base.tbls⟩,⟨_,hn',fun j y v' e1 e2 e3=>?_⟩,fun y c e=>?_,I.free,I.freeC,fun p hp=>?_,tracked ⟨oL,hoL,I.free⟩ hs,by simpa using I.len⟩ ⟨_,hs,.inl rfl⟩
  ·exact (hs.2 b (Oy (O3 (Os e) I.ok.above))).trans (I.base.keep b o e n hb hx)
  ·obtain ⟨sl,e1⟩:=I.base.slot b o e n hb hx
   exact ⟨sl,(hs.2 b (Oy (O3 (Os e) I.ok.above))).trans e1⟩
  ·obtain ⟨o',e1⟩:=I.base.there b o e hx
   exact ⟨o',(hs.2 b (Oy (O3 (Os e) I.ok.above))).trans e1⟩
  ·by_cases hj:j=i
   ·subst hj
    rw [hi] at e1;cases e1
    rw [Rm hiσ] at e2
    cases e2
    exact ⟨u,r,.inl ⟨hk,by simp⟩⟩
   ·rw [Tj (Pf hj)] at e2
    obtain ⟨u',r',q⟩:=hl j y v' e1 e2 e3
    refine ⟨u',r',?_⟩
    rcases q with ⟨k,e⟩ | ⟨k,c,e,z⟩
    ·refine .inl ⟨k,?_⟩
     have:y≠x:=fun e=>hj (Zc1 hN e1 (e ▸ hi))
     simp [this,e]
    ·exact .inr ⟨k,c,e,z.sameBut hs (cne y c e)⟩
  ·obtain ⟨w',z⟩:=I.cell y c e
   exact ⟨w',z.sameBut hs (cne y c e)⟩
  ·obtain ⟨e,n,ne,nf,d⟩:=I.pin p hp
   exact ⟨(hs.2 p.1 ne).trans e,n,ne,nf,d⟩
 ·have hfn:X.fn x=true:=by
   rcases hf with z | z
   ·exact z
   ·rw [z] at hk;cases hk
  obtain ⟨c,hc⟩:=I.ok.has x (.inl hk)
  obtain ⟨w',z⟩:=I.cell x c hc
  refine wpAny_storeName_cell I.ok.kind hk hc z (fun h' hc' hs=>?_)
  obtain ⟨oc,hoc,hocd⟩:=id z
  refine h { s with heap:=h' } ⟨I.ok,I.os,I.bare,⟨fun b o e n hb hx=>?_,fun b o e n hb hx=>?_,I.base.free,fun b o e hx=>?_,I.base.tups,I.base.frzs,I.base.tbls⟩,⟨m,hn.sameBut hs (Pf (cne x c hc)),fun j y v' e1 e2 e3=>?_⟩,fun y c' e=>?_,I.free,I.freeC,fun p hp=>?_,tracked ⟨oc,hoc,I.freeC x c hc⟩ hs,by simpa using I.len⟩ ⟨c,hs,.inr hc⟩
  ·exact (hs.2 b (Oy (O3 (Os e) (I.ok.cab x c hfn hc)))).trans (I.base.keep b o e n hb hx)
  ·obtain ⟨sl,e1⟩:=I.base.slot b o e n hb hx
   exact ⟨sl,(hs.2 b (Oy (O3 (Os e) (I.ok.cab x c hfn hc)))).trans e1⟩
  ·obtain ⟨o',e1⟩:=I.base.there b o e hx
   exact ⟨o',(hs.2 b (Oy (O3 (Os e) (I.ok.cab x c hfn hc)))).trans e1⟩
  ·by_cases hj:j=i
   ·subst hj
    rw [hi] at e1;cases e1
    rw [Rm hiσ] at e2
    cases e2
    exact ⟨u,r,.inr ⟨.inl hk,c,hc,hc'⟩⟩
   ·rw [Tj (Pf hj)] at e2
    obtain ⟨u',r',q⟩:=hl j y v' e1 e2 e3
    refine ⟨u',r',?_⟩
    rcases q with q | ⟨k,c',e,z'⟩
    ·exact .inl q
    ·refine .inr ⟨k,c',e,z'.sameBut hs ?_⟩
     rintro rfl
     exact hj (Zc1 hN e1 (I.ok.inj _ _ _ e hc ▸ hi))
  ·by_cases hcc:c'=c
   ·subst hcc;exact ⟨_,hc'⟩
   ·obtain ⟨w2,z2⟩:=I.cell y c' e
    exact ⟨w2,z2.sameBut hs hcc⟩
  ·obtain ⟨e,n,ne,nf,d⟩:=I.pin p hp
   refine ⟨(hs.2 p.1 ?_).trans e,n,ne,nf,d⟩
   intro q
   rw [q,hoc] at e
   have q':oc=p.2:=Ov e
   exact d w' (by rw [<- q'];exact hocd)
theorem Jw {M:Model}{A:Around}{E:Value->Shared->Prop}{i:Nat}{x:Str}{v:V}{u:Value}{Q:Unit->Shared->Prop}(I:Inv X pins σ H s)(hN:X.N.Nodup)(hi:X.N[i]?=some x)(hx:Ew X.env.scope x)(r:RelV v u)
  (h:∀ s',Inv X pins (σ.set i (some v)) H s'->Q () s') (hf:X.fn x=true\/X.env.scope.names.lookup x=some .local:=by first | exact .inl rfl | exact .inr rfl | assumption):wpAny M A (storeName X.env x u) Q E s :=
 Zfh I hN hi hx r (fun s' I' _=>h s' I') hf
theorem Inv.call' {s':Shared}{ch:List Addr}(I:Inv X pins σ H s)(ho:s'.os=s.os)(u:Un (Co X.stack) ch H H' s.heap s'.heap)(hok:HOk X.prog X.w H' s'.heap)(hg:AllBare s'.gens)
  (hch:∀ b∈ch,(b∈X.ex\/X.s₀.heap.objs.size<=b)/\b≠X.env.locals/\(∀ x c,X.env.cells.lookup x=some c->c≠b)/\∀ p∈X.pn++pins,p.1≠b):Inv X pins σ H' s':=by
 obtain ⟨h',g',d',t',o'⟩:=s'
 have e:o'=s.os:=ho
 subst e
 exact I.call (g':=g') (t':=t') (d':=d') u hok hg hch
end
noncomputable abbrev XK:=Value->Option Addr->Hp->Prop
noncomputable abbrev St:=List (Option V)
noncomputable abbrev VK:=V->Hp->Prop
noncomputable abbrev TE:=St->Hp->VK->Prop
noncomputable abbrev TT:=St->Hp->(Bool->Hp->Prop)->Prop
noncomputable abbrev TA:=St->Hp->(List V->Hp->Prop)->Prop
structure Cp where
 nx:St->Hp->Prop
 rt:VK
 bk:St->Hp->Prop:=fun _ _=>False
 ct:St->Hp->Prop:=fun _ _=>False
noncomputable abbrev TS:=Cp->St->Hp->Prop
noncomputable def EP (X:Cx)(pins:List (Addr×Obj))(σ:St)(Q:VK)(u:Value)(s':Shared):Prop:=∃ v H',Inv X pins σ H' s'/\RelV v u/\Q v H'
noncomputable def TP (X:Cx)(pins:List (Addr×Obj))(σ:St)(Q:Bool->Hp->Prop)(b:Bool)(s':Shared):Prop:=∃ H',Inv X pins σ H' s'/\Q b H'
noncomputable def AP (X:Cx)(pins:List (Addr×Obj))(σ:St)(Q:List V->Hp->Prop)(us:List Value)(s':Shared):Prop:=∃ vs H',Inv X pins σ H' s'/\Vals vs us/\Q vs H'
noncomputable def SP (X:Cx)(pins:List (Addr×Obj))(D:Cp)(f:Flow)(s':Shared):Prop :=
 match f with
 | .next=>∃ σ' H',Inv X pins σ' H' s'/\D.nx σ' H'
 | .brk=>∃ σ' H',Inv X pins σ' H' s'/\D.bk σ' H'
 | .cont=>∃ σ' H',Inv X pins σ' H' s'/\D.ct σ' H'
 | .ret u=>∃ v σ' H',Inv X pins σ' H' s'/\RelV v u/\D.rt v H'
noncomputable def PE (X:Cx)(e:Expr)(t:TE):Prop :=
 ∀(pins:List (Addr×Obj))(s:Shared)(σ:St)(H:Hp)(Q:VK),Inv X pins σ H s->t σ H Q->wpAny (model X.prog X.w) X.A (eval e X.env) (EP X pins σ Q) X.xe s
noncomputable def PT (X:Cx)(e:Expr)(t:TT):Prop :=
 ∀(pins:List (Addr×Obj))(s:Shared)(σ:St)(H:Hp)(Q:Bool->Hp->Prop),Inv X pins σ H s->t σ H Q->wpAny (model X.prog X.w) X.A (isTrue e X.env (eval e X.env)) (TP X pins σ Q) X.xe s
noncomputable def PW (X:Cx)(e:Expr)(t:TT):Prop :=
 ∀(whole:Sem Value)(pins:List (Addr×Obj))(s:Shared)(σ:St)(H:Hp)(Q:Bool->Hp->Prop),Inv X pins σ H s->t σ H Q->wpAny (model X.prog X.w) X.A (isTrue e X.env whole) (TP X pins σ Q) X.xe s
theorem PW.pt {X:Cx}{e:Expr}{t:TT}(h:PW X e t):PT X e t:=h _
noncomputable def PA (X:Cx)(es:List Expr)(t:TA):Prop :=
 ∀(pos:Pos)(pins:List (Addr×Obj))(s:Shared)(σ:St)(H:Hp)(Q:List V->Hp->Prop),Inv X pins σ H s->t σ H Q->wpAny (model X.prog X.w) X.A (spliced (backTo pos (starEach es X.env))) (AP X pins σ Q) X.xe s
noncomputable def PS (X:Cx)(st:Stmt)(t:TS):Prop :=
 ∀(pins:List (Addr×Obj))(s:Shared)(σ:St)(H:Hp)(D:Cp),Inv X pins σ H s->t D σ H->wpAny (model X.prog X.w) X.A (exec st X.env) (SP X pins D) X.xe s
noncomputable def PSs (X:Cx)(st:List Stmt)(t:TS):Prop :=
 ∀(pins:List (Addr×Obj))(s:Shared)(σ:St)(H:Hp)(D:Cp),Inv X pins σ H s->t D σ H->wpAny (model X.prog X.w) X.A (execs st X.env) (SP X pins D) X.xe s
theorem Ag {α:Type}{t:Sem α}{Q Q':α->Shared->Prop}{M:Model}{A:Around}{E:Value->Shared->Prop}{s:Shared}(h:wpAny M A t Q E s)(hQ:∀ a s,Q a s->Q' a s):wpAny M A t Q' E s:=R9 h hQ fun _ _ x=>x
section
variable {X:Cx}
noncomputable def Be (i:Nat):TE:=fun σ H Q=>∃ v,σ[i]?=some (some v)/\Q v H
noncomputable def tC (v:V):TE:=fun _ H Q=>Q v H
theorem Zm2 {i:Nat}{x:Str}{pos:Pos}(hN:X.N[i]?=some x)(hv:Vis X.env.scope x)(hd:(x == ("__debug__" : Str))=false:=by decide)(hcd:(x == ("__classdict__" : Str))=false:=by decide):PE X (.Name x pos) (Be i):=by
 intro pins s σ H Q I h
 obtain ⟨v,e,h⟩:=h
 obtain ⟨m,hn,hl⟩:=I.loc
 obtain ⟨u,r,l⟩:=hl i x v hN e hv
 have fin:EP X pins σ Q u s:=⟨v,H,I,r,h⟩
 rcases l with ⟨hk,hm⟩ | ⟨hk,c,hc,hcell⟩
 ·exact wpAny_Name (wpAny_loadName_local I.ok.kind hk hn hm fin) hd
 ·rcases hk with hk | hk
  ·exact wpAny_Name (wpAny_loadName_cell I.ok.kind hk hc hcell fin) hd
  ·exact wpAny_Name (wpAny_loadName_free I.ok.kind hk hc hcell fin hcd) hd
theorem Zeo {i j pos}:PE X (.Constant (.int i) j pos) (tC (.int i)):=fun _ _ _ H _ I h=>wpAny_Constant_int ⟨.int i,H,I.tok _,⟨_,rfl⟩,h⟩
theorem Zd9 {b j pos}:PE X (.Constant (.bool b) j pos) (tC (.bl b)):=fun _ _ _ H _ I h=>Constant_bool ⟨.bl b,H,I,rfl,h⟩
theorem Zbs {j pos}:PE X (.Constant .none j pos) (tC .non):=fun _ _ _ H _ I h=>Constant_none ⟨.non,H,I,rfl,h⟩
theorem Za2 {x j pos}:PE X (.Constant (.str x) j pos) (tC (.str x)):=fun _ _ _ H _ I h=>Calls.Constant_str ⟨.str x,H,I.tok _,⟨_,rfl⟩,h⟩
noncomputable def Gl (X:Cx)(x:Str):Prop:=X.env.kindOf x=some .globalImplicit
theorem Kz {E:Value->Shared->Prop}{pins:List (Addr×Obj)}{s:Shared}{σ:St}{H:Hp}{x:Str}{u:Value}{pos:Pos}{Q:Value->Shared->Prop}(I:Inv X pins σ H s)(hg:Gl X x)(hm:X.mg x=some u)(h:Q u s)
  (hd:(x == ("__debug__" : Str))=false:=by decide):wpAny (model X.prog X.w) X.A (eval (.Name x pos) X.env) Q E s :=
 Calls.Name_function_global I.ok.kind hg (Calls.loadGlobal_global (by rw [I.ok.glob];exact I.mod.glob.keeps I.bk) hm h) hd
theorem D4 {E:Value->Shared->Prop}{pins:List (Addr×Obj)}{s:Shared}{σ:St}{H:Hp}{x:Str}{u:Value}{pos:Pos}{Q:Value->Shared->Prop}(I:Inv X pins σ H s)(hg:Gl X x)(hm:X.mg x=none)(hv:bootBuiltins x=some u)(h:Q u s)
  (hn:x ≠ "__name__" := by decide) (hd:(x == ("__debug__" : Str))=false:=by decide):wpAny (model X.prog X.w) X.A (eval (.Name x pos) X.env) Q E s:=by
 obtain ⟨mb,h1,h2⟩:=I.mod.blt
 exact Calls.Name_function_global I.ok.kind hg (Calls.loadGlobal_builtin (by rw [I.ok.glob];exact I.mod.glob.keeps I.bk) hm (by rw [I.ok.blt];exact h1.keeps I.bk) ((h2 x hn).trans hv) h) hd
theorem Zlm {x:Str}{v:V}{u:Value}{pos:Pos}(hg:Gl X x)(hm:X.mg x=some u)(r:RelV v u)(hd:(x == ("__debug__" : Str))=false:=by decide):PE X (.Name x pos) (tC v) :=
 fun _ _ _ H _ I h=>Kz I hg hm ⟨v,H,I,r,h⟩ hd
theorem Zo9 {x:Str}{v:V}{u:Value}{pos:Pos}(hg:Gl X x)(hm:X.mg x=none)(hv:bootBuiltins x=some u)(r:RelV v u)(hn:x ≠ "__name__" := by decide)(hd:(x == ("__debug__" : Str))=false:=by decide):PE X (.Name x pos) (tC v) :=
 fun _ _ _ H _ I h=>D4 I hg hm hv ⟨v,H,I,r,h⟩ hn hd
variable {a b:Expr}{ta tb:TE}{pos:Pos}
noncomputable def PC (X:Cx)(op:CmpOp)(a b:Expr)(t:TE):Prop :=
 ∀(pins:List (Addr×Obj))(s:Shared)(σ:St)(H:Hp)(Q:VK),Inv X pins σ H s->t σ H Q ->
  wpAny (model X.prog X.w) X.A (eval a X.env) (fun v s₁=>wpAny (model X.prog X.w) X.A (eval b X.env) (fun u s₂=>wpAny (model X.prog X.w) X.A (compareOp op v u) (EP X pins σ Q) X.xe s₂) X.xe s₁) X.xe s
theorem Ze3 (b:Expr){op:CmpOp}(h:op≠.In)(h2:op≠.NotIn):behindInMarks op b=false:=by
 have e1:(op == CmpOp.In)=false:=by cases op <;> first | rfl | exact absurd rfl h
 have e2:(op == CmpOp.NotIn)=false:=by cases op <;> first | rfl | exact absurd rfl h2
 cases b <;> simp [behindInMarks,e1,e2]
noncomputable def Mc (ta:TE):TE:=fun σ H Q=>ta σ H fun x H1=>Q (.bl (decide (x=.non))) H1
theorem RelV.none_iff {x:V}{v:Value}(r:RelV x v):(v == Value.none)=decide (x=.non):=by
 cases x with
 | non=>cases r;rfl
 | bl _=>cases r;rfl
 | int _=>obtain ⟨t,rfl⟩:=r;rfl
 | str _=>obtain ⟨t,rfl⟩:=r;rfl
 | byt _=>obtain ⟨t,rfl⟩:=r;rfl
 | flt _=>obtain ⟨t,rfl⟩:=r;rfl
 | ref _=>cases r;rfl
 | ty _=>cases r;rfl
theorem Zoq {j pos'}(ha:PE X a ta):PC X .Is a (.Constant .none j pos') (Mc ta):=by
 intro pins s σ H Q I h
 refine Ag (ha pins s σ H _ I h) fun v s1 zq=>?_
 obtain ⟨x,H1,I1,r1,q1⟩:=zq
 exact Constant_none (is_none_gen ⟨.bl _,H1,I1,by rw [r1.none_iff];rfl,q1⟩)
noncomputable def tB (t:TE):TT:=fun σ H Q=>t σ H fun x H1=>∃ c,x=.bl c/\Q c H1
theorem Zkn {op:CmpOp}{t:TE}(h:PC X op a b t)(h1:behindInMarks op b=false:=by first | exact Ze3 _ (by decide) (by decide) | rfl):PE X (.Compare a [op] [b] pos) t:=fun pins s σ H Q I hw=>wpAny_Compare1 (h pins s σ H Q I hw) h1
theorem Zqi {e:Expr}{t:TE}(h:PE X e t)(he:∀ whole,isTrue e X.env whole=(do let v <- whole;standAt e.pos;holding [v] (truthy v)):=by intro _;rfl):PT X e (tB t):=by
 intro pins s σ H Q I hw
 refine isTrue_plain (Ag (h pins s σ H _ I hw) fun v s1 zq=>?_) (he _)
 obtain ⟨x,H1,I1,r1,q1⟩:=zq
 obtain ⟨d,rfl,q⟩:=q1
 cases r1
 exact Qf ⟨H1,I1,q⟩
variable {tA tB':TT}{rest:List Expr}
noncomputable def Ir (t u:TT):TT:=fun σ H Q=>t σ H fun c H1=>if c=true then u σ H1 Q else Q false H1
noncomputable def tOr (t u:TT):TT:=fun σ H Q=>t σ H fun c H1=>if c=true then Q true H1 else u σ H1 Q
noncomputable def Mz (t:TT):TT:=fun σ H Q=>t σ H fun c H1=>Q (!c) H1
theorem pw_and1 (ha:PT X a tA):PW X (.BoolOp .And [a] pos) tA:=by
 intro wh pins s σ H Q I h
 refine isTrue_and (Ag (ha pins s σ H Q I h) fun c s1 e=>?_)
 cases c with
 | true=>exact isTrue_and_nil e
 | false=>exact e
theorem pw_or1 (ha:PT X a tA):PW X (.BoolOp .Or [a] pos) tA:=by
 intro wh pins s σ H Q I h
 refine isTrue_or (Ag (ha pins s σ H Q I h) fun c s1 e=>?_)
 cases c with
 | false=>exact isTrue_or_nil e
 | true=>exact e
theorem pw_and (ha:PT X a tA)(hb:PW X (.BoolOp .And (b::rest) pos) tB'):PW X (.BoolOp .And (a::b::rest) pos) (Ir tA tB'):=by
 intro wh pins s σ H Q I h
 refine isTrue_and (Ag (ha pins s σ H _ I h) fun c s1 zq=>?_)
 obtain ⟨H1,I1,q1⟩:=zq
 cases c with
 | true=>exact hb wh pins s1 σ H1 Q I1 q1
 | false=>exact ⟨H1,I1,q1⟩
theorem pw_or (ha:PT X a tA)(hb:PW X (.BoolOp .Or (b::rest) pos) tB'):PW X (.BoolOp .Or (a::b::rest) pos) (tOr tA tB'):=by
 intro wh pins s σ H Q I h
 refine isTrue_or (Ag (ha pins s σ H _ I h) fun c s1 zq=>?_)
 obtain ⟨H1,I1,q1⟩:=zq
 cases c with
 | true=>exact ⟨H1,I1,q1⟩
 | false=>exact hb wh pins s1 σ H1 Q I1 q1
theorem Zo2 (ha:PT X a tA):PT X (.UnaryOp .Not a pos) (Mz tA):=by
 intro pins s σ H Q I h
 exact isTrue_not (ha pins s σ H (fun c H1=>Q (!c) H1) I h)
noncomputable def Ie (ta tb:TE):TE:=fun σ H Q=>ta σ H fun x H1=>∃ c,x=.bl c/\if c=true then tb σ H1 Q else Q (.bl false) H1
noncomputable def N0 (ta tb:TE):TE:=fun σ H Q=>ta σ H fun x H1=>∃ c,x=.bl c/\if c=true then Q (.bl true) H1 else tb σ H1 Q
noncomputable def Nj (ta:TE):TE:=fun σ H Q=>ta σ H fun x H1=>∃ c,x=.bl c/\Q (.bl (!c)) H1
theorem Zl5 {op}{t:TE}(h:PE X a t):PE X (.BoolOp op [a] pos) t:=fun pins s σ H Q I hw=>BoolOp_one (h pins s σ H Q I hw)
theorem Zjw (ha:PE X a ta)(hb:PE X (.BoolOp .And (b::rest) pos) tb):PE X (.BoolOp .And (a::b::rest) pos) (Ie ta tb):=by
 intro pins s σ H Q I h
 refine BoolOp_and (Ag (ha pins s σ H _ I h) fun v s1 zq=>?_)
 obtain ⟨x,H1,I1,r1,q1⟩:=zq
 obtain ⟨c,rfl,q1⟩:=q1
 cases r1
 refine Qf ?_
 cases c with
 | true=>exact hb pins s1 σ H1 Q I1 q1
 | false=>exact ⟨.bl false,H1,I1,rfl,q1⟩
theorem Zlg (ha:PE X a ta)(hb:PE X (.BoolOp .Or (b::rest) pos) tb):PE X (.BoolOp .Or (a::b::rest) pos) (N0 ta tb):=by
 intro pins s σ H Q I h
 refine BoolOp_or (Ag (ha pins s σ H _ I h) fun v s1 zq=>?_)
 obtain ⟨x,H1,I1,r1,q1⟩:=zq
 obtain ⟨c,rfl,q1⟩:=q1
 cases r1
 refine Qf ?_
 cases c with
 | false=>exact hb pins s1 σ H1 Q I1 q1
 | true=>exact ⟨.bl true,H1,I1,rfl,q1⟩
theorem Zf5 (ha:PE X a ta):PE X (.UnaryOp .Not a pos) (Nj ta):=by
 intro pins s σ H Q I h
 refine UnaryOp_ (Ag (ha pins s σ H _ I h) fun v s1 zq=>?_)
 obtain ⟨x,H1,I1,r1,q1⟩:=zq
 obtain ⟨c,rfl,q1⟩:=q1
 cases r1
 exact not_of (Qf ⟨.bl (!c),H1,I1,rfl,q1⟩)
end
noncomputable def SqL (K:Og)(H:Hp)(a:Addr)(xs:List V):Prop :=
 Rd H a (.lst xs) \/
  ∃(o:Obj)(its:Array Value)(n:Nat),K.lookup a=some o/\o.cls=.type "list" /\ o.dict=none/\o.data=.seq its n/\its.size<=sizeLine/\Vals xs its.toList
noncomputable def SqT (K:Og)(H:Hp)(a:Addr)(xs:List V):Prop :=
 Rd H a (.tup xs) \/
  ∃(o:Obj)(its:Array Value)(n:Nat),K.lookup a=some o/\o.cls=.type "tuple" /\ o.data=.seq its n/\its.size<=sizeLine/\Vals xs its.toList
noncomputable def Ju:Value->Option V
 | .none=>some .non
 | .bool b=>some (.bl b)
 | .int i _=>some (.int i)
 | .str x _=>some (.str x)
 | .bytes b _=>some (.byt b)
 | .float b _=>some (.flt b)
 | .ref a=>some (.ref a)
 | .type n=>some (.ty n)
 | _=>none
theorem RelV.abs {x:V}{u:Value}(r:RelV x u):Ju u=some x:=by
 cases x with
 | non=>cases r;rfl
 | bl _=>cases r;rfl
 | int _=>obtain ⟨t,rfl⟩:=r;rfl
 | str _=>obtain ⟨t,rfl⟩:=r;rfl
 | byt _=>obtain ⟨t,rfl⟩:=r;rfl
 | flt _=>obtain ⟨t,rfl⟩:=r;rfl
 | ref _=>cases r;rfl
 | ty _=>cases r;rfl
theorem RelV.inj {x y:V}{u:Value}(r:RelV x u)(q:RelV y u):x=y:=Ov (r.abs.symm.trans q.abs)
theorem Vals.inj:∀{xs ys:List V}{us:List Value},Vals xs us->Vals ys us->xs=ys
 | _,_,_,.nil,.nil=>rfl
 | _,_,_,.cons r t,.cons r' t'=>by rw [r.inj r',Vals.inj t t']
section
variable {X:Cx}{pins:List (Addr×Obj)}{σ:St}{H:Hp}{s:Shared}{a:Addr}{xs ys:List V}
theorem SqL.of {K:Og}(h:H a=some (.lst xs)):SqL K H a xs:=.inl (.inl h)
theorem SqT.of {K:Og}(h:H a=some (.tup xs)):SqT K H a xs:=.inl (.inl h)
theorem Inv.list (I:Inv X pins σ H s)(h:SqL X.K H a xs):∃ its:List Value,Vals xs its/\PlainL s.heap a its.toArray/\xs.length<=sizeLine:=by
 rcases h with h | ⟨o,its,n,hk,hc,hd,hs,hz,r⟩
 ·obtain ⟨z,its,n,r,e⟩:=h.ok I.hok
  exact ⟨its,r,⟨_,n,e,rfl,rfl,rfl⟩,z⟩
 ·refine ⟨its.toList,r,⟨o,n,I.kIn a o hk,hc,hd,by simpa using hs⟩,?_⟩
  have e:=r.length
  simp only [Rr] at e
  omega
theorem Inv.tuple (I:Inv X pins σ H s)(h:SqT X.K H a xs):∃ its:List Value,Vals xs its/\IsTup s.heap a its.toArray/\xs.length<=sizeLine:=by
 rcases h with h | ⟨o,its,n,hk,hc,hs,hz,r⟩
 ·obtain ⟨z,its,r,p⟩:=h.ok I.hok
  exact ⟨its,r,p,z⟩
 ·refine ⟨its.toList,r,⟨o,I.kIn a o hk,hc,n,by simpa using hs⟩,?_⟩
  have e:=r.length
  simp only [Rr] at e
  omega
theorem Inv.list_inj (I:Inv X pins σ H s)(h:SqL X.K H a xs)(h':SqL X.K H a ys):xs=ys:=by
 obtain ⟨its,r,⟨o,n,e,_,_,d⟩,_⟩:=I.list h
 obtain ⟨its',r',⟨o',n',e',_,_,d'⟩,_⟩:=I.list h'
 rw [e] at e';cases e'
 rw [d] at d'
 injection d' with d1 _
 have:its=its':=by simpa using congrArg Array.toList d1
 subst this
 exact r.inj r'
theorem Inv.tuple_inj (I:Inv X pins σ H s)(h:SqT X.K H a xs)(h':SqT X.K H a ys):xs=ys:=by
 obtain ⟨its,r,⟨o,e,_,n,d⟩,_⟩:=I.tuple h
 obtain ⟨its',r',⟨o',e',_,n',d'⟩,_⟩:=I.tuple h'
 rw [e] at e';cases e'
 rw [d] at d'
 injection d' with d1 _
 have:its=its':=by simpa using congrArg Array.toList d1
 subst this
 exact r.inj r'
end
noncomputable abbrev Cx.wish (X:Cx)(E:Value->Shared->Prop):Cx:={ X with xe:=E }
noncomputable abbrev Cx.nox (X:Cx):Cx:=X.wish fun _ _=>False
theorem Cx.Ok.wish {X:Cx}(ok:X.Ok)(E:Value->Shared->Prop):(X.wish E).Ok :=
 ⟨ok.mod,ok.kind,ok.glob,ok.blt,ok.above,ok.inj,ok.has,ok.cab,ok.hd,ok.frames,ok.stk,ok.exf,ok.bs,ok.bsz,ok.noex,ok.exfs,ok.funs,ok.frf⟩
theorem Cx.Ok.unwish {X:Cx}{E:Value->Shared->Prop}(ok:(X.wish E).Ok):X.Ok :=
 ⟨ok.mod,ok.kind,ok.glob,ok.blt,ok.above,ok.inj,ok.has,ok.cab,ok.hd,ok.frames,ok.stk,ok.exf,ok.bs,ok.bsz,ok.noex,ok.exfs,ok.funs,ok.frf⟩
section
variable {X:Cx}{pins:List (Addr×Obj)}{σ:St}{H:Hp}{s:Shared}{E:Value->Shared->Prop}
theorem Inv.wish (I:Inv X pins σ H s)(E:Value->Shared->Prop):Inv (X.wish E) pins σ H s:=⟨I.ok.wish E,I.os,I.bare,I.base,I.loc,I.cell,I.free,I.freeC,I.pin,I.hok,I.len⟩
theorem Inv.unwish (I:Inv (X.wish E) pins σ H s):Inv X pins σ H s:=⟨I.ok.unwish,I.os,I.bare,I.base,I.loc,I.cell,I.free,I.freeC,I.pin,I.hok,I.len⟩
theorem SP.unwish {D:Cp}{f:Flow}{s':Shared}(h:SP (X.wish E) pins D f s'):SP X pins D f s':=by
 cases f with
 | next=>obtain ⟨σ',H',I,q⟩:=h;exact ⟨σ',H',I.unwish,q⟩
 | brk=>obtain ⟨σ',H',I,q⟩:=h;exact ⟨σ',H',I.unwish,q⟩
 | cont=>obtain ⟨σ',H',I,q⟩:=h;exact ⟨σ',H',I.unwish,q⟩
 | ret u=>obtain ⟨v,σ',H',I,r,q⟩:=h;exact ⟨v,σ',H',I.unwish,r,q⟩
theorem PSs.nox {st:List Stmt}{t:TS}(h:PSs X.nox st t):PSs X st t:=fun pins s σ H D I hw =>
 R9 (h pins s σ H D (I.wish _) hw) (fun _ _ q=>q.unwish) fun _ _ z=>Py z
end
section
variable {X:Cx}{st:Stmt}{rest:List Stmt}{t u:TS}{e:Expr}{te:TE}{pos:Pos}
noncomputable def Gp:TS:=fun D σ H=>D.nx σ H
noncomputable def F8 (t u:TS):TS:=fun D σ H=>t { D with nx:=u D } σ H
theorem Zmg:PSs X [] Gp:=fun _ _ σ H _ I h=>Tx ⟨σ,H,I,h⟩
theorem Zlp (h1:PS X st t)(h2:PSs X rest u):PSs X (st::rest) (F8 t u):=by
 intro pins s σ H D I h
 refine wpAny_execs_cons (Ag (h1 pins s σ H { D with nx:=u D } I h) fun f s1 q=>?_)
 cases f with
 | next =>
  obtain ⟨σ',H',I',q⟩:=q
  exact h2 pins s1 σ' H' D I' q
 | ret v=>exact q
 | brk=>exact q
 | cont=>exact q
theorem Zlc (h1:PS X st t):PSs X [st] t:=by
 intro pins s σ H D I h
 refine wpAny_execs_cons (Ag (h1 pins s σ H D I h) fun f s1 q=>?_)
 cases f with
 | next=>exact Tx q
 | ret v=>exact q
 | brk=>exact q
 | cont=>exact q
theorem Inv.quiet {pins:List (Addr×Obj)}{σ:St}{H:Hp}{s:Shared}(I:Inv X pins σ H s):interactive X.env=false:=by simp [interactive,I.ok.kind]
noncomputable def Mg (te:TE):TS:=fun D σ H=>te σ H fun _ H1=>D.nx σ H1
theorem Zi4 (he:PE X e te)(hs:swapsWith e none pos.line X.env=pure false:=by rfl):PS X (.Expr e pos) (Mg te):=by
 intro pins s σ H D I h
 exact wpAny_Expr_any (Ag (he pins s σ H _ I h) fun v s1 ⟨x,H1,I1,r1,q1⟩=>⟨σ,H1,I1,q1⟩) I.quiet hs
noncomputable def D8 (te:TE):TS:=fun D σ H=>te σ H D.rt
theorem Zpe (he:PE X e te):PS X (.Return (some e) pos) (D8 te):=by
 intro pins s σ H D I h
 exact wpAny_Return_some (Ag (he pins s σ H _ I h) fun v s1 ⟨x,H1,I1,r1,q1⟩=>⟨x,σ,H1,I1,r1,q1⟩)
noncomputable def F6 (c:TT)(t u:TS):TS:=fun D σ H=>c σ H fun b H1=>if b=true then t D σ H1 else u D σ H1
theorem Zir {c:Expr}{a b:List Stmt}{tc:TT}(hc:PT X c tc)(ha:PSs X a t)(hb:PSs X b u):PS X (.If c a b pos) (F6 tc t u):=by
 intro pins s σ H D I h
 refine wpAny_If (Ag (hc pins s σ H _ I h) fun d s1 zq=>?_)
 obtain ⟨H1,I1,q1⟩:=zq
 cases d with
 | true=>exact ha pins s1 σ H1 D I1 q1
 | false=>exact hb pins s1 σ H1 D I1 q1
end
noncomputable abbrev TG:=V->St->Hp->(St->Hp->Prop)->Prop
noncomputable abbrev Ct:=List V->St->Hp->(St->Hp->Prop)->Prop
noncomputable def PG (X:Cx)(target:Expr)(t:TG):Prop :=
 ∀(pins:List (Addr×Obj))(s:Shared)(σ:St)(H:Hp)(v:V)(u:Value)(Q:St->Hp->Prop),Inv X pins σ H s->RelV v u->t v σ H Q ->
  wpAny (model X.prog X.w) X.A (assign target X.env u) (fun _ s'=>∃ σ' H',Inv X pins σ' H' s'/\Q σ' H') X.xe s
noncomputable def PGs (X:Cx)(ts:List Expr)(t:Ct):Prop :=
 ∀(pins:List (Addr×Obj))(s:Shared)(σ:St)(H:Hp)(vs:List V)(us:List Value)(Q:St->Hp->Prop),Inv X pins σ H s->Vals vs us->t vs σ H Q ->
  wpAny (model X.prog X.w) X.A (assignInOrder ((assignEach ts X.env).map (·.2)) us) (fun _ s'=>∃ σ' H',Inv X pins σ' H' s'/\Q σ' H') X.xe s
noncomputable abbrev Iq:=V->V->V->Hp->(Hp->Prop)->Prop
noncomputable def Lv (X:Cx)(t:Iq):Prop :=
 ∀(pins:List (Addr×Obj))(s:Shared)(σ:St)(H:Hp)(o i v:V)(ov iv u:Value)(Q:Hp->Prop),Inv X pins σ H s->RelV o ov->RelV i iv->RelV v u->t o i v H Q ->
  wpAny (model X.prog X.w) X.A (setItem ov iv u) (fun _ s'=>∃ H',Inv X pins σ H' s'/\Q H') X.xe s
section
variable {X:Cx}{pos:Pos}
noncomputable def D9 (i:Nat):TG:=fun v σ H Q=>Q (σ.set i (some v)) H
theorem Zk8 {i:Nat}{x:Str}(hN:X.N.Nodup)(hi:X.N[i]?=some x)(hx:Ew X.env.scope x)(hf:X.fn x=true\/X.env.scope.names.lookup x=some .local:=by first | exact .inl rfl | exact .inr rfl | assumption):PG X (.Name x pos) (D9 i):=by
 intro pins s σ H v u Q I r h
 exact wpAny_assign_Name (Jw I hN hi hx r (fun s' I'=>⟨_,H,I',h⟩) hf)
noncomputable def M5:Ct:=fun vs σ H Q=>vs=[]/\Q σ H
noncomputable def L7 (t:TG)(u:Ct):Ct:=fun vs σ H Q=>∃ v r,vs=v::r/\t v σ H fun σ' H'=>u r σ' H' Q
theorem Zi1:PGs X [] M5:=by
 intro pins s σ H vs us Q I r h
 obtain ⟨e,h⟩:=h
 subst e
 cases r
 exact assignInOrder_nil ⟨σ,H,I,h⟩
theorem Zqj {e:Expr}{es:List Expr}{t:TG}{u:Ct}(h1:PG X e t)(h2:PGs X es u)
  (hs:(assignEach (e::es) X.env).map (·.2)=assign e X.env::(assignEach es X.env).map (·.2):=by rfl):PGs X (e::es) (L7 t u):=by
 intro pins s σ H vs us Q I r h
 obtain ⟨v,vr,e1,h⟩:=h
 subst e1
 cases r with
 | cons r rr =>
  rw [hs]
  refine Uv (Ag (h1 pins s σ H _ _ _ I r h) fun _ s1 zq=>?_)
  obtain ⟨σ1,H1,I1,q1⟩:=zq
  exact h2 pins s1 σ1 H1 _ _ Q I1 rr q1
noncomputable def Kq (K:Og)(n:Nat)(t:Ct):TG:=fun v σ H Q=>∃ a xs,v=.ref a/\SqT K H a xs/\xs.length=n/\t xs σ H Q
theorem Zp7 {es:List Expr}{k:Nat}{t:Ct}{n:Nat}(hc:X.calm=true)(h:PGs X es t)
  (hn:(assignEach es X.env).length=n:=by rfl) (hst:(assignEach es X.env).findIdx? (·.1)=none:=by rfl):PG X (.Tuple es k pos) (Kq X.K n t):=by
 intro pins s σ H v u Q I r hw
 obtain ⟨a,xs,e1,hq,hl,hw⟩:=hw
 subst e1
 cases r
 obtain ⟨its,rv,ht,hz⟩:=I.tuple hq
 refine assign_Tuple_tuple (I.ok.hd hc) ht (by simp [hn,<- hl,rv.length]) hst fun h' hx=>?_
 have I1:Inv X pins σ H { s with heap:=h' }:=I.kept (t':=s.toks) fun b o e=>hx b o (Oy (Os e)) e
 exact h pins _ σ H xs _ Q I1 (by simpa using rv) hw
noncomputable def Nc (to ti:TE)(t:Iq):TG:=fun v σ H Q=>to σ H fun o H1=>ti σ H1 fun i H2=>t o i v H2 fun H3=>Q σ H3
theorem Zjg {o i:Expr}{to ti:TE}{t:Iq}(ho:PE X o to)(hi:PE X i ti)(hs:Lv X t)
  (ha:∀ v,assign (.Subscript o i pos) X.env v=(do
   let ov <- holding [v] (eval o X.env)
   let iv <- holding [v,ov] (eval i X.env)
   standAt pos
   holding [v,ov,iv] (setItem ov iv v)
   release [v,ov,iv] []):=by intro _;rfl):PG X (.Subscript o i pos) (Nc to ti t):=by
 intro pins s σ H v u Q I r h
 rw [ha]
 refine Oh (Qb (Ag (ho pins s σ H _ I h) fun ov s1 zq=>?_))
 obtain ⟨x,H1,I1,r1,q1⟩:=zq
 refine Oh (Qb (Ag (hi pins s1 σ H1 _ I1 q1) fun iv s2 zq=>?_))
 obtain ⟨y,H2,I2,r2,q2⟩:=zq
 refine Oh (Sm (Oh (Qb (Ag (hs pins s2 σ H2 x y v ov iv u _ I2 r1 r2 r q2) fun _ s3 zq=>?_))))
 obtain ⟨H3,I3,q3⟩:=zq
 exact wpAny_release ⟨σ,H3,I3,q3⟩
noncomputable def Em (te:TE)(g:TG):TS:=fun D σ H=>te σ H fun x H1=>g x σ H1 D.nx
theorem Zp6 {tg e:Expr}{te:TE}{g:TG}(he:PE X e te)(hg:PG X tg g)(hs:swapsWithSole [tg] e pos.line X.env=pure false:=by rfl)(hw:swappedStores [tg] e X.env=pure none:=by rfl)
  (h1:(assignEach [tg] X.env).map (·.2)=[assign tg X.env]:=by rfl):PS X (.Assign [tg] e pos) (Em te g):=by
 intro pins s σ H D I h
 refine wpAny_Assign_stores (Ag (he pins s σ H _ I h) fun v s1 zq=>?_) hs hw
 obtain ⟨x,H1,I1,r1,q1⟩:=zq
 rw [h1]
 exact Ag (hg pins s1 σ H1 x v _ I1 r1 q1) fun _ s2 q=>q
theorem Zjt {i:Nat}{x:Str}{e:Expr}{te:TE}{pos':Pos}(hN:X.N.Nodup)(hi:X.N[i]?=some x)(hx:Ew X.env.scope x)(he:PE X e te)(hs:swapsWith e (some (.Name x pos')) pos.line X.env=pure false:=by rfl)(hf:X.fn x=true\/X.env.scope.names.lookup x=some .local:=by first | exact .inl rfl | exact .inr rfl | assumption) :
  PS X (.Assign [.Name x pos'] e pos) (Em te (D9 i)):=by
 intro pins s σ H D I h
 refine wpAny_Assign_Name (Ag (he pins s σ H _ I h) fun v s1 zq=>?_) hs
 obtain ⟨y,H1,I1,r1,q1⟩:=zq
 exact Jw I1 hN hi hx r1 (fun s2 I2=>⟨_,H1,I2,q1⟩) hf
noncomputable def Zae (i j:Nat)(ta:TA):TS:=fun D σ H=>ta σ H fun vs H1=>∃ v w,vs=[v,w]/\D.nx ((σ.set i (some v)).set j (some w)) H1
theorem Zly {i j:Nat}{x y:Str}{a b:Expr}{ta:TA}{px py pt:Pos}{kt k2 pt2}(hc:X.calm=true)(hN:X.N.Nodup)(hi:X.N[i]?=some x)(hj:X.N[j]?=some y)(hij:i≠j)
  (hx:X.env.scope.names.lookup x=some .local) (hy:X.env.scope.names.lookup y=some .local) (ha:PA X [a,b] ta)
  (hw:swappedStores [.Tuple [.Name x px,.Name y py] kt pt] (.Tuple [a,b] k2 pt2) X.env=pure (some [x,y]))
  (hs:swapsWithSole [.Tuple [.Name x px,.Name y py] kt pt] (.Tuple [a,b] k2 pt2) pos.line X.env=pure false:=by rfl) :
  PS X (.Assign [.Tuple [.Name x px,.Name y py] kt pt] (.Tuple [a,b] k2 pt2) pos) (Zae i j ta):=by
 intro pins s σ H D I h
 rw [exec_Assign_arm]
 refine Oh (Sm ?_)
 rw [hs]
 refine Oh (Om ?_)
 rw [if_neg (by decide)]
 refine Oh (Tuple_ (Ag (ha _ pins s σ H _ I h) fun us s1 zq=>?_))
 obtain ⟨vs,H1,I1,r1,q1⟩:=zq
 obtain ⟨v,w,e1,q1⟩:=q1
 subst e1
 obtain ⟨u1,u2,rfl,rv,rw'⟩:∃ u1 u2,us=[u1,u2]/\RelV v u1/\RelV w u2:=by
  cases r1 with
  | cons p q =>
   cases q with
   | cons p' q' =>
    cases q'
    exact ⟨_,_,rfl,p,p'⟩
 refine Q0 ?_ (by show 2<=sizeLine;decide)
 have I2:Inv X pins σ H1 { s1 with heap:=s1.heap.push { cls:=.type "tuple",data:=.seq [u1,u2].toArray } }:=I1.kept (t':=s1.toks) fun b o e=>Oq _ e
 rw [hw]
 refine Oh (Om ?_)
 show wpAny (model X.prog X.w) X.A (do rule "assign.swapped-stores";let items <- unpackItems (.ref s1.heap.objs.size) 2 none;assignInOrder [fun v=>bindName X.env y v,fun v=>bindName X.env x v] items.reverse;pure Flow.next) _ _ _
 refine Oh (Su (Oh (unpackItems_tuple (items:=#[u1,u2]) (I.ok.hd hc) (IsTup.new s1.heap _) fun h' hx'=>?_)))
 have I3:=I2.kept (h':=h') (t':=s1.toks) fun b o e=>hx' b o (Oy (Os e)) e
 show wpAny _ _ (assignInOrder [fun v=>bindName X.env y v,fun v=>bindName X.env x v] [u2,u1] >>= fun _=>pure Flow.next) _ _ _
 refine Oh (Uv (wpAny_bindName (Jw I3 hN hj (.inl hy) rw' (fun s2 I4=>?_) (.inr hy))))
 refine Uv (wpAny_bindName (Jw I4 hN hi (.inl hx) rv (fun s3 I5=>assignInOrder_nil (Om ?_)) (.inr hx)))
 rw [List.set_comm _ _ (Pf hij)] at I5
 exact ⟨_,H1,I5,q1⟩
end
section
variable {X:Cx}{pos:Pos}
noncomputable def M7 (c:TT)(tb:TS):TS:=fun D σ H=>∃ W:Nat->St->Hp->Prop,(∃ m,W m σ H)/\∀ m σ H,W m σ H ->
 c σ H fun b H1=>if b=true then ∃ N:St->Hp->Prop,(∀ σ' H',N σ' H'->∃ m',m' < m/\W m' σ' H')/\tb { D with nx:=N,ct:=N,bk:=D.nx } σ H1 else D.nx σ H1
theorem Zht {c:Expr}{body:List Stmt}{tc:TT}{tb:TS}(hp:PassesOwn (model X.prog X.w) X.A X.env X.xe)(hc:PT X c tc)(hb:PSs X body tb):PS X (.While c body [] pos) (M7 tc tb):=by
 intro pins s σ H D I h
 obtain ⟨W,⟨m0,w0⟩,turn⟩:=h
 refine wpAny_While (codeAny_whileLoop (fun n s'=>∃ σ' H',Inv X pins σ' H' s'/\W n σ' H') ?_ m0 ⟨σ,H,I,w0⟩)
 rintro n s1 ⟨σ1,H1,I1,w1⟩
 refine Re hp (Ag (hc pins s1 σ1 H1 _ I1 (turn n σ1 H1 w1)) fun b s2 zq=>?_)
 obtain ⟨H2,I2,q2⟩:=zq
 cases b with
 | true =>
  obtain ⟨N,hN,q2⟩:=q2
  rw [if_pos rfl]
  refine Re hp (Ag (hb pins s2 σ1 H2 _ I2 q2) fun f s3 q3=>?_)
  cases f with
  | next =>
   obtain ⟨σ3,H3,I3,n3⟩:=q3
   obtain ⟨m',hm,w3⟩:=hN σ3 H3 n3
   exact ⟨m',hm,σ3,H3,I3,w3⟩
  | cont =>
   obtain ⟨σ3,H3,I3,n3⟩:=q3
   obtain ⟨m',hm,w3⟩:=hN σ3 H3 n3
   exact ⟨m',hm,σ3,H3,I3,w3⟩
  | brk=>exact q3
  | ret v=>exact q3
 | false =>
  rw [if_neg Ot]
  exact Tx ⟨σ1,H2,I2,q2⟩
end
structure It where
 go:Nat->Hp->Prop
 yld:Nat->Hp->V->Hp->Prop
 stop:Nat->Hp->Prop
noncomputable def FpOk (X:Cx)(pins:List (Addr×Obj))(H:Hp)(b:Addr):Prop :=
 H b=none/\b≠X.env.locals/\b ∉ X.fs/\(b∈X.ex\/X.s₀.heap.objs.size<=b)/\(∀ x c,X.env.cells.lookup x=some c->c≠b)/\∀ p∈X.pn++pins,p.1≠b
theorem Inv.fpOk {X:Cx}{pins:List (Addr×Obj)}{σ:St}{H H':Hp}{s:Shared}{b:Addr}(I:Inv X pins σ H s)(hb:s.heap.objs.size<=b)(hn:H' b=none):FpOk X pins H' b:=by
 refine ⟨hn,R4 (O3 I.lt hb),I.nofs hb,.inr (Pc I.sz hb),fun x c e z=>?_,fun p hp z=>?_⟩
 ·obtain ⟨v,q⟩:=I.cell x c e
  exact absurd (O3 q.lt (by rw [z];exact hb)) (Qa _)
 ·exact absurd (O3 (Os (I.pin p hp).1) (by rw [z];exact hb)) (Qa _)
structure Fi (P:Program)(w:World)(K:Og)(tg:Expr)(J:It)(fp:List Addr)(it:Addr)(tn:Nat->Heap->Prop):Prop where
 mem:it∈fp
 obj:∀ i h,tn i h->∀ b∈fp,∃ o,h.get? b=some o/\∀ v,o.data≠.cell v
 keep:∀ i h h',tn i h->(∀ b∈fp,∀ o,h.get? b=some o->h'.get? b=some o)->tn i h'
 item:∀(X:Cx),X.prog=P->X.w=w->X.K=K->X.calm=true->∀(i:Nat)(pins:List (Addr×Obj))(s:Shared)(σ:St)(H:Hp)(E:Value->Shared->Prop),Inv X pins σ H s->(∀ b∈fp,FpOk X pins H b)->tn i s.heap->J.go i H ->
  wpAny (model P w) X.A (pyNext (.ref it)) (fun r s1=>∃ u,r=some u /\
   wpAny (model P w) X.A (letOwnedTupleGo tg (.ref it) u) (fun _ s2=>∃ x H',Inv X pins σ H' s2/\RelV x u/\J.yld i H x H'/\tn (i+1) s2.heap/\∀ b∈fp,H' b=none) E s1) E s
 done:∀(X:Cx),X.prog=P->X.w=w->X.K=K->X.calm=true->∀(i:Nat)(pins:List (Addr×Obj))(s:Shared)(σ:St)(H:Hp)(E:Value->Shared->Prop),Inv X pins σ H s->(∀ b∈fp,FpOk X pins H b)->tn i s.heap->J.stop i H ->
  wpAny (model P w) X.A (pyNext (.ref it)) (fun r s1=>r=none/\Inv X pins σ H s1) E s
 self:∀(A:Around)(i:Nat)(s:Shared)(Q:Value->Shared->Prop)(E:Value->Shared->Prop),tn i s.heap->Q (.ref it) s->wpAny (model P w) A (pyIter (.ref it)) Q E s
noncomputable abbrev TI:=St->Hp->(It->Hp->Prop)->Prop
noncomputable def PIE (X:Cx)(pins:List (Addr×Obj))(σ:St)(tg:Expr)(R:It->Hp->Prop)(itv:Value)(s2:Shared):Prop :=
 ∃(it:Addr)(fp:List Addr)(tn:Nat->Heap->Prop)(J:It)(H':Hp),itv=.ref it/\Inv X pins σ H' s2/\Fi X.prog X.w X.K tg J fp it tn/\tn 0 s2.heap/\(∀ b∈fp,FpOk X pins H' b)/\R J H'
noncomputable def PI (X:Cx)(tg iter:Expr)(wi:TI):Prop :=
 ∀(pins:List (Addr×Obj))(s:Shared)(σ:St)(H:Hp)(R:It->Hp->Prop),Inv X pins σ H s->wi σ H R ->
  wpAny (model X.prog X.w) X.A (eval iter X.env) (fun v s1=>wpAny (model X.prog X.w) X.A (pyIter v) (PIE X pins σ tg R) X.xe s1) X.xe s
theorem Ge {M:Model}{A:Around}{E:Value->Shared->Prop}{s:Shared}{tg:Expr}{it:Addr}{u:Value}{o:Obj}{n:String}{vs:Array Value}{Q:Unit->Shared->Prop}(ho:s.heap.get? it=some o)(hc:o.cls=.type n)(hd:o.data=.fields vs)
  (hn:["enumerate", "zip", "dict_itemiterator", "dict_reverseitemiterator", "odict_iterator", "itertools.zip_longest", "itertools.pairwise"].contains n=false) (hQ:Q () s):wpAny M A (letOwnedTupleGo tg (.ref it) u) Q E s:=by
 unfold letOwnedTupleGo
 cases tg <;> first
  | exact Om hQ
  | (cases u <;> first
    | exact Om hQ
    | (refine Oh (wpAny_load ho ?_)
       rw [hc,hd]
       show wpAny M A (if (["enumerate", "zip", "dict_itemiterator", "dict_reverseitemiterator", "odict_iterator", "itertools.zip_longest", "itertools.pairwise"].contains n && vs[0]? == some (rawInt _))=true then _ else _) Q E s
       rw [if_neg (by intro h;rw [hn,Pb] at h;cases h)]
       exact Om hQ))
noncomputable def Fy (K:Og)(a:Addr):It :=
 ⟨fun i H=>∃ xs x,SqL K H a xs/\xs[i]?=some x,fun i H x H'=>H'=H/\∀ xs,SqL K H a xs->xs[i]?=some x,fun i H=>∃ xs,SqL K H a xs/\xs.length<=i⟩
noncomputable def Ga (K:Og)(a:Addr):It :=
 ⟨fun i H=>∃ xs x,SqT K H a xs/\xs[i]?=some x,fun i H x H'=>H'=H/\∀ xs,SqT K H a xs->xs[i]?=some x,fun i H=>∃ xs,SqT K H a xs/\xs.length<=i⟩
noncomputable def Eh (lo:Int)(n:Nat):It:=⟨fun i _=>i < n,fun i H x H'=>H'=H/\x=.int (lo+i),fun i _=>n<=i⟩
theorem Zhk {P:Program}{w:World}{K:Og}{tg:Expr}(a it:Addr):Fi P w K tg (Fy K a) [it] it (fun i h=>h.IsListIter it a i) where
 mem:=by simp
 obj:=fun i h st b hb=>by
  have e:b=it:=by simpa using hb
  subst e
  obtain ⟨o,e,c,d⟩:=st
  exact ⟨o,e,fun v z=>by rw [d] at z;cases z⟩
 keep:=fun i h h' st k=>st.at fun o e=>k it (by simp) o e
 item:=by
  intro X hP hw hK hc i pins s σ H E I hf st hg
  subst hP hw hK
  obtain ⟨xs,x,hq,hx⟩:=hg
  obtain ⟨its,rv,p,hz⟩:=I.list hq
  obtain ⟨u,hu,ru⟩:=rv.get hx
  obtain ⟨f0,f1,f2,f3,f4,f5⟩:=hf it (by simp)
  refine wpAny_pyNext_list_item st p.isList (x:=u) (by simpa using hu) fun h' st' sb=>?_
  have I1:Inv X pins σ H { s with heap:=h' }:=I.turned (t':=s.toks) (fun b o hb e=>(sb.2 b hb).trans e) f0 f1 f3 f4 f5
  obtain ⟨o,e,c,d⟩:=id st'
  exact ⟨u,rfl,Ge (s:={ s with heap:=h' }) e c d (by decide) ⟨x,H,I1,ru,⟨rfl,fun ys hy=>by rw [I.list_inj hy hq];exact hx⟩,st',fun b hb=>(hf b hb).1⟩⟩
 done:=by
  intro X hP hw hK hc i pins s σ H E I hf st hg
  subst hP hw hK
  obtain ⟨xs,hq,hx⟩:=hg
  obtain ⟨its,rv,p,hz⟩:=I.list hq
  obtain ⟨f0,f1,f2,f3,f4,f5⟩:=hf it (by simp)
  have hl:=rv.length
  exact wpAny_pyNext_list_end (I.ok.hd hc) st p.isList (by simp;omega) fun h' eb=>⟨rfl,I.turned (t':=s.toks) (fun b o hb e=>eb b o hb e) f0 f1 f3 f4 f5⟩
 self:=fun _ _ _ _ _ st h=>wpAny_pyIter_listiter st h
theorem Zki {P:Program}{w:World}{K:Og}{tg:Expr}(a it:Addr):Fi P w K tg (Ga K a) [it] it (fun i h=>h.IsTupleIter it a i) where
 mem:=by simp
 obj:=fun i h st b hb=>by
  have e:b=it:=by simpa using hb
  subst e
  obtain ⟨o,e,c,d⟩:=st
  exact ⟨o,e,fun v z=>by rw [d] at z;cases z⟩
 keep:=fun i h h' st k=>st.at fun o e=>k it (by simp) o e
 item:=by
  intro X hP hw hK hc i pins s σ H E I hf st hg
  subst hP hw hK
  obtain ⟨xs,x,hq,hx⟩:=hg
  obtain ⟨its,rv,p,hz⟩:=I.tuple hq
  obtain ⟨u,hu,ru⟩:=rv.get hx
  obtain ⟨f0,f1,f2,f3,f4,f5⟩:=hf it (by simp)
  refine wpAny_pyNext_tuple_item st (show s.heap.IsTuple a its.toArray from p) (x:=u) (by simpa using hu) fun h' st' sb=>?_
  have I1:Inv X pins σ H { s with heap:=h' }:=I.turned (t':=s.toks) (fun b o hb e=>(sb.2 b hb).trans e) f0 f1 f3 f4 f5
  obtain ⟨o,e,c,d⟩:=id st'
  exact ⟨u,rfl,Ge (s:={ s with heap:=h' }) e c d (by decide) ⟨x,H,I1,ru,⟨rfl,fun ys hy=>by rw [I.tuple_inj hy hq];exact hx⟩,st',fun b hb=>(hf b hb).1⟩⟩
 done:=by
  intro X hP hw hK hc i pins s σ H E I hf st hg
  subst hP hw hK
  obtain ⟨xs,hq,hx⟩:=hg
  obtain ⟨its,rv,p,hz⟩:=I.tuple hq
  obtain ⟨f0,f1,f2,f3,f4,f5⟩:=hf it (by simp)
  have hl:=rv.length
  exact wpAny_pyNext_tuple_end (I.ok.hd hc) st (show s.heap.IsTuple a its.toArray from p) (by simp;omega) fun h' eb=>⟨rfl,I.turned (t':=s.toks) (fun b o hb e=>eb b o hb e) f0 f1 f3 f4 f5⟩
 self:=fun _ _ _ _ _ st h=>wpAny_pyIter_tupleiter st h
theorem Zf4 {P:Program}{w:World}{K:Og}{tg:Expr}(it:Addr)(lo:Int)(n:Nat):Fi P w K tg (Eh lo n) [it] it (fun i h=>IsRangeIter h it (lo+(i:Nat) * 1) ((n:Int) - (i:Nat)) 1) where
 mem:=by simp
 obj:=fun i h st b hb=>by
  have e:b=it:=by simpa using hb
  subst e
  exact ⟨_,st,fun v z=>by
   have z':Data.fields _=Data.cell v:=z
   cases z'⟩
 keep:=fun i h h' st k=>k it (by simp) _ st
 item:=by
  intro X hP hw hK hc i pins s σ H E I hf st hg
  subst hP hw hK
  obtain ⟨f0,f1,f2,f3,f4,f5⟩:=hf it (by simp)
  have W:=Walks.range (prog:=X.prog) (w:=X.w) (I.ok.hd hc) it lo 1 n
  refine W.item i s _ _ hg st fun v h' tk hv st' kk=>?_
  obtain ⟨t,rfl⟩:=hv
  have I1:Inv X pins σ H { s with heap:=h',toks:=tk }:=I.turned (fun b o hb e=>kk b o (by simpa using hb) e) f0 f1 f3 f4 f5
  refine ⟨_,rfl,Ge (s:={ s with heap:=h',toks:=tk }) (n := "range_iterator") st' rfl rfl (by decide) ⟨.int (lo+i),H,I1,⟨t,?_⟩,⟨rfl,rfl⟩,st',fun b hb=>(hf b hb).1⟩⟩
  rw [Int.mul_one]
 done:=by
  intro X hP hw hK hc i pins s σ H E I hf st hg
  subst hP hw hK
  obtain ⟨f0,f1,f2,f3,f4,f5⟩:=hf it (by simp)
  exact wpAny_pyNext_range_end (I.ok.hd hc) st (by have:n<=i:=hg;omega) fun h' eb=>⟨rfl,I.turned (t':=s.toks) (fun b o hb e=>eb b o hb e) f0 f1 f3 f4 f5⟩
 self:=fun _ _ _ _ _ st h=>Up st h
section
variable {X:Cx}{tg:Expr}
theorem Zje {pins:List (Addr×Obj)}{σ:St}{H:Hp}{s:Shared}{R:It->Hp->Prop}{E:Value->Shared->Prop}{lo hi:Int}{t u v:Tok}{tk:Nat}(I:Inv X pins σ H s)(h1:-(2 ^ 62)<=lo)(h2:lo < 2 ^ 62)(h3:-(2 ^ 62)<=hi)(h4:hi < 2 ^ 62)
  (q:R (Eh lo (hi - lo).toNat) H):wpAny (model X.prog X.w) X.A (pyIter (.ref s.heap.objs.size)) (PIE X pins σ tg R) E { s with heap:=s.heap.push { cls:=.type "range",data:=.fields #[.int lo t,.int hi u,.int 1 v] },toks:=tk }:=by
 refine wpAny_pyIter_range (IsRange.new ..) (small_one h1 h2 h3 h4) ?_
 have I1:Inv X pins σ H { s with heap:=s.heap.push { cls:=.type "range",data:=.fields #[.int lo t,.int hi u,.int 1 v] },toks:=tk }:=I.kept fun b o e=>Oq _ e
 refine ⟨(s.heap.push { cls:=.type "range",data:=.fields #[.int lo t,.int hi u,.int 1 v] }).objs.size,[(s.heap.push { cls:=.type "range",data:=.fields #[.int lo t,.int hi u,.int 1 v] }).objs.size],_,_,H,rfl,
  I1.kept (t':=tk) fun b o e=>Oq _ e,Zf4 _ lo (hi - lo).toNat,?_,fun b hb=>?_,q⟩
 ·have e1:lo+((0:Nat):Int) * 1=lo:=by simp
  have e2:(((hi - lo).toNat:Nat):Int) - ((0:Nat):Int)=P5 lo hi 1:=by rw [rangeSize_one];split <;> omega
  show IsRangeIter _ _ (lo+((0:Nat):Int) * 1) ((((hi - lo).toNat:Nat):Int) - ((0:Nat):Int)) 1
  rw [e1,e2]
  exact O0 _ rfl
 ·have e:b=(s.heap.push { cls:=.type "range",data:=.fields #[.int lo t,.int hi u,.int 1 v] }).objs.size:=by simpa using hb
  subst e
  exact I1.fpOk (Ol _) (I1.hok.fresh (Ol _))
noncomputable def Zan (ta:TA):TI:=fun σ H R=>ta σ H fun vs H1=>∃ j:Int,vs=[.int j]/\-(2 ^ 62)<=j/\j < 2 ^ 62/\R (Eh 0 j.toNat) H1
theorem Znm {a:Expr}{ta:TA}{p pos:Pos}(hg:Gl X "range")(hm:X.mg "range" = none)(ha:PA X [a] ta)(hs:starEach [a] X.env=[(false,eval a X.env)]:=by rfl):PI X tg (.Call (.Name "range" p) [a] [] pos) (Zan ta):=by
 intro pins s σ H R I h
 refine Call_ (D4 I hg hm boot_range (Qx (Ag (ha pos pins s σ H _ I h) fun us s1 zq=>?_) hs rfl))
 obtain ⟨vs,H1,I1,r1,q1⟩:=zq
 obtain ⟨j,e,q1,q2,q⟩:=q1
 subst e
 cases r1 with
 | cons r rr =>
  cases rr
  obtain ⟨t,rfl⟩:=r
  exact call_range_1 (Zje I1 (by omega) (by omega) q1 q2 (by simpa using q))
noncomputable def Nw (wi:TI)(g:TG)(tb:TS):TS:=fun D σ H=>wi σ H fun J H1=>∃ W:Nat->Nat->St->Hp->Prop,(∃ m,W 0 m σ H1)/\∀ i m σ H,W i m σ H ->
 (J.stop i H/\D.nx σ H)\/(J.go i H/\∃ N:St->Hp->Prop,(∀ σ' H',N σ' H'->∃ m',m' < m/\W (i+1) m' σ' H')/\∀ x H',J.yld i H x H'->g x σ H' fun σ2 H2=>tb { D with nx:=N,ct:=N,bk:=D.nx } σ2 H2)
noncomputable def Iw (fp:List Addr)(h:Heap):List (Addr×Obj):=fp.filterMap fun b=>(h.get? b).map fun o=>(b,o)
theorem Kr {fp:List Addr}{h:Heap}{b:Addr}{o:Obj}(hb:b∈fp)(e:h.get? b=some o):(b,o)∈Iw fp h:=Uw.mpr ⟨b,hb,by rw [e];rfl⟩
theorem Zln {fp:List Addr}{h:Heap}{p:Addr×Obj}(hp:p∈Iw fp h):p.1∈fp/\h.get? p.1=some p.2:=by
 obtain ⟨b,hb,e⟩:=Uw.mp hp
 cases q:h.get? b with
 | none=>rw [q] at e;cases e
 | some o =>
  rw [q] at e
  have e':(b,o)=p:=Ov e
  subst e'
  exact ⟨hb,q⟩
theorem Inv.pinned {pins:List (Addr×Obj)}{σ:St}{H:Hp}{s:Shared}{fp:List Addr}(I:Inv X pins σ H s)(hf:∀ b∈fp,FpOk X pins H b)(ho:∀ b∈fp,∃ o,s.heap.get? b=some o/\∀ v,o.data≠.cell v):Inv X (pins++Iw fp s.heap) σ H s :=
 I.pins_of fun p hp=>(Pr.mp hp).elim (fun z=>I.pin p (P6 _ z)) fun z=>by
  obtain ⟨hb,e⟩:=Zln z
  obtain ⟨f0,f1,f2,_⟩:=hf p.1 hb
  obtain ⟨o,e',d⟩:=ho p.1 hb
  rw [e] at e';cases e'
  exact ⟨e,f0,f1,f2,d⟩
theorem Inv.unpinned {pins pl:List (Addr×Obj)}{σ:St}{H:Hp}{s:Shared}(I:Inv X (pins++pl) σ H s):Inv X pins σ H s:=I.pins_of fun p hp=>I.pin p (P6 _ (Q9 _ hp))
theorem Zi5 {iter:Expr}{body:List Stmt}{wi:TI}{g:TG}{tb:TS}{pos:Pos}(hp:PassesOwn (model X.prog X.w) X.A X.env X.xe)(hc:X.calm=true)(hi:PI X tg iter wi)(hg:PG X tg g)(hb:PSs X body tb)
  (hs:∀ x,foldedSetIterable iter X.env x=pure x:=by intro _;rfl):PS X (.For tg iter body [] pos) (Nw wi g tb):=by
 intro pins s σ H D I h
 refine wpAny_For (Ag (hi pins s σ H _ I h) fun v s1 h1=>Ag h1 fun itv s2 h2=>?_) hs
 obtain ⟨it,fp,tn,J,H2,e,I2,T,st2,f2,W,⟨m0,w0⟩,turn⟩:=h2
 subst e
 have stat:∀{H':Hp},(∀ b∈fp,H' b=none)->∀ b∈fp,FpOk X pins H' b:=fun hn b hb=>⟨hn b hb,(f2 b hb).2⟩
 refine codeAny_forLoop_any (fun n s'=>∃ i σ' H',Inv X pins σ' H' s'/\tn i s'.heap/\(∀ b∈fp,H' b=none)/\W i n σ' H') ?_ m0 ⟨0,σ,H2,I2,st2,fun b hb=>(f2 b hb).1,w0⟩
 rintro n s3 ⟨i,σ3,H3,I3,st3,fr3,w3⟩
 rcases turn i n σ3 H3 w3 with ⟨stop,qn⟩ | ⟨go,N,hN,step⟩
 ·refine Re hp (Ag (T.done X rfl rfl rfl hc i pins s3 σ3 H3 X.xe I3 (stat fr3) st3 stop) fun r s4 zq=>?_)
  obtain ⟨hr,I4⟩:=zq
  subst hr
  exact Tx ⟨σ3,H3,I4,qn⟩
 ·refine Re hp (Ag (T.item X rfl rfl rfl hc i pins s3 σ3 H3 X.xe I3 (stat fr3) st3 go) fun r s4 zq=>?_)
  obtain ⟨u,hr,h4⟩:=zq
  subst hr
  refine Re hp (Ag h4 fun _ s5 zq=>?_)
  obtain ⟨x,H5,I5,r5,y5,st5,fr5⟩:=zq
  have I5':=I5.pinned (stat fr5) (T.obj _ _ st5)
  refine Re hp (Ag (hg _ s5 σ3 H5 x u _ I5' r5 (step x H5 y5)) fun _ s6 zq=>?_)
  obtain ⟨σ6,H6,I6,q6⟩:=zq
  refine Re hp (Ag (hb _ s6 σ6 H6 _ I6 q6) fun f s7 q7=>?_)
  have again:∀{σ7:St}{H7:Hp},Inv X (pins++Iw fp s5.heap) σ7 H7 s7->N σ7 H7->∃ m,m < n/\∃ i σ' H',Inv X pins σ' H' s7/\tn i s7.heap/\(∀ b∈fp,H' b=none)/\W i m σ' H':=fun {σ7 H7} I7 n7=>by
   obtain ⟨m',hm,w7⟩:=hN σ7 H7 n7
   refine ⟨m',hm,i+1,σ7,H7,I7.unpinned,T.keep _ _ _ st5 fun b hb o e=>(I7.pin (b,o) (P6 _ (P6 _ (Kr hb e)))).1,fun b hb=>?_,w7⟩
   obtain ⟨o,e,d⟩:=T.obj _ _ st5 b hb
   exact (I7.pin (b,o) (P6 _ (P6 _ (Kr hb e)))).2.1
  cases f with
  | next=>obtain ⟨σ7,H7,I7,n7⟩:=q7;exact again I7 n7
  | cont=>obtain ⟨σ7,H7,I7,n7⟩:=q7;exact again I7 n7
  | brk=>obtain ⟨σ7,H7,I7,q7⟩:=q7;exact ⟨σ7,H7,I7.unpinned,q7⟩
  | ret v=>obtain ⟨x7,σ7,H7,I7,r7,q7⟩:=q7;exact ⟨x7,σ7,H7,I7.unpinned,r7,q7⟩
end
theorem Zm6 {K:Og}{a:Addr}{xs:List V}{g:TG}{tb:TS}{D:Cp}{σ:St}{H:Hp}(Pv:Nat->St->Hp->Prop)(h0:Pv 0 σ H)(hl:∀ i σ H,i<=xs.length->Pv i σ H->SqL K H a xs)
  (hs:∀ i x σ H,xs[i]?=some x->Pv i σ H->g x σ H fun σ2 H2=>tb { D with nx:=Pv (i+1),ct:=Pv (i+1),bk:=D.nx } σ2 H2) (hd:∀ σ H,Pv xs.length σ H->D.nx σ H) :
  ∃ W:Nat->Nat->St->Hp->Prop,(∃ m,W 0 m σ H)/\∀ i m σ H,W i m σ H ->
   ((Fy K a).stop i H/\D.nx σ H)\/((Fy K a).go i H/\∃ N:St->Hp->Prop,(∀ σ' H',N σ' H'->∃ m',m' < m/\W (i+1) m' σ' H')/\∀ x H',(Fy K a).yld i H x H'->g x σ H' fun σ2 H2=>tb { D with nx:=N,ct:=N,bk:=D.nx } σ2 H2):=by
 refine ⟨fun i m σ H=>m=xs.length - i/\i<=xs.length/\Pv i σ H,⟨xs.length,by simp,Pj _,h0⟩,?_⟩
 rintro i m σ H ⟨rfl,hi,p⟩
 have q:=hl i σ H hi p
 by_cases hlt:i < xs.length
 ·refine .inr ⟨⟨xs,xs[i],q,by simp [hlt]⟩,Pv (i+1),fun σ' H' p'=>⟨xs.length - (i+1),by omega,rfl,hlt,p'⟩,fun x H' y=>?_⟩
  obtain ⟨e,y⟩:=y
  subst e
  exact hs i x σ _ (y xs q) p
 ·have e:i=xs.length:=by omega
  subst e
  exact .inl ⟨⟨xs,q,Ol _⟩,hd σ H p⟩
theorem Zig {K:Og}{a:Addr}{xs:List V}{g:TG}{tb:TS}{D:Cp}{σ:St}{H:Hp}(Pv:Nat->St->Hp->Prop)(h0:Pv 0 σ H)(hl:∀ i σ H,i<=xs.length->Pv i σ H->SqT K H a xs)
  (hs:∀ i x σ H,xs[i]?=some x->Pv i σ H->g x σ H fun σ2 H2=>tb { D with nx:=Pv (i+1),ct:=Pv (i+1),bk:=D.nx } σ2 H2) (hd:∀ σ H,Pv xs.length σ H->D.nx σ H) :
  ∃ W:Nat->Nat->St->Hp->Prop,(∃ m,W 0 m σ H)/\∀ i m σ H,W i m σ H ->
   ((Ga K a).stop i H/\D.nx σ H)\/((Ga K a).go i H/\∃ N:St->Hp->Prop,(∀ σ' H',N σ' H'->∃ m',m' < m/\W (i+1) m' σ' H')/\∀ x H',(Ga K a).yld i H x H'->g x σ H' fun σ2 H2=>tb { D with nx:=N,ct:=N,bk:=D.nx } σ2 H2):=by
 refine ⟨fun i m σ H=>m=xs.length - i/\i<=xs.length/\Pv i σ H,⟨xs.length,by simp,Pj _,h0⟩,?_⟩
 rintro i m σ H ⟨rfl,hi,p⟩
 have q:=hl i σ H hi p
 by_cases hlt:i < xs.length
 ·refine .inr ⟨⟨xs,xs[i],q,by simp [hlt]⟩,Pv (i+1),fun σ' H' p'=>⟨xs.length - (i+1),by omega,rfl,hlt,p'⟩,fun x H' y=>?_⟩
  obtain ⟨e,y⟩:=y
  subst e
  exact hs i x σ _ (y xs q) p
 ·have e:i=xs.length:=by omega
  subst e
  exact .inl ⟨⟨xs,q,Ol _⟩,hd σ H p⟩
theorem Fj {lo:Int}{n:Nat}{g:TG}{tb:TS}{D:Cp}{σ:St}{H:Hp}(Pv:Nat->St->Hp->Prop)(h0:Pv 0 σ H)
  (hs:∀ i σ H,i < n->Pv i σ H->g (.int (lo+i)) σ H fun σ2 H2=>tb { D with nx:=Pv (i+1),ct:=Pv (i+1),bk:=D.nx } σ2 H2) (hd:∀ σ H,Pv n σ H->D.nx σ H) :
  ∃ W:Nat->Nat->St->Hp->Prop,(∃ m,W 0 m σ H)/\∀ i m σ H,W i m σ H ->
   ((Eh lo n).stop i H/\D.nx σ H)\/((Eh lo n).go i H/\∃ N:St->Hp->Prop,(∀ σ' H',N σ' H'->∃ m',m' < m/\W (i+1) m' σ' H')/\∀ x H',(Eh lo n).yld i H x H'->g x σ H' fun σ2 H2=>tb { D with nx:=N,ct:=N,bk:=D.nx } σ2 H2):=by
 refine ⟨fun i m σ H=>m=n - i/\i<=n/\Pv i σ H,⟨n,by simp,Pj _,h0⟩,?_⟩
 rintro i m σ H ⟨rfl,hi,p⟩
 by_cases hlt:i < n
 ·refine .inr ⟨hlt,Pv (i+1),fun σ' H' p'=>⟨n - (i+1),by omega,rfl,hlt,p'⟩,fun x H' y=>?_⟩
  obtain ⟨e,y⟩:=y
  subst e y
  exact hs i σ _ hlt p
 ·have e:i=n:=by omega
  subst e
  exact .inl ⟨Ol _,hd σ H p⟩
noncomputable abbrev R2:=V->V->Hp->VK->Prop
noncomputable def OpR (X:Cx)(f:Value->Value->Sem Value)(r:R2):Prop :=
 ∀(pins:List (Addr×Obj))(s:Shared)(σ:St)(H:Hp)(x y:V)(v u:Value)(Q:VK),Inv X pins σ H s->RelV x v->RelV y u->r x y H Q ->
  wpAny (model X.prog X.w) X.A (f v u) (EP X pins σ Q) X.xe s
noncomputable def UnR (X:Cx)(f:Value->Sem Value)(r:V->Hp->VK->Prop):Prop :=
 ∀(pins:List (Addr×Obj))(s:Shared)(σ:St)(H:Hp)(x:V)(v:Value)(Q:VK),Inv X pins σ H s->RelV x v->r x H Q ->
  wpAny (model X.prog X.w) X.A (f v) (EP X pins σ Q) X.xe s
noncomputable def Bz (X:Cx)(f:Value)(r:List V->Hp->VK->Prop):Prop :=
 ∀(pins:List (Addr×Obj))(s:Shared)(σ:St)(H:Hp)(xs:List V)(us:List Value)(Q:VK),Inv X pins σ H s->Vals xs us->r xs H Q ->
  wpAny (model X.prog X.w) X.A (call f us) (EP X pins σ Q) X.xe s
noncomputable def TruR (X:Cx)(r:V->Hp->(Bool->Hp->Prop)->Prop):Prop :=
 ∀(pins:List (Addr×Obj))(s:Shared)(σ:St)(H:Hp)(x:V)(v:Value)(Q:Bool->Hp->Prop),Inv X pins σ H s->RelV x v->r x H Q ->
  wpAny (model X.prog X.w) X.A (truthy v) (TP X pins σ Q) X.xe s
noncomputable def Bp (r:R2)(ta tb:TE):TE:=fun σ H Q=>ta σ H fun x H1=>tb σ H1 fun y H2=>r x y H2 Q
noncomputable def tUn (r:V->Hp->VK->Prop)(ta:TE):TE:=fun σ H Q=>ta σ H fun x H1=>r x H1 Q
noncomputable def rI (C:Int->Int->Prop)(g:Int->Int->V):R2:=fun x y H Q=>∃ i j,x=.int i/\y=.int j/\C i j/\Q (g i j) H
noncomputable def Dj (g:Int->Int->V):R2:=fun x y H Q=>∃ i j,x=.int i/\y=.int j/\Q (g i j) H
noncomputable def rU (g:Int->V):V->Hp->VK->Prop:=fun x H Q=>∃ i,x=.int i/\Q (g i) H
section
variable {X:Cx}{a b c:Expr}{ta tb tc:TE}{pos:Pos}
theorem Zah (ha:PE X a ta)(hb:PE X b tb){pins:List (Addr×Obj)}{s:Shared}{σ:St}{H:Hp}{R:V->V->Hp->Prop}(I:Inv X pins σ H s)
  (h:ta σ H fun x H1=>tb σ H1 fun y H2=>R x y H2) {Q:Value->Shared->Prop} {f:Value->Value->Sem Value}
  (hf:∀ v u s2 x y H2,Inv X pins σ H2 s2->RelV x v->RelV y u->R x y H2->wpAny (model X.prog X.w) X.A (f v u) Q X.xe s2) :
  wpAny (model X.prog X.w) X.A (eval a X.env) (fun v s₁=>wpAny (model X.prog X.w) X.A (eval b X.env) (fun u s₂=>wpAny (model X.prog X.w) X.A (f v u) Q X.xe s₂) X.xe s₁) X.xe s:=by
 refine Ag (ha pins s σ H _ I h) fun v s1 zq=>?_
 obtain ⟨x,H1,I1,r1,q1⟩:=zq
 refine Ag (hb pins s1 σ H1 _ I1 q1) fun u s2 zq=>?_
 obtain ⟨y,H2,I2,r2,q2⟩:=zq
 exact hf v u s2 x y H2 I2 r1 r2 q2
theorem Zk5 {op:Operator}{r:R2}(ho:OpR X (binaryOp op) r)(ha:PE X a ta)(hb:PE X b tb):PE X (.BinOp a op b pos) (Bp r ta tb):=by
 intro pins s σ H Q I h
 exact wpAny_BinOp (Zah ha hb I h fun v u s2 x y H2 I2 rx ry q=>ho pins s2 σ H2 x y v u Q I2 rx ry q)
theorem Ziz {op:UnaryOp}{r:V->Hp->VK->Prop}(ho:UnR X (unaryOp op) r)(ha:PE X a ta):PE X (.UnaryOp op a pos) (tUn r ta):=by
 intro pins s σ H Q I h
 exact UnaryOp_ (Ag (ha pins s σ H _ I h) fun v s1 ⟨x,H1,I1,r1,q1⟩=>ho pins s1 σ H1 x v Q I1 r1 q1)
theorem opI {f:Value->Value->Sem Value}{C:Int->Int->Prop}{g:Int->Int->Int}
  (rule:∀(i j:Int)(t u:Tok)(s:Shared)(Q:Value->Shared->Prop)(E:Value->Shared->Prop),C i j->Q (.int (g i j) s.toks) { s with toks:=s.toks+1 }->wpAny (model X.prog X.w) X.A (f (.int i t) (.int j u)) Q E s) :
  OpR X f (rI C fun i j=>.int (g i j)):=by
 intro pins s σ H x y v u Q I rx ry h
 obtain ⟨i,j,rfl,rfl,hc,q⟩:=h
 obtain ⟨t,rfl⟩:=rx
 obtain ⟨t',rfl⟩:=ry
 exact rule i j t t' s _ _ hc ⟨.int (g i j),H,I.tok _,⟨_,rfl⟩,q⟩
theorem opI0 {f:Value->Value->Sem Value}{g:Int->Int->Int}
  (rule:∀(i j:Int)(t u:Tok)(s:Shared)(Q:Value->Shared->Prop)(E:Value->Shared->Prop),Q (.int (g i j) s.toks) { s with toks:=s.toks+1 }->wpAny (model X.prog X.w) X.A (f (.int i t) (.int j u)) Q E s) :
  OpR X f (Dj fun i j=>.int (g i j)):=by
 intro pins s σ H x y v u Q I rx ry h
 obtain ⟨i,j,rfl,rfl,q⟩:=h
 obtain ⟨t,rfl⟩:=rx
 obtain ⟨t',rfl⟩:=ry
 exact rule i j t t' s _ _ ⟨.int (g i j),H,I.tok _,⟨_,rfl⟩,q⟩
theorem Zar {f:Value->Value->Sem Value}{g:Int->Int->Bool}
  (rule:∀(i j:Int)(t u:Tok)(s:Shared)(Q:Value->Shared->Prop)(E:Value->Shared->Prop),Q (.bool (g i j)) s->wpAny (model X.prog X.w) X.A (f (.int i t) (.int j u)) Q E s) :
  OpR X f (Dj fun i j=>.bl (g i j)):=by
 intro pins s σ H x y v u Q I rx ry h
 obtain ⟨i,j,rfl,rfl,q⟩:=h
 obtain ⟨t,rfl⟩:=rx
 obtain ⟨t',rfl⟩:=ry
 exact rule i j t t' s _ _ ⟨.bl (g i j),H,I,rfl,q⟩
noncomputable def CDiv (i j:Int):Prop:=0 < j/\j < 1073741824
noncomputable def CPow (i j:Int):Prop:=0<=j/\j<=1000000/\i.natAbs < 2 ^ 64
noncomputable def CMul (i j:Int):Prop:=(-(2 ^ 64) < i/\i < 2 ^ 64)\/(-(2 ^ 64) < j/\j < 2 ^ 64)
theorem CMul.ok {i j:Int}(h:CMul i j):IntMulOk i j:=by
 rcases h with ⟨h1,h2⟩ | ⟨h1,h2⟩
 ·exact .of_left (intBits_le_64 h1 h2)
 ·exact .of_right (intBits_le_64 h1 h2)
theorem op_add:OpR X (binaryOp .Add) (Dj fun i j=>.int (i+j)):=opI0 fun _ _ _ _ _ _ _ q=>add_int q
theorem Zcg:OpR X (binaryOp .Sub) (Dj fun i j=>.int (i - j)):=opI0 fun _ _ _ _ _ _ _ q=>sub_int q
theorem op_mul:OpR X (binaryOp .Mult) (rI CMul fun i j=>.int (i * j)):=opI fun _ _ _ _ _ _ _ hc q=>mul_int q hc.ok
theorem Zlt:OpR X (binaryOp .FloorDiv) (rI CDiv fun i j=>.int (i / j)):=opI fun i j _ _ _ _ _ hc q=>by
 have h1:(0:Int) < j:=hc.1
 have h2:j < 1073741824:=hc.2
 exact floordiv_int (by omega) (by rw [Int.fdiv_eq_ediv_of_nonneg i (by omega)];exact q) (.inl (PyProof.noPylong_small (by omega)))
theorem Ea:OpR X (binaryOp .Mod) (rI (fun _ j=>0 < j) fun i j=>.int (i % j)):=opI fun i j _ _ _ _ _ hc q=>by
 have h1:(0:Int) < j:=hc
 exact mod_int' (by omega) (by rw [Int.fmod_eq_emod_of_nonneg i (by omega)];exact q)
theorem Zak:OpR X (binaryOp .Pow) (rI CPow fun i j=>.int (i ^ j.toNat)):=opI fun _ _ _ _ _ _ _ hc q=>pow_int_small hc.1 hc.2.1 hc.2.2 q
theorem unI {f:Value->Sem Value}{g:Int->Int}
  (rule:∀(i:Int)(t:Tok)(s:Shared)(Q:Value->Shared->Prop)(E:Value->Shared->Prop),Q (.int (g i) s.toks) { s with toks:=s.toks+1 }->wpAny (model X.prog X.w) X.A (f (.int i t)) Q E s) :
  UnR X f (rU fun i=>.int (g i)):=by
 intro pins s σ H x v Q I rx h
 obtain ⟨i,rfl,q⟩:=h
 obtain ⟨t,rfl⟩:=rx
 exact rule i t s _ _ ⟨.int (g i),H,I.tok _,⟨_,rfl⟩,q⟩
theorem Mr:UnR X (unaryOp .USub) (rU fun i=>.int (-i)):=unI fun _ _ _ _ _ q=>neg_int q
end
noncomputable def Ec:V->V->Bool
 | .non,.non=>true | .non,.int _=>true | .int _,.non=>true | .non,.bl _=>true | .bl _,.non=>true | .non,.str _=>true | .str _,.non=>true
 | .int _,.int _=>true | .bl _,.bl _=>true | .str _,.str _=>true | .byt _,.byt _=>true
 | .int _,.str _=>true | .str _,.int _=>true | .bl _,.str _=>true | .str _,.bl _=>true
 | _,_=>false
noncomputable def rEq:R2:=fun x y H Q=>Ec x y=true/\Q (.bl (decide (x=y))) H
noncomputable def rNe:R2:=fun x y H Q=>Ec x y=true/\Q (.bl (!decide (x=y))) H
theorem Zea {i j:Int}:decide (V.int i=V.int j)=(i == j):=by
 rw [P9]
 simp
theorem Zdb {i j:Bool}:decide (V.bl i=V.bl j)=(i == j):=by
 rw [P9]
 simp
theorem Dk {i j:Str}:decide (V.str i=V.str j)=(i == j):=by
 rw [P9]
 simp
theorem Zez {i j:Array UInt8}:decide (V.byt i=V.byt j)=(i.toList == j.toList):=by
 rw [P9]
 cases i
 cases j
 simp
section
variable {X:Cx}{a b c:Expr}{ta tb tc:TE}{pos:Pos}
theorem A7 {pins:List (Addr×Obj)}{σ:St}{H:Hp}{s:Shared}{Q:VK}{k k':Bool}(I:Inv X pins σ H s)(q:Q (.bl k) H)(e:k=k'):EP X pins σ Q (.bool k') s:=by
 subst e
 exact ⟨.bl k,H,I,rfl,q⟩
theorem op_eq:OpR X (compareOp .Eq) rEq:=by
 intro pins s σ H x y v u Q I rx ry h
 obtain ⟨hs,q⟩:=h
 cases x with
 | non =>
  cases rx
  cases y with
  | non=>cases ry;exact PySem.EqNone.eq_none_none (A7 I q (by simp))
  | bl j=>cases ry;exact PySem.EqNone.eq_none_bool (A7 I q (by simp))
  | int j=>obtain ⟨t',rfl⟩:=ry;exact PySem.EqNone.eq_none_int (A7 I q (by simp))
  | str j=>obtain ⟨t',rfl⟩:=ry;exact PySem.EqNone.eq_none_str (A7 I q (by simp))
  | _=>exact absurd (show false=true from hs) Ot
 | bl i =>
  cases rx
  cases y with
  | non=>cases ry;exact PySem.EqNone.eq_bool_none (A7 I q (by simp))
  | bl j=>cases ry;exact eq_bool (A7 I q Zdb)
  | str j=>obtain ⟨t',rfl⟩:=ry;exact PySem.EqMixed.eq_bool_str (A7 I q (by simp))
  | _=>exact absurd (show false=true from hs) Ot
 | int i =>
  obtain ⟨t,rfl⟩:=rx
  cases y with
  | non=>cases ry;exact PySem.EqNone.eq_int_none (A7 I q (by simp))
  | int j=>obtain ⟨t',rfl⟩:=ry;exact eq_int (A7 I q Zea)
  | str j=>obtain ⟨t',rfl⟩:=ry;exact PySem.EqMixed.eq_int_str (A7 I q (by simp))
  | _=>exact absurd (show false=true from hs) Ot
 | str i =>
  obtain ⟨t,rfl⟩:=rx
  cases y with
  | non=>cases ry;exact PySem.EqNone.eq_str_none (A7 I q (by simp))
  | bl j=>cases ry;exact PySem.EqMixed.eq_str_bool (A7 I q (by simp))
  | int j=>obtain ⟨t',rfl⟩:=ry;exact PySem.EqMixed.eq_str_int (A7 I q (by simp))
  | str j=>obtain ⟨t',rfl⟩:=ry;exact eq_str (A7 I q Dk)
  | _=>exact absurd (show false=true from hs) Ot
 | byt i =>
  obtain ⟨t,rfl⟩:=rx
  cases y with
  | byt j=>obtain ⟨t',rfl⟩:=ry;exact PySem.W.eq_bytes (A7 I q Zez)
  | _=>exact absurd (show false=true from hs) Ot
 | _=>cases y <;> exact absurd (show false=true from hs) Ot
theorem op_ne:OpR X (compareOp .NotEq) rNe:=by
 intro pins s σ H x y v u Q I rx ry h
 obtain ⟨hs,q⟩:=h
 cases x with
 | non =>
  cases rx
  cases y with
  | non=>cases ry;exact PySem.EqNone.ne_none_none (A7 I q (by simp))
  | bl j=>cases ry;exact PySem.EqNone.ne_none_bool (A7 I q (by simp))
  | int j=>obtain ⟨t',rfl⟩:=ry;exact PySem.EqNone.ne_none_int (A7 I q (by simp))
  | str j=>obtain ⟨t',rfl⟩:=ry;exact PySem.EqNone.ne_none_str (A7 I q (by simp))
  | _=>exact absurd (show false=true from hs) Ot
 | bl i =>
  cases rx
  cases y with
  | non=>cases ry;exact PySem.EqNone.ne_bool_none (A7 I q (by simp))
  | bl j=>cases ry;exact ne_bool (A7 I q (congrArg not Zdb))
  | str j=>obtain ⟨t',rfl⟩:=ry;exact PySem.EqMixed.ne_bool_str (A7 I q (by simp))
  | _=>exact absurd (show false=true from hs) Ot
 | int i =>
  obtain ⟨t,rfl⟩:=rx
  cases y with
  | non=>cases ry;exact PySem.EqNone.ne_int_none (A7 I q (by simp))
  | int j=>obtain ⟨t',rfl⟩:=ry;exact ne_int (A7 I q (congrArg not Zea))
  | str j=>obtain ⟨t',rfl⟩:=ry;exact PySem.EqMixed.ne_int_str (A7 I q (by simp))
  | _=>exact absurd (show false=true from hs) Ot
 | str i =>
  obtain ⟨t,rfl⟩:=rx
  cases y with
  | non=>cases ry;exact PySem.EqNone.ne_str_none (A7 I q (by simp))
  | bl j=>cases ry;exact PySem.EqMixed.ne_str_bool (A7 I q (by simp))
  | int j=>obtain ⟨t',rfl⟩:=ry;exact PySem.EqMixed.ne_str_int (A7 I q (by simp))
  | str j=>obtain ⟨t',rfl⟩:=ry;exact ne_str (A7 I q (congrArg not Dk))
  | _=>exact absurd (show false=true from hs) Ot
 | byt i =>
  obtain ⟨t,rfl⟩:=rx
  cases y with
  | byt j=>obtain ⟨t',rfl⟩:=ry;exact PySem.W.ne_bytes (A7 I q (congrArg not Zez))
  | _=>exact absurd (show false=true from hs) Ot
 | _=>cases y <;> exact absurd (show false=true from hs) Ot
theorem op_lt:OpR X (compareOp .Lt) (Dj fun i j=>.bl (decide (i < j))):=Zar fun _ _ _ _ _ _ _ q=>lt_int q
theorem op_le:OpR X (compareOp .LtE) (Dj fun i j=>.bl (decide (i<=j))):=Zar fun _ _ _ _ _ _ _ q=>le_int q
theorem Dc:OpR X (compareOp .Gt) (Dj fun i j=>.bl (decide (j < i))):=Zar fun _ _ _ _ _ _ _ q=>gt_int q
theorem Zl3:OpR X (compareOp .Lt) (fun x y H Q=>∃ i j,x=.str i/\y=.str j/\Q (.bl (decide (i.cps.toList < j.cps.toList))) H):=by
 intro pins s σ H x y v u Q I rx ry h
 obtain ⟨i,j,rfl,rfl,q⟩:=h
 obtain ⟨t,rfl⟩:=rx
 obtain ⟨t',rfl⟩:=ry
 exact lt_str (A7 I q rfl)
theorem Zhq:OpR X (compareOp .In) (fun x y H Q=>∃ i j,x=.str i/\y=.str j/\Q (.bl (!(Builtin.Str.occurrences j i 0 j.length 1).isEmpty)) H):=by
 intro pins s σ H x y v u Q I rx ry h
 obtain ⟨i,j,rfl,rfl,q⟩:=h
 obtain ⟨t,rfl⟩:=rx
 obtain ⟨t',rfl⟩:=ry
 exact in_str (A7 I q rfl)
theorem Zic:OpR X (compareOp .NotIn) (fun x y H Q=>∃ i j,x=.str i/\y=.str j/\Q (.bl (!(!(Builtin.Str.occurrences j i 0 j.length 1).isEmpty))) H):=by
 intro pins s σ H x y v u Q I rx ry h
 obtain ⟨i,j,rfl,rfl,q⟩:=h
 obtain ⟨t,rfl⟩:=rx
 obtain ⟨t',rfl⟩:=ry
 exact notIn_str (A7 I q rfl)
theorem OpR.or {f:Value->Value->Sem Value}{r r':R2}(h:OpR X f r)(h':OpR X f r'):OpR X f (fun x y H Q=>r x y H Q\/r' x y H Q):=by
 intro pins s σ H x y v u Q I rx ry q
 rcases q with q | q
 ·exact h pins s σ H x y v u Q I rx ry q
 ·exact h' pins s σ H x y v u Q I rx ry q
theorem Av (b:Expr){op:CmpOp}(h:op≠.In:=by decide)(h2:op≠.NotIn:=by decide):behindInMarks op b=false:=by
 have e1:(op == CmpOp.In)=false:=by cases op <;> first | rfl | exact absurd rfl h
 have e2:(op == CmpOp.NotIn)=false:=by cases op <;> first | rfl | exact absurd rfl h2
 cases b <;> simp [behindInMarks,e1,e2]
theorem Zh2 {op:CmpOp}{r:R2}(ho:OpR X (compareOp op) r)(ha:PE X a ta)(hb:PE X b tb)(hm:behindInMarks op b=false):PE X (.Compare a [op] [b] pos) (Bp r ta tb):=by
 intro pins s σ H Q I h
 exact wpAny_Compare1 (Zah ha hb I h fun v u s2 x y H2 I2 rx ry q=>ho pins s2 σ H2 x y v u Q I2 rx ry q) hm
noncomputable def Dp (t:TE):TT:=fun σ H Q=>t σ H fun x H'=>∃ k,x=.bl k/\Q k H'
theorem Zoa {op:CmpOp}{r:R2}(ho:OpR X (compareOp op) r)(ha:PE X a ta)(hb:PE X b tb)(hm:behindInMarks op b=false):PT X (.Compare a [op] [b] pos) (Dp (Bp r ta tb)):=by
 intro pins s σ H Q I h
 refine wpAny_isTrue_Compare1 (Ag (ha pins s σ H _ I h) fun v s1 ⟨x,H1,I1,r1,q1⟩=>Ag (hb pins s1 σ H1 _ I1 q1) fun u s2 ⟨y,H2,I2,r2,q2⟩ =>
  Ag (ho pins s2 σ H2 x y v u _ I2 r1 r2 q2) fun c s3 ⟨z,H3,I3,r3,k,e,q3⟩=>?_) hm
 subst e
 cases r3
 exact Qf ⟨H3,I3,q3⟩
noncomputable def Ix (r r':R2)(ta tb tc:TE):TE:=fun σ H Q=>ta σ H fun x H1=>tb σ H1 fun y H2=>r x y H2 fun z H3=>∃ k,z=.bl k /\
 (if k=true then tc σ H3 fun w' H4=>r' y w' H4 Q else Q (.bl false) H3)
theorem Zko {op op':CmpOp}{r r':R2}(ho:OpR X (compareOp op) r)(ho':OpR X (compareOp op') r')(ha:PE X a ta)(hb:PE X b tb)(hc:PE X c tc)
  (hm:lastMarks [op,op'] [b,c]=false:=by with_unfolding_all rfl):PE X (.Compare a [op,op'] [b,c] pos) (Ix r r' ta tb tc):=by
 intro pins s σ H Q I h
 refine Compare_chain (Ag (ha pins s σ H _ I h) fun v s1 ⟨x,H1,I1,r1,q1⟩=>chain_link (Ag (hb pins s1 σ H1 _ I1 q1) fun u s2 ⟨y,H2,I2,r2,q2⟩ =>
  Ag (ho pins s2 σ H2 x y v u _ I2 r1 r2 q2) fun d s3 ⟨z,H3,I3,r3,k,e,q3⟩=>?_)) hm
 subst e
 cases r3
 refine Qf ?_
 cases k with
 | false=>exact ite_ff ⟨.bl false,H3,I3,rfl,q3⟩
 | true=>exact ite_tt (chain_last (Ag (hc pins s3 σ H3 _ I3 q3) fun w' s4 ⟨z',H4,I4,r4,q4⟩=>ho' pins s4 σ H4 y z' u w' Q I4 r2 r4 q4))
theorem Zh1 {op op':CmpOp}{r r':R2}(ho:OpR X (compareOp op) r)(ho':OpR X (compareOp op') r')(ha:PE X a ta)(hb:PE X b tb)(hc:PE X c tc)
  (hm:lastMarks [op,op'] [b,c]=false:=by with_unfolding_all rfl):PT X (.Compare a [op,op'] [b,c] pos) (Dp (Ix r r' ta tb tc)):=by
 intro pins s σ H Q I h
 refine isTrue_chain (Ag (ha pins s σ H _ I h) fun v s1 ⟨x,H1,I1,r1,q1⟩=>test_link (Ag (hb pins s1 σ H1 _ I1 q1) fun u s2 ⟨y,H2,I2,r2,q2⟩ =>
  Ag (ho pins s2 σ H2 x y v u _ I2 r1 r2 q2) fun d s3 ⟨z,H3,I3,r3,k,e,q3⟩=>?_)) hm
 subst e
 cases r3
 refine Qf ?_
 cases k with
 | false =>
  obtain ⟨k',e',q'⟩:=q3
  cases e'
  exact ite_ff ⟨H3,I3,q'⟩
 | true =>
  refine ite_tt (test_last (Ag (hc pins s3 σ H3 _ I3 q3) fun w' s4 zq=>?_))
  obtain ⟨z',H4,I4,r4,q4⟩:=zq
  refine Ag (ho' pins s4 σ H4 y z' u w' _ I4 r2 r4 q4) fun d' s5 zq=>?_
  obtain ⟨z2,H5,I5,r5,k2,e2,q5⟩:=zq
  subst e2
  cases r5
  exact Qf ⟨H5,I5,q5⟩
noncomputable def Ij (K:Og)(x:V)(H:Hp)(k:Bool):Prop :=
 match x with
 | .non=>k=false
 | .bl b=>k=b
 | .int i=>k=(i != 0)
 | .str y=>y.length<=sizeLine/\k=((y.length:Int) != 0)
 | .byt y=>y.size<=sizeLine/\k=((y.size:Int) != 0)
 | .ref p=>(∃ xs,SqL K H p xs/\k=!xs.isEmpty)\/(∃ xs,SqT K H p xs/\k=!xs.isEmpty)\/∃ kvs,H p=some (.dK kvs)/\k=!kvs.isEmpty
 | _=>False
theorem Zjl {κ:Type}{kvs:List (κ×V)}{vs:List (κ×Value)}(r:KV kvs vs):(!vs.isEmpty)=!kvs.isEmpty:=by
 cases r <;> rfl
theorem Zb7 {xs:List V}{its:List Value}(r:Vals xs its):(!its.toArray.isEmpty)=!xs.isEmpty:=by
 cases r <;> simp
theorem G3:(sizeLine:Nat) < 2 ^ 63:=by rw [Sr];decide
theorem Ziq:TruR X (fun x H Q=>∃ k,Ij X.K x H k/\Q k H):=by
 intro pins s σ H x v Q I rx h
 obtain ⟨k,e,q⟩:=h
 have hl:=G3
 have hs:sizeLine=16777216:=Sr
 cases x with
 | non =>
  cases rx
  have e':k=false:=e
  subst e'
  exact truthy_none ⟨H,I,q⟩
 | bl b =>
  cases rx
  have e':k=b:=e
  subst e'
  exact Qf ⟨H,I,q⟩
 | int i =>
  obtain ⟨t,rfl⟩:=rx
  have e':k=(i != 0):=e
  subst e'
  exact PySem.P.truthy_int ⟨H,I,q⟩
 | str y =>
  obtain ⟨t,rfl⟩:=rx
  obtain ⟨hy,e'⟩:y.length<=sizeLine/\k=((y.length:Int) != 0):=e
  subst e'
  exact PySem.P.truthy_str (by omega) ⟨H,I.tok _,q⟩
 | byt y =>
  obtain ⟨t,rfl⟩:=rx
  obtain ⟨hy,e'⟩:y.size<=sizeLine/\k=((y.size:Int) != 0):=e
  subst e'
  exact PySem.W.truthy_bytes (by omega) ⟨H,I.tok _,q⟩
 | ref p =>
  cases rx
  have e':(∃ xs,SqL X.K H p xs/\k=!xs.isEmpty)\/(∃ xs,SqT X.K H p xs/\k=!xs.isEmpty)\/∃ kvs,H p=some (.dK kvs)/\k=!kvs.isEmpty:=e
  rcases e' with ⟨xs,hx,e'⟩ | ⟨xs,hx,e'⟩ | ⟨kvs,hx,e'⟩
  ·subst e'
   obtain ⟨its,r,pl,hz⟩:=I.list hx
   have hlen:=r.length
   exact wpAny_truthy_list pl.isList (by simp only [On];omega) ⟨H,I.tok _,by rw [Zb7 r];exact q⟩
  ·subst e'
   obtain ⟨its,r,pl,hz⟩:=I.tuple hx
   have hlen:=r.length
   exact truthy_tuple pl (by simp only [On];omega) ⟨H,I.tok _,by rw [Zb7 r];exact q⟩
  ·subst e'
   obtain ⟨hz,hS,vs,r,m⟩:kvs.length<=sizeLine/\(p == sysModules)=false/\∃ vs,KV kvs vs/\s.heap.DictOf (Cz X.prog X.w) p vs:=I.hok p _ hx
   have hlen:kvs.length=vs.length:=T8 r
   exact wpAny_truthy_dict hS m (by omega) ⟨H,I.tok _,by rw [Zjl r];exact q⟩
 | _=>exact (show False from e).elim
theorem Zlk (ha:PE X a ta)(he:∀ whole,isTrue a X.env whole=(do let v <- whole;standAt a.pos;holding [v] (truthy v))) :
  PT X a (fun σ H Q=>ta σ H fun x H'=>∃ k,Ij X.K x H' k/\Q k H'):=by
 intro pins s σ H Q I h
 exact isTrue_plain (Ag (ha pins s σ H _ I h) fun v s1 ⟨x,H1,I1,r1,q1⟩=>Ziq pins s1 σ H1 x v Q I1 r1 q1) (he _)
theorem op_add_str:OpR X (binaryOp .Add) (fun x y H Q=>∃ i j,x=.str i/\y=.str j/\i.length+j.length<=sizeLine/\Q (.str (i++j)) H):=by
 intro pins s σ H x y v u Q I rx ry h
 obtain ⟨i,j,rfl,rfl,hz,q⟩:=h
 obtain ⟨t,rfl⟩:=rx
 obtain ⟨t',rfl⟩:=ry
 exact add_str (fun t' tk=>⟨.str (i++j),H,I.tok _,⟨_,rfl⟩,q⟩) hz
theorem Je {x:V}{us:List Value}(r:Vals [x] us):∃ u,us=[u]/\RelV x u:=by
 cases r with
 | cons r1 r2=>cases r2;exact ⟨_,rfl,r1⟩
theorem Zfx {x y:V}{us:List Value}(r:Vals [x,y] us):∃ u w',us=[u,w']/\RelV x u/\RelV y w':=by
 cases r with
 | cons r1 r2 =>
  cases r2 with
  | cons r3 r4=>cases r4;exact ⟨_,_,rfl,r1,r3⟩
theorem Ziu (hc:X.calm=true):Bz X (.builtin "min") (fun xs H Q=>∃ i j,xs=[.int i,.int j]/\Q (.int (if j < i then j else i)) H):=by
 intro pins s σ H xs us Q I r h
 obtain ⟨i,j,rfl,q⟩:=h
 obtain ⟨u,w',rfl,⟨t,rfl⟩,⟨t',rfl⟩⟩:=Zfx r
 refine min_two_ints (I.ok.hd hc) fun h' tk k=>⟨_,H,I.kept k,?_,q⟩
 by_cases hj:j < i
 ·rw [if_pos hj,if_pos hj];exact ⟨_,rfl⟩
 ·rw [if_neg hj,if_neg hj];exact ⟨_,rfl⟩
theorem Zlh:Bz X (.type "int") (fun xs H Q=>(∃ i,xs=[.int i]/\Q (.int i) H)\/∃ k,xs=[.bl k]/\Q (.int (if k then 1 else 0)) H):=by
 intro pins s σ H xs us Q I r h
 rcases h with ⟨i,rfl,q⟩ | ⟨k,rfl,q⟩
 ·obtain ⟨u,rfl,t,rfl⟩:=Je r
  exact call_int_int ⟨.int i,H,I,⟨_,rfl⟩,q⟩
 ·obtain ⟨u,rfl,r1⟩:=Je r
  cases r1
  exact call_int_bool ⟨.int (if k then 1 else 0),H,I.tok _,⟨_,rfl⟩,q⟩
noncomputable def LenV (K:Og)(x:V)(H:Hp)(n:Nat):Prop :=
 match x with
 | .str y=>y.length<=sizeLine/\n=y.length
 | .byt y=>y.size<=sizeLine/\n=y.size
 | .ref p=>(∃ xs,SqL K H p xs/\n=xs.length)\/∃ xs,SqT K H p xs/\n=xs.length
 | _=>False
theorem Zku:Bz X (.builtin "len") (fun xs H Q=>∃ x n,xs=[x]/\LenV X.K x H n/\Q (.int n) H):=by
 intro pins s σ H xs us Q I r h
 obtain ⟨x,n,rfl,e,q⟩:=h
 obtain ⟨u,rfl,rx⟩:=Je r
 have hl:=G3
 have hs:sizeLine=16777216:=Sr
 cases x with
 | str y =>
  obtain ⟨t,rfl⟩:=rx
  obtain ⟨hy,e'⟩:y.length<=sizeLine/\n=y.length:=e
  subst e'
  exact len_str (by omega) ⟨.int _,H,I.tok _,⟨_,rfl⟩,q⟩
 | byt y =>
  obtain ⟨t,rfl⟩:=rx
  obtain ⟨hy,e'⟩:y.size<=sizeLine/\n=y.size:=e
  subst e'
  exact PySem.W.len_bytes (by omega) ⟨.int _,H,I.tok _,⟨_,rfl⟩,q⟩
 | ref p =>
  cases rx
  have e':(∃ xs,SqL X.K H p xs/\n=xs.length)\/∃ xs,SqT X.K H p xs/\n=xs.length:=e
  rcases e' with ⟨xs,hx,e'⟩ | ⟨xs,hx,e'⟩
  ·subst e'
   obtain ⟨its,r',pl,hz⟩:=I.list hx
   have hlen:=r'.length
   exact Calls.call_len_list pl.isList (by simp only [On];omega) ⟨.int xs.length,H,I.tok _,⟨_,by simp only [On];rw [hlen]⟩,q⟩
  ·subst e'
   obtain ⟨its,r',pl,hz⟩:=I.tuple hx
   have hlen:=r'.length
   exact len_tuple pl (by simp only [On];omega) ⟨.int xs.length,H,I.tok _,⟨_,by simp only [On];rw [hlen]⟩,q⟩
 | _=>exact (show False from e).elim
end
structure ObjM (h:Heap)(x dx C:Addr)(mA:Str->Option Value):Prop where
 obj:h.get? x=some (P0 C dx)
 ns:h.Ns1 dx mA
 ne:dx≠x
theorem Zp1 {h:Heap}{dx:Addr}{mA:Str->Option Value}(n:h.Ns1 dx mA):∃ od,h.get? dx=some od/\∀ name,PySem.W.lookIn name od=some (mA name):=by
 obtain ⟨o,es,ep,ho,hd,hk,_,hm⟩:=n
 refine ⟨o,ho,fun name=>?_⟩
 have e:=hm name
 unfold nsFind findBy at e
 rw [<- Array.find?_toList] at e
 unfold PySem.W.lookIn
 rw [hd]
 dsimp only
 split
 ·rename_i y q
  rw [q] at e
  exact congrArg some e
 ·rename_i q
  rw [q] at e
  have a:es.toList.any (·.refKey)=false:=by
   rw [List.any_eq_false]
   intro y hy
   obtain ⟨z,t,hkey⟩:=hk y (Array.mem_toList_iff.mp hy)
   simp [DictEntry.refKey,hkey]
  have a':¬ es.toList.any (·.refKey)=true:=by rw [a];exact Ot
  rw [if_neg a']
  exact congrArg some e
theorem ObjM.look {h:Heap}{x dx C:Addr}{mA:Str->Option Value}(I:ObjM h x dx C mA):∃ od,PySem.W.InstAt h x (P0 C dx) C (some od)/\∀ name,PySem.W.lookIn name od=some (mA name) :=
 let ⟨od,ho,hl⟩:=Zp1 I.ns
 ⟨od,⟨I.obj,rfl,rfl,ho⟩,hl⟩
section
variable {prog:Program}{w:World}{A:Around}{E:Value->Shared->Prop}{s:Shared}{K:Og}{x dx C f:Addr}{mA:Str->Option Value}{name:Str}{v:Value}
theorem Zn0 {ns:List Str}{Q:Unit->Shared->Prop}(X:K.In s.heap)(I:ObjM s.heap x dx C mA)
  (hs:Ph K (.ref C) "__setattr__" = some (some (.builtin "object.__setattr__"))) (hp:U3 K C=true) (ht:Vg K C name=some none) (hh:U4 K C=true)
  (hw:Ua mA ns) (hsz:ns.length<=sizeLine)
  (h:∀ h',ObjM h' x dx C (fun y=>if y=name then some v else mA y)->Pe dx s.heap h'->Q () { s with heap:=h',toks:=s.toks+2 }) :
  wpAny (model prog w) A (setAttr (.ref x) name v) Q E s:=by
 obtain ⟨od,J,hl⟩:=I.look
 refine PySem.W.set_plain X J hs (PySem.W.osa_open (s:={ s with toks:=s.toks+1 }) (r:=none) X J hp ht fun b=>?_)
 obtain ⟨cd,hc,hd'⟩:=PySem.W.any_some hh
 have hx:s.heap.get? x=some ⟨.ref C,some dx,.plain,#[]⟩:=I.obj
 refine Oh (Om (Oh (Oh (wpAny_loadPart hx (Oh (R1.here (s:={ s with toks:=s.toks+1 }) (PySem.W.looks_clsIn X hc) ?_))))))
 rw [hd']
 refine Om (a:=some dx) (Oh (Om (Oh ?_)))
 refine wpAny_nsSet1 (s:={ s with toks:=s.toks+1 }) I.ns fun h' hn2 hs2=>?_
 obtain ⟨oD,esD,epD,hoD,hdD,hcD⟩:=hn2.count (Ua.cons name v hw)
 refine Oh (wpAny_lookBehind hoD (by rw [hdD];exact pastItsLine_dict (Pc hcD (by rw [Ox];omega))) ?_)
 exact Om (h _ ⟨(hs2.2 _ (Pf I.ne)).trans I.obj,hn2,I.ne⟩ hs2)
theorem Zi0 {R:Result->Shared->Prop}{vs:List Value}{kw:List (Str×Value)}(X:K.In s.heap)(hm:Rx K C=true)
  (hi:Ph K (.ref C) "__init__" = some (some (.ref f))) (hf:PySem.W.typeIn K (.ref f)=some (.type "function"))
  (h:codeAny (model prog w) (A.under (.builtin "type.__call__" ⟨.ref C::vs,kw⟩)) (.call (.ref f) ⟨.ref (s.heap.objs.size+1)::vs,kw⟩) (PySem.W.InitBack (s.heap.objs.size+1) R)
   { s with heap:=(s.heap.push Po).push (P0 C s.heap.objs.size) }) :
  codeAny (model prog w) A (.call (.ref C) ⟨vs,kw⟩) R s:=by
 obtain ⟨hh,g,d,t,os⟩:=s
 exact PySem.W.make_core (Vb X hm) (PySem.W.looks_findIn X hi) (fun self=>PySem.W.bind_fn X self hf) (.inl rfl) h
theorem Zhw {R:Result->Shared->Prop}(X:K.In s.heap)(hm:Rx K C=true)
  (hi:Ph K (.ref C) "__init__" = some (some (.builtin "object.__init__")))
  (hb:∀ self,R1 (model prog w) s.heap (bindSpecial (.builtin "object.__init__") self) (.builtin "object.__init__",[self]))
  (h:codeAny (model prog w) (A.under (.builtin "type.__call__" ⟨[.ref C],[]⟩)) (.call (.builtin "object.__init__") ⟨[.ref (s.heap.objs.size+1)],[]⟩) (PySem.W.InitBack (s.heap.objs.size+1) R)
   { s with heap:=(s.heap.push Po).push (P0 C s.heap.objs.size) }) :
  codeAny (model prog w) A (.call (.ref C) ⟨[],[]⟩) R s:=by
 obtain ⟨hh,g,d,t,os⟩:=s
 exact PySem.W.make_core (Vb X hm) (PySem.W.looks_findIn X hi) hb (.inr ⟨rfl,rfl⟩) h
end
noncomputable def Cc (f:Str)(v:V):List (Str×V)->List (Str×V)
 | []=>[(f,v)]
 | (g,x)::r=>if g=f then (g,v)::r else (g,x)::Cc f v r
theorem Zbd (f g:Str)(v:V):∀ fs:List (Str×V),(Cc f v fs).lookup g=if g=f then some v else fs.lookup g
 | []=>by
  show Qt g [(f,v)]=_
  by_cases h:g=f
  ·have hb:(g == f)=true:=beq_iff_eq.mpr h
   simp only [Qt,hb,if_pos h]
  ·have hb:(g == f)=false:=beq_eq_false_iff_ne.mpr h
   simp only [Qt,hb,if_neg h]
 | (k,x)::r=>by
  have ih:=Zbd f g v r
  rw [show Cc f v ((k,x)::r)=(if k=f then (k,v)::r else (k,x)::Cc f v r) from rfl]
  by_cases hk:k=f
  ·rw [if_pos hk]
   by_cases h:g=k
   ·have hb:(g == k)=true:=beq_iff_eq.mpr h
    simp only [Qt,hb,if_pos (h.trans hk)]
   ·have hb:(g == k)=false:=beq_eq_false_iff_ne.mpr h
    simp only [Qt,hb,if_neg (fun e:g=f=>h (e.trans hk.symm))]
  ·rw [if_neg hk]
   by_cases h:g=k
   ·have hb:(g == k)=true:=beq_iff_eq.mpr h
    simp only [Qt,hb,if_neg (fun e:g=f=>hk (h.symm.trans e))]
   ·have hb:(g == k)=false:=beq_eq_false_iff_ne.mpr h
    simp only [Qt,hb]
    exact ih
theorem Nk (f:Str)(v:V):∀ fs:List (Str×V),f∈(Cc f v fs).map (·.1)/\∀ g,g∈fs.map (·.1)->g∈(Cc f v fs).map (·.1)
 | []=>⟨by simp [Cc],fun g h=>by simp at h⟩
 | (k,x)::r=>by
  obtain ⟨i1,i2⟩:=Nk f v r
  rw [show Cc f v ((k,x)::r)=(if k=f then (k,v)::r else (k,x)::Cc f v r) from rfl]
  by_cases hk:k=f
  ·rw [if_pos hk]
   subst hk
   exact ⟨by simp,fun g h=>by simpa using h⟩
  ·rw [if_neg hk]
   refine ⟨?_,fun g h=>?_⟩
   ·rw [O9]
    exact Pd _ i1
   ·rw [O9] at h ⊢
    rcases Ow.mp h with e | e
    ·exact Ow.mpr (.inl e)
    ·exact Pd _ (i2 g e)
theorem Zdn (f:Str)(v:V):∀ fs:List (Str×V),(Cc f v fs).length<=fs.length+1
 | []=>by simp [Cc]
 | (k,x)::r=>by
  have ih:=Zdn f v r
  rw [show Cc f v ((k,x)::r)=(if k=f then (k,v)::r else (k,x)::Cc f v r) from rfl]
  by_cases hk:k=f
  ·rw [if_pos hk,Ox,Ox];omega
  ·rw [if_neg hk,Ox,Ox];omega
theorem RelO.some_of {v:V}{o:Option Value}(r:RelO (some v) o):∃ u,o=some u/\RelV v u:=by
 cases o with
 | none=>exact (show False from r).elim
 | some u=>exact ⟨u,rfl,r⟩
section
variable {P:Program}{w:World}{H H':Hp}{h h':Heap}{a C dx:Addr}{fs fs':List (Str×V)}
theorem Zcn (hok:HOk P w H h)(e:H a=some (.ins C dx fs)):∃ mA,ObjM h a dx C mA/\(∀ f,RelO (fs.lookup f) (mA f))/\Ua mA (fs.map (·.1))/\fs.length<=1000/\H dx=some (.own a):=by
 obtain ⟨d,z,ne,ob,mA,n,r,q⟩:=(show ObjOk P w H h a (.ins C dx fs) from hok a _ e)
 exact ⟨mA,⟨ob,n,ne⟩,r,q,z,d⟩
end
structure Cls (K:Og)(C:Addr):Prop where
 pg:Vc K C Str.empty=true
 hd:U4 K C=true
 po:U3 K C=true
 sa:Ph K (.ref C) "__setattr__" = some (some (.builtin "object.__setattr__"))
theorem Cls.get {K:Og}{C:Addr}(c:Cls K C)(f:Str):Vc K C f=true:=c.pg
noncomputable def NoAttr (K:Og)(C:Addr)(f:Str):Prop:=Ph K (.ref C) f=some none
theorem NoAttr.taker {K:Og}{C:Addr}{f:Str}(n:NoAttr K C f):Vg K C f=some none:=by
 unfold Vg
 rw [show Ph K (.ref C) f=some none from n]
 rfl
section
variable {X:Cx}{pins:List (Addr×Obj)}{σ:St}{H:Hp}{s:Shared}{a C dx:Addr}{fs:List (Str×V)}{f:Str}{v:V}{A:Around}{E:Value->Shared->Prop}
theorem Zgj {y:V}{u:Value}{Q:Unit->Shared->Prop}(I:Inv X pins σ H s)(e:H a=some (.ins C dx fs))(c:Cls X.K C)(n:NoAttr X.K C f)(hl:fs.length < 1000)(ry:RelV y u)
  (h:∀ s',Inv X pins σ (upd H a (.ins C dx (Cc f y fs))) s'->Q () s'):wpAny (model X.prog X.w) A (setAttr (.ref a) f u) Q E s:=by
 obtain ⟨mA,O,r,wi,_,ho⟩:=Zcn I.hok e
 have hz:(fs.map (·.1)).length<=sizeLine:=by rw [O1,Sr];omega
 refine Zn0 I.kIn O c.sa c.po n.taker c.hd wi hz fun h' O' sb=>h _ ?_
 have hd:∃ o,h'.get? dx=some o:=let ⟨o,_,_,e',_⟩:=O'.ns;⟨o,e'⟩
 refine I.write (x:=a) (e:=dx) (by rw [e];exact True.intro) (.inr ho) (fun b q hb z=>(sb.2 b hb).trans z) hd ?_
 refine ⟨by rw [Ah O.ne];exact ho,?_,O.ne,O'.obj,_,O'.ns,fun g=>?_,fun g hg=>?_⟩
 ·have:=Zdn f y fs;omega
 ·show RelO ((Cc f y fs).lookup g) (if g=f then some u else mA g)
  rw [Zbd]
  by_cases q:g=f
  ·rw [if_pos q,if_pos q];exact ry
  ·rw [if_neg q,if_neg q];exact r g
 ·by_cases q:g=f
  ·rw [q];exact (Nk f y fs).1
  ·refine (Nk f y fs).2 g (wi g fun z=>hg ?_)
   show (if g=f then some u else mA g)=none
   rw [if_neg q];exact z
theorem Inv.made (I:Inv X pins σ H s):Inv X pins σ (upd (upd H s.heap.objs.size (.own (s.heap.objs.size+1))) (s.heap.objs.size+1) (.ins C s.heap.objs.size []))
  { s with heap:=(s.heap.push Po).push (P0 C s.heap.objs.size) }:=by
 have e1:(s.heap.push Po).get? s.heap.objs.size=some Po:=O0 s.heap rfl
 have e2:((s.heap.push Po).push (P0 C s.heap.objs.size)).get? (s.heap.objs.size+1)=some (P0 C s.heap.objs.size):=by
  have:=O0 (s.heap.push Po) (o:=P0 C s.heap.objs.size) rfl
  rwa [Q3] at this
 have e3:(s.heap.push Po).Ns s.heap.objs.size (fun _=>none):=⟨Po,#[],_,e1,rfl,(fun e he=>absurd he (by simp)),fun _=>rfl⟩
 have I1:=I.laid (a:=s.heap.objs.size) (o:=.own (s.heap.objs.size+1)) (h':=s.heap.push Po) (t':=s.toks) (fun b u q=>Oq _ q) (Ol _) ⟨_,e1⟩
 refine I1.laid (a:=s.heap.objs.size+1) (o:=.ins C s.heap.objs.size []) (t':=s.toks) (fun b u q=>Oq _ q) (Nat.le_of_eq (Q3 _ _)) ?_
 have ne:s.heap.objs.size≠s.heap.objs.size+1:=Oy (Ru _)
 refine ⟨by rw [Ah ne,Ad],Pj _,ne,e2,fun _=>none,(Heap.Ns1.of_empty e3).at fun o q=>Oq _ q,fun _=>True.intro,fun y hy=>absurd rfl hy⟩
end
noncomputable def Lq (K:Og)(ta tv:TE)(f:Str):TS:=fun D σ H=>tv σ H fun y H1=>ta σ H1 fun x H2=>∃ a C dx fs,x=.ref a/\H2 a=some (.ins C dx fs)/\Cls K C/\NoAttr K C f/\fs.length < 1000 /\
 D.nx σ (upd H2 a (.ins C dx (Cc f y fs)))
section
variable {X:Cx}{o e value:Expr}{f:Str}{pos pos' tpos:Pos}{ta tv:TE}
theorem Zi7 (ha:PE X o ta)(hv:PE X value tv)(hs:swapsWith value (some (.Attribute o f pos')) pos.line X.env=pure false):PS X (.Assign [.Attribute o f pos'] value pos) (Lq X.K ta tv f):=by
 intro pins s σ H D I h
 refine plainObj_wpAny_Assign_Attribute (Ag (hv pins s σ H _ I h) fun u s1 zq=>?_) hs
 obtain ⟨y,H1,I1,ry,q⟩:=zq
 refine Ag (ha pins s1 σ H1 _ I1 q) fun ov s2 zq=>?_
 obtain ⟨x,H2,I2,rx,a,C,dx,fs,ex,ea,c,n,l,q2⟩:=zq
 subst ex
 obtain rfl:ov=Value.ref a:=rx
 exact Zgj I2 ea c n l ry fun s3 I3=>⟨σ,_,I3,q2⟩
end
section
variable {X:Cx}{pins:List (Addr×Obj)}{σ:St}{H:Hp}{s:Shared}{A:Around}{E:Value->Shared->Prop}{Q:Value->Shared->Prop}{c:Value}{b:Bool}
inductive C5 (K:Og)(H:Hp):V->Value->Prop where
 | non:C5 K H .non (.type "NoneType")
 | bl (x:Bool):C5 K H (.bl x) (.type "bool")
 | int (i:Int):C5 K H (.int i) (.type "int")
 | str (x:Str):C5 K H (.str x) (.type "str")
 | flt (x:UInt64):C5 K H (.flt x) (.type "float")
 | lst {a:Addr} {xs:List V} (e:H a=some (.lst xs)):C5 K H (.ref a) (.type "list")
 | frz {a:Addr} {o:Obj} {xs:List V} (e:H a=some (.frz o (.lst xs))):C5 K H (.ref a) (.type "list")
 | tup {a:Addr} {xs:List V} (e:H a=some (.tup xs)):C5 K H (.ref a) (.type "tuple")
 | dK {a:Addr} {kvs:List (Ap×V)} (e:H a=some (.dK kvs)):C5 K H (.ref a) (.type "dict")
 | dT {a:Addr} {kvs:List (List Ap×V)} (e:H a=some (.dT kvs)):C5 K H (.ref a) (.type "dict")
 | ins {a C dx:Addr} {fs:List (Str×V)} (e:H a=some (.ins C dx fs)) (cl:Cls K C) (ha:Ph K (.ref C) "__class__" = some (some (.builtin "object.__class__")))
   (hn:U5 K (.builtin "object.__class__") "__get__" = some (some (.builtin "getset_descriptor.__get__"))) (htk:Vh K (.builtin "object.__class__")=some true)
   (hm:PySem.W.mroIn K C (.type "object")=some true):C5 K H (.ref a) (.ref C)
theorem Ziw {x:V}{u t:Value}(I:Inv X pins σ H s)(rx:RelV x u)(ty:C5 X.K H x t)(e:Q4 X.K t c=some b)(h:∀ tk,Q (.bool b) { s with toks:=tk }) :
  wpAny (model X.prog X.w) A (call (.builtin "isinstance") [u,c]) Q E s:=by
 cases ty with
 | non=>cases (show u=Value.none from rx);exact Ps PySem.W.kitx_none I.kIn True.intro e (fun z=>nomatch z) h
 | bl y=>cases (show u=Value.bool y from rx);exact Ps PySem.W.kitx_bool I.kIn True.intro e (fun z=>nomatch z) h
 | int i=>obtain ⟨t,q⟩:=(show ∃ t,u=Value.int i t from rx);cases q;exact Ps PySem.W.kitx_int I.kIn True.intro e (fun z=>nomatch z) h
 | str y=>obtain ⟨t,q⟩:=(show ∃ t,u=Value.str y t from rx);cases q;exact Ps PySem.W.kitx_str I.kIn True.intro e (fun z=>nomatch z) h
 | flt y=>obtain ⟨t,q⟩:=(show ∃ t,u=Value.float y t from rx);cases q;exact Ps PySem.W.kitx_float I.kIn True.intro e (fun z=>nomatch z) h
 | @lst a xs ea =>
  cases (show u=Value.ref a from rx)
  obtain ⟨_,_,n,_,h1⟩:=(show ObjOk X.prog X.w H s.heap a (.lst xs) from I.hok a _ ea)
  exact Ps U6 I.kIn ⟨_,h1,rfl⟩ e (fun z=>nomatch z) h
 | @frz a ob xs ea =>
  cases (show u=Value.ref a from rx)
  obtain ⟨_,_,_,n,_,h1⟩:=(show ObjOk X.prog X.w H s.heap a (.frz ob (.lst xs)) from I.hok a _ ea)
  exact Ps U6 I.kIn ⟨_,h1,rfl⟩ e (fun z=>nomatch z) h
 | @tup a xs ea =>
  cases (show u=Value.ref a from rx)
  obtain ⟨_,_,_,p⟩:=(show ObjOk X.prog X.w H s.heap a (.tup xs) from I.hok a _ ea)
  obtain ⟨o,h1,h2,_⟩:=p
  exact Ps PySem.W.kitx_tuple I.kIn ⟨o,h1,h2⟩ e (fun z=>nomatch z) h
 | @dK a kvs ea =>
  cases (show u=Value.ref a from rx)
  obtain ⟨_,_,vs,_,p⟩:=(show ObjOk X.prog X.w H s.heap a (.dK kvs) from I.hok a _ ea)
  obtain ⟨o,es,ep,h1,h2,_⟩:=p
  exact Ps PySem.W.kitx_dict I.kIn ⟨o,h1,h2.1⟩ e (fun z=>nomatch z) h
 | @dT a kvs ea =>
  cases (show u=Value.ref a from rx)
  obtain ⟨_,_,xs,_,o,es,ep,h1,h2,_⟩:=(show ObjOk X.prog X.w H s.heap a (.dT kvs) from I.hok a _ ea)
  exact Ps PySem.W.kitx_dict I.kIn ⟨o,h1,h2.1⟩ e (fun z=>nomatch z) h
 | @ins a C dx fs ea cl ha hn htk hm =>
  cases (show u=Value.ref a from rx)
  obtain ⟨mA,O,_⟩:=Zcn I.hok ea
  obtain ⟨od,J,_⟩:=O.look
  exact Ps (PySem.W.kitx_own (cl.get _) cl.hd ha hn htk hm) I.kIn J e (fun z=>nomatch z) h
end
structure Room (k:Nat)(A:Around):Prop where
 hd:A.handled=none
 dp:A.depth+3 * k+5 < recursionLimit
 un:A.units+16 * k+200 < cLine
theorem Room.mono {j k:Nat}{A:Around}(r:Room k A)(h:j<=k):Room j A:=⟨r.hd,by have:=r.dp;omega,by have:=r.un;omega⟩
theorem Room.deeper {k:Nat}{A:Around}(r:Room (k+1) A)(env:Env):Room k (A.deeper env) :=
 ⟨r.hd,by have:=r.dp;show A.depth+1+3 * k+5 < _;omega,by have:=r.un;show A.units+3+16 * k+200 < _;omega⟩
theorem Zol {A:Around}{C:Addr}{us:List Value}{kw:List (Str×Value)}:(A.under (.builtin "type.__call__" ⟨.ref C::us,kw⟩)).depth=A.depth+1:=by
 first | rfl | simp [Around.under,Code.weight,Code.isCreation,Code.isGuard,Code.isCaller,Code.frames,Code.isFrame,guardIds]
theorem Zn9 {A:Around}{C:Addr}{us:List Value}{kw:List (Str×Value)}:(A.under (.builtin "type.__call__" ⟨.ref C::us,kw⟩)).units=A.units+1:=by
 first | rfl | simp [Around.under,Code.cUnits,Code.frames,Code.isFrame]
theorem Room.make {k:Nat}{A:Around}(r:Room (k+1) A)(C:Addr)(us:List Value)(kw:List (Str×Value)):Room k (A.under (.builtin "type.__call__" ⟨.ref C::us,kw⟩)) :=
 ⟨r.hd,by have:=r.dp;rw [Zol];omega,by have:=r.un;rw [Zn9];omega⟩
theorem Room.depth {k:Nat}{A:Around}(r:Room k A):A.depth < recursionLimit:=by have:=r.dp;omega
noncomputable def Ce:TA:=fun _ H Q=>Q [] H
noncomputable def Br (ta:TE)(tr:TA):TA:=fun σ H Q=>ta σ H fun x H1=>tr σ H1 fun xs H2=>Q (x::xs) H2
section
variable {X:Cx}{e:Expr}{es:List Expr}{te:TE}{t:TA}{pos:Pos}
theorem Za6:PA X [] Ce:=fun _ _ _ _ H Q I h=>U7 ⟨[],H,I,.nil,h⟩
theorem Ze2 (ha:PE X e te)(hr:PA X es t)(hs:starEach (e::es) X.env=(false,eval e X.env)::starEach es X.env:=by rfl):PA X (e::es) (Br te t):=by
 intro pos pins s σ H Q I h
 rw [hs]
 show wpAny _ _ (spliced ((false,eval e X.env)::backTo pos (starEach es X.env))) _ _ s
 refine Ux (Ag (ha pins s σ H _ I h) fun u s1 zq=>?_)
 obtain ⟨x,H1,I1,r1,q1⟩:=zq
 exact Ag (hr pos pins s1 σ H1 _ I1 q1) fun us s2 ⟨xs,H2,I2,r2,q2⟩=>⟨x::xs,H2,I2,.cons r1 r2,q2⟩
noncomputable def E8 (t:TA):TE:=fun σ H Q=>t σ H fun xs H1=>xs.length<=sizeLine/\∀ p,H1 p=none->Q (.ref p) (upd H1 p (.tup xs))
noncomputable def Kg (t:TA):TE:=fun σ H Q=>t σ H fun xs H1=>xs.length<=sizeLine/\∀ p,H1 p=none->Q (.ref p) (upd H1 p (.lst xs))
theorem Zho {x1}(h:PA X es t):PE X (.Tuple es x1 pos) (E8 t):=by
 intro pins s σ H Q I hq
 refine wpAny_Tuple_spliced (Ag (h pos pins s σ H _ I hq) fun us s1 ⟨xs,H1,I1,r,z,q⟩=>⟨by rw [<- r.length];exact z,?_⟩)
 have hf:H1 s1.heap.objs.size=none:=I1.hok.fresh (Ol _)
 refine ⟨.ref s1.heap.objs.size,upd H1 s1.heap.objs.size (.tup xs),I1.laid (t':=s1.toks) (fun b u e=>Oq _ e) (Ol _) ?_,rfl,q _ hf⟩
 exact ⟨z,us,r,⟨_,O0 _ rfl,rfl,_,rfl⟩⟩
theorem Zo0 (h:PA X es t):PE X (.List es pos) (Kg t):=by
 intro pins s σ H Q I hq
 refine wpAny_List_spliced (Ag (h pos pins s σ H _ I hq) fun us s1 ⟨xs,H1,I1,r,z,q⟩=>⟨by rw [<- r.length];exact z,?_⟩)
 have hf:H1 s1.heap.objs.size=none:=I1.hok.fresh (Ol _)
 refine ⟨.ref s1.heap.objs.size,upd H1 s1.heap.objs.size (.lst xs),I1.laid (t':=s1.toks) (fun b u e=>Oq _ e) (Ol _) ?_,rfl,q _ hf⟩
 exact ⟨z,us,0,r,O0 _ rfl⟩
end
noncomputable abbrev Sp:=List V->Hp->VK->XK->Prop
noncomputable abbrev Cg:=List Env->Hp->Shared->XK->Value->Shared->Prop
structure Env0 (P:Program)(w:World)(K:Og)(mg:Str->Option Value)(base:Heap)(A:Around)(outer:List Env)(s:Shared)(H:Hp):Prop where
 frames:A.frames=some outer
 mod:Mod K mg base
 bs:∀ b o,base.get? b=some o->s.heap.get? b=some o/\H b=none
 bsz:base.objs.size<=s.heap.objs.size
 funs:s.heap.FunFrames base outer
 frf:∀ b∈Co outer,H b=none
 hok:HOk P w H s.heap
 bare:AllBare s.gens
noncomputable def CE (outer:List Env)(P:Program)(w:World)(H:Hp)(s:Shared)(Q:VK)(u:Value)(s':Shared):Prop :=
 ∃ v H',s'.os=s.os/\AllBare s'.gens/\Un (Co outer) [] H H' s.heap s'.heap/\HOk P w H' s'.heap/\RelV v u/\Q v H'
noncomputable def CR (CX:Cg)(outer:List Env)(P:Program)(w:World)(H:Hp)(s:Shared)(Q:VK)(E:XK)(r:Result)(s':Shared):Prop :=
 match r with
 | .ok (.ret u)=>CE outer P w H s Q u s'
 | .ok _=>False
 | .error e=>CX outer H s E e s'
structure Ar (P:Program)(w:World)(K:Og)(mg:Str->Option Value)(base:Heap)(CX:Cg)(k:Nat)(f:Addr)(fd:FuncData)(ps:List Str)(sp:Sp):Prop where
 len:∀ vs H Q E,sp vs H Q E->vs.length=ps.length
 run:∀(A:Around)(outer:List Env)(s:Shared)(H:Hp)(args:Args)(us:List Value)(vs:List V)(Q:VK)(E:XK),Room k A->Env0 P w K mg base A outer s H->BindsTo s fd args (ps.zip us)->Vals vs us->sp vs H Q E ->
  codeAny (model P w) A (.call (.ref f) args) (CR CX outer P w H s Q E) s
theorem Env0.make {P:Program}{w:World}{K:Og}{mg:Str->Option Value}{base:Heap}{A:Around}{outer:List Env}{s:Shared}{H:Hp}(e:Env0 P w K mg base A outer s H)(C:Addr)(us:List Value)(kw:List (Str×Value)) :
  Env0 P w K mg base (A.under (.builtin "type.__call__" ⟨.ref C::us,kw⟩)) outer s H:=⟨by first | exact e.frames | (simpa [Around.under,Code.envs,Code.isFrame,pushEnvs] using e.frames),e.mod,e.bs,e.bsz,e.funs,e.frf,e.hok,e.bare⟩
section
variable {X:Cx}{pins:List (Addr×Obj)}{σ:St}{H:Hp}{s s':Shared}
theorem Inv.env0 (I:Inv X pins σ H s):Env0 X.prog X.w X.K X.mg X.base X.A X.stack s H :=
 ⟨I.ok.frames,I.ok.mod,I.bs,Pc I.ok.bsz I.sz,I.stack,I.stkFree,I.hok,I.bare⟩
theorem Inv.after {Q:VK}{u:Value}(I:Inv X pins σ H s)(h:CE X.stack X.prog X.w H s Q u s'):EP X pins σ Q u s':=by
 obtain ⟨v,H',os,bare,un,hok,r,q⟩:=h
 obtain ⟨hh,g,d,t,os'⟩:=s'
 obtain rfl:os'=s.os:=os
 exact ⟨v,H',I.call (h':=hh) (g':=g) (d':=d) (t':=t) (ch:=[]) un hok bare (fun b z=>absurd z (by simp)),r,q⟩
end
noncomputable def Es (sp:Sp)(dvs:List V)(E:XK)(t:TA):TE:=fun σ H Q=>t σ H fun vs H1=>sp (vs++dvs) H1 Q E
noncomputable def Binds (K:Og)(fd:FuncData)(ps:List Str)(ds:List Value):Prop :=
 ∀(s:Shared)(us:List Value),K.In s.heap->(us++ds).length=ps.length->BindsTo s fd ⟨us,[]⟩ (ps.zip (us++ds))
theorem Binds.all {K:Og}{fd:FuncData}{ps:List Str}(h:∀ us:List Value,us.length=ps.length->bindArgs fd ⟨us,[]⟩=pure (ps.zip us)):Binds K fd ps []:=fun s us _ hl=>by
 rw [Pt] at hl ⊢
 exact .of_eq (h us hl)
noncomputable def K3 (CX:Cg)(X:Cx)(E:XK):Prop:=∀(pins:List (Addr×Obj))(σ:St)(H:Hp)(s:Shared)(e:Value)(s':Shared),Inv X pins σ H s->CX X.stack H s E e s'->X.xe e s'
section
variable {X:Cx}{CX:Cg}{k:Nat}{f C:Addr}{fd:FuncData}{ps:List Str}{sp:Sp}{dvs:List V}{ds:List Value}{E:XK}{x m:Str}{p pos apos:Pos}{e o:Expr}{es:List Expr}{ta:TE}{t:TA}
theorem Zhu {pins:List (Addr×Obj)}{σ:St}{H:Hp}{s:Shared}{Q:VK}{us:List Value}{vs:List V}(F:Ar X.prog X.w X.K X.mg X.base CX k f fd ps sp)(hr:Room k X.A)(hb:Binds X.K fd ps ds)(hd:Vals dvs ds)(hx:K3 CX X E)
  (I:Inv X pins σ H s) (r:Vals vs us) (h:sp (vs++dvs) H Q E):wpAny (model X.prog X.w) X.A (call (.ref f) us) (EP X pins σ Q) X.xe s:=by
 have r2:Vals (vs++dvs) (us++ds):=r.append hd
 have hl:(us++ds).length=ps.length:=by rw [<- r2.length];exact F.len _ _ _ _ h
 refine wpAny_call (So (F.run X.A X.stack s H ⟨us,[]⟩ (us++ds) (vs++dvs) Q E hr I.env0 (hb s us I.kIn hl) r2 h) fun r s' hq=>?_)
 cases r with
 | error e=>exact hx pins σ H s e s' I hq
 | ok fl =>
  cases fl with
  | ret u=>exact I.after hq
  | next=>exact Py hq
  | brk=>exact Py hq
  | cont=>exact Py hq
theorem Zip (F:Ar X.prog X.w X.K X.mg X.base CX k f fd ps sp)(hr:Room k X.A)(hg:Gl X x)(hm:X.mg x=some (.ref f))(hk:P3 X.K (.ref f)=true)(hb:Binds X.K fd ps ds)(hd:Vals dvs ds)(hx:K3 CX X E)
  (ha:PA X (e::es) t) (hdb:(x == ("__debug__" : Str))=false:=by decide) (he:starEach (e::es) X.env=(false,eval e X.env)::starEach es X.env:=by rfl) (hpl:(backTo pos (starEach es X.env)).any (·.1)=false:=by rfl) :
  PE X (.Call (.Name x p) (e::es) [] pos) (Es sp dvs E t):=by
 intro pins s σ H Q I h
 refine Se (Kz I hg hm ?_ hdb)
 refine PySem.W.callWith_K (h₀:=X.base) I.ok.mod.kin hk (Ag (ha pos pins s σ H _ I h) fun us s1 zq=>?_) he hpl
 obtain ⟨vs,H1,I1,r,q⟩:=zq
 refine ⟨I1.kIn,?_⟩
 exact Zhu F hr hb hd hx I1 r q
structure Mk (K:Og)(C f:Addr):Prop where
 makes:Rx K C=true
 init:Ph K (.ref C) "__init__" = some (some (.ref f))
 fn:PySem.W.isFn K (.ref f)=true
 kp:P3 K (.ref C)=true
end
noncomputable def PK (X:Cx)(kws:List Keyword)(t:TA):Prop :=
 ∀(pos:Pos)(pins:List (Addr×Obj))(s:Shared)(σ:St)(H:Hp)(Q:List V->Hp->Prop),Inv X pins σ H s->t σ H Q->wpAny (model X.prog X.w) X.A (evalAll ((backToKw pos (keywordEach kws X.env)).map (·.2))) (AP X pins σ Q) X.xe s
section
variable {X:Cx}{CX:Cg}{k:Nat}{f C:Addr}{fd:FuncData}{ps ks:List Str}{sp:Sp}{E:XK}{x m:Str}{p pos apos kpos:Pos}{e o:Expr}{es:List Expr}{kws:List Keyword}{te ta:TE}{t tk:TA}{nm:Option Str}
theorem Zgp:PK X [] Ce:=fun _ _ _ _ H Q I h=>wpAny_evalAll_nil ⟨[],H,I,.nil,h⟩
structure Zaf (K:Og)(fd:FuncData)(ps ks:List Str)(g:List Value->List Value->List Value)(gV:List V->List V->List V):Prop where
 to:∀(s:Shared)(us ws:List Value),K.In s.heap->(g us ws).length=ps.length->BindsTo s fd ⟨us,ks.zip ws⟩ (ps.zip (g us ws))
 rel:∀{vs:List V}{us:List Value}{zs:List V}{ws:List Value},Vals vs us->Vals zs ws->Vals (gV vs zs) (g us ws)
variable {g:List Value->List Value->List Value}{gV:List V->List V->List V}
end
structure A1 (N P:List Str)(sc:Scope):Prop where
 kind:sc.kind=.function
 co:sc.isCoroutine=false
 gen:sc.isGenerator=false
 nd:N.Nodup
 pre:N.take P.length=P
 par:∀ x∈P,sc.names.lookup x=some .local\/sc.names.lookup x=some .cell
 nofree:∀ y∈sc.names,y.2≠.free
theorem Zaw {kindOf:Str->Option NameKind}{x:Str}:∀{binds:List (Str×Value)}{m:Str->Option Value},(∀ v,(x,v) ∉ binds)->bindL kindOf binds m x=m x
 | [],_,_=>rfl
 | (n,v)::r,m,h=>by
  unfold bindL
  rw [Zaw fun w hw=>h w (Pd _ hw)]
  split
  ·have:x≠n:=by rintro rfl;exact h v Pl
   simp [this]
  ·rfl
theorem Zbm {kindOf:Str->Option NameKind}{x:Str}:∀{binds:List (Str×Value)}{m:Str->Option Value},(∀ v,(x,v) ∉ binds)->bindC kindOf binds m x=m x
 | [],_,_=>rfl
 | (n,v)::r,m,h=>by
  unfold bindC
  rw [Zbm fun w hw=>h w (Pd _ hw)]
  split
  ·rfl
  ·have:x≠n:=by rintro rfl;exact h v Pl
   simp [this]
theorem Zcl {kindOf:Str->Option NameKind}{x:Str}{v:Value}:∀{P:List Str}{vs:List Value}{i:Nat}{m:Str->Option Value},P.Nodup->P[i]?=some x->vs[i]?=some v->kindOf x=some .local ->
  bindL kindOf (P.zip vs) m x=some v
 | [],_,_,_,_,h,_,_=>by simp at h
 | _::_,[],_,_,_,_,h,_=>by simp at h
 | p::P,w::vs,0,m,nd,h1,h2,hk=>by
  simp at h1 h2;subst h1;subst h2
  show bindL kindOf ((p,w)::P.zip vs) m p=_
  unfold bindL
  rw [Zaw fun v hv=>(Tz.mp nd).1 (Vi hv).1,if_pos hk]
  simp
 | p::P,w::vs,i+1,m,nd,h1,h2,hk=>by
  show bindL kindOf ((p,w)::P.zip vs) m x=_
  unfold bindL
  exact Zcl (i:=i) (Tz.mp nd).2 (by simpa using h1) (by simpa using h2) hk
theorem Zfd {kindOf:Str->Option NameKind}{x:Str}{v:Value}:∀{P:List Str}{vs:List Value}{i:Nat}{m:Str->Option Value},P.Nodup->P[i]?=some x->vs[i]?=some v->kindOf x≠some .local ->
  bindC kindOf (P.zip vs) m x=some v
 | [],_,_,_,_,h,_,_=>by simp at h
 | _::_,[],_,_,_,_,h,_=>by simp at h
 | p::P,w::vs,0,m,nd,h1,h2,hk=>by
  simp at h1 h2;subst h1;subst h2
  show bindC kindOf ((p,w)::P.zip vs) m p=_
  unfold bindC
  rw [Zbm fun v hv=>(Tz.mp nd).1 (Vi hv).1,if_neg hk]
  simp
 | p::P,w::vs,i+1,m,nd,h1,h2,hk=>by
  show bindC kindOf ((p,w)::P.zip vs) m x=_
  unfold bindC
  exact Zfd (i:=i) (Tz.mp nd).2 (by simpa using h1) (by simpa using h2) hk
noncomputable def start (N:List Str)(vs:List V):St:=vs.map some++Oo (N.length - vs.length) none
noncomputable def E6 (CX:Cg)(P:Program)(w:World)(K:Og)(mg:Str->Option Value)(base:Heap)(N:List Str)(qual:Str)(scope:Scope)(f:Addr)(cd:Value)(A:Around)(outer:List Env)(s:Shared)(H:Hp)(E:XK):Cx where
 prog:=P
 w:=w
 K:=K
 mg:=mg
 base:=base
 A:=A.deeper (envOfC qual scope s.heap.objs.size f cd)
 N:=N
 s₀:=s
 H₀:=H
 env:=envOfC qual scope s.heap.objs.size f cd
 outer:=outer
 stack:=envOfC qual scope s.heap.objs.size f cd::outer
 ex:=[]
 calm:=true
 fn:=fun _=>true
 pn:=[]
 xe:=fun e s'=>wpAny (model P w) (A.deeper (envOfC qual scope s.heap.objs.size f cd)) (leaving (envOfC qual scope s.heap.objs.size f cd) e) (fun _ s''=>CX outer H s E e s'') (fun e' s''=>CX outer H s E e' s'') s'
theorem Mj {sc:Scope}{n:Nat}{x:Str}(h:sc.names.lookup x=some .cell):∃ c,(cellsFrom n sc.names []).lookup x=some c:=by
 have q:=PySem.W.cellsFrom_some sc.names n [] (.inl h)
 exact Q6.mp q
theorem Znf {CX:Cg}{P:Program}{w:World}{K:Og}{mg:Str->Option Value}{base:Heap}{N ps:List Str}{qual:Str}{scope:Scope}{f:Addr}{cd:Value}{A:Around}{outer:List Env}{s s1:Shared}{H:Hp}{E:XK}{us:List Value}{vs:List V}
  (S:A1 N ps scope) (hd:A.handled=none) (e0:Env0 P w K mg base A outer s H) (hl:vs.length=ps.length) (r:Vals vs us)
  (x:InCallC s s.heap.objs.size (bindL (envOfC qual scope s.heap.objs.size f cd).kindOf (ps.zip us) fun _=>none) (cellsFrom (s.heap.objs.size+1) scope.names []) (bindC (envOfC qual scope s.heap.objs.size f cd).kindOf (ps.zip us) fun _=>none) s1) :
  Inv (E6 CX P w K mg base N qual scope f cd A outer s H E) [] (start N vs) H s1:=by
 have hpl:ps.length<=N.length:=by have:=congrArg R7 S.pre;rw [Pq] at this;omega
 obtain ⟨h1,tk,rfl,hk⟩:=x.done
 have noA:∀ b:Addr,b ∉ (E6 CX P w K mg base N qual scope f cd A outer s H E).ex:=fun b z=>absurd (show b∈([]:List Addr) from z) (by simp)
 refine ⟨⟨e0.mod,S.kind,rfl,rfl,Ol _,fun y z c h1 h2=>?_,fun y hy=>?_,fun y c _ h=>?_,fun _=>hd,Around.frames_deeper e0.frames,.inr ⟨rfl,rfl⟩,fun b z=>absurd z (noA b),e0.bs,e0.bsz,fun b _ _=>noA b,fun b z=>absurd z (noA b),e0.funs,e0.frf⟩,
  rfl,e0.bare,Un.kept hk,⟨_,x.toInCall.ns,fun i y v h1 h2 h3=>?_⟩,fun y c h=>⟨_,x.cell y c h⟩,e0.hok.fresh (Ol _),fun y c h=>?_,fun p hp=>absurd (show p∈([]:List (Addr×Obj)) from hp) (by simp),e0.hok.kept hk,?_⟩
 ·exact name_of_addr x.apart (Ra h1) (Ra h2)
 ·have hy:scope.names.lookup y=some .cell\/scope.names.lookup y=some .free:=hy
  rcases hy with hy | hy
  ·exact Mj hy
  ·exact absurd rfl (S.nofree _ (Ra hy))
 ·exact Nat.le_of_lt (x.above y c (Ra h))
 ·have hi:i < vs.length:=by
   unfold start at h2
   by_cases hi:i < vs.length
   ·exact hi
   ·rw [Qi (by simpa using hi)] at h2
    rw [List.getElem?_replicate] at h2
    split at h2 <;> cases h2
  have ha:vs[i]?=some v:=by
   unfold start at h2
   rw [Qj (by simpa using hi),Qq] at h2
   cases e:vs[i]? with
   | none=>rw [e] at h2;cases h2
   | some a=>rw [e] at h2;cases h2;rfl
  obtain ⟨u,hu,rv⟩:=r.get ha
  have hp:ps[i]?=some y:=by
   rw [<- S.pre,List.getElem?_take_of_lt (by omega)];exact h1
  have ndP:ps.Nodup:=by rw [<- S.pre];exact S.nd.sublist (List.take_sublist _ _)
  refine ⟨u,rv,?_⟩
  rcases S.par y (Oz hp) with k | k
  ·exact .inl ⟨k,Zcl ndP hp hu k⟩
  ·obtain ⟨c,e⟩:=Mj (n:=s.heap.objs.size+1) k
   refine .inr ⟨.inl k,c,e,?_⟩
   have q:=x.cell y c e
   rw [Zfd ndP hp hu (by show scope.names.lookup y≠_;rw [k];decide)] at q
   exact q
 ·exact e0.hok.fresh (Nat.le_of_lt (x.above y c (Ra h)))
 ·unfold start
  show _=N.length
  rw [Ou,O1,Qm]
  omega
theorem Zd8 {CX:Cg}{P:Program}{w:World}{K:Og}{mg:Str->Option Value}{base:Heap}{k:Nat}{f:Addr}{name qual:Str}{params:Arguments}{body:List Stmt}{scope:Scope}{dV kV doc pm cdv ct oc:Value}{an od:Option Addr}
  {osl:Array (Option Value)} {N ps:List Str} {sp:Sp} (lk:K.lookup f=some ⟨oc,od,.func (Pn name qual params body scope dV kV doc pm an cdv ct),osl⟩) (hcd:Rz K cdv qual=true) (S:A1 N ps scope)
  (len:∀ vs H Q E,sp vs H Q E->vs.length=ps.length)
  (hbody:∀(A:Around)(outer:List Env)(s:Shared)(H:Hp)(vs:List V)(Q:VK)(E:XK),Room k (A.deeper (envOfC qual scope s.heap.objs.size f cdv))->sp vs H Q E ->
   ∃ t,PSs (E6 CX P w K mg base N qual scope f cdv A outer s H E) body t/\t { nx:=fun _ H'=>Q .non H',rt:=Q } (start N vs) H) :
  Ar P w K mg base CX (k+1) f (Pn name qual params body scope dV kV doc pm an cdv ct) ps sp:=by
 refine ⟨len,fun A outer s H args us vs Q E hr e0 hb r hsp=>?_⟩
 have hl:=len _ _ _ _ hsp
 have KX:K.In s.heap:=e0.mod.kin.keeps fun b o e=>(e0.bs b o e).1
 have lim:s.heap.NoLimit:=e0.mod.nolimit.keeps fun b o e=>(e0.bs b o e).1
 have hkind:∀ y∈ps.zip us,scope.names.lookup y.1=some .local\/(scope.names.lookup y.1=some .cell/\((cellsFrom (s.heap.objs.size+1) scope.names []).lookup y.1).isSome=true):=fun ⟨n,v⟩ hy=>by
  rcases S.par n (Vi hy).1 with q | q
  ·exact .inl q
  ·exact .inr ⟨q,PySem.W.cellsFrom_some _ _ _ (.inl q)⟩
 refine codeAny_call_function hr.depth (KX _ _ lk) rfl S.co S.gen rfl (PySem.W.codeRec_of KX hcd) (hb _ _ _ _ ?_)
 refine wpAny_newFunctionEnv_cells S.kind hkind fun env he s1 x=>?_
 subst he
 refine ⟨lim.keeps x.toInCall.keep,codeAny_func ?_⟩
 obtain ⟨t,ht,hq⟩:=hbody A outer s H vs Q E (hr.deeper _) hsp
 have I:Inv (E6 CX P w K mg base N qual scope f cdv A outer s H E) [] (start N vs) H s1:=Znf S hr.hd e0 hl r x
 refine R9 (ht [] s1 (start N vs) H _ I hq) (fun fl s' hs=>?_) fun e s' hs=>hs
 have fin:∀{σ':St}{H':Hp}{v:V}{u:Value},Inv (E6 CX P w K mg base N qual scope f cdv A outer s H E) [] σ' H' s'->RelV v u->Q v H'->CE outer P w H s Q u s' :=
  fun {σ' H' v u} J rv q=>⟨v,H',J.os,J.bare,J.base,J.hok,rv,q⟩
 cases fl with
 | ret u =>
  obtain ⟨v,σ',H',J,rv,q⟩:=hs
  exact fin J rv q
 | next =>
  obtain ⟨σ',H',J,q⟩:=hs
  exact fin (v:=V.non) (u:=Value.none) J rfl q
 | brk =>
  obtain ⟨_,_,_,q⟩:=hs
  exact Py q
 | cont =>
  obtain ⟨_,_,_,q⟩:=hs
  exact Py q
section
variable {X:Cx}{x:Str}{p pos:Pos}{e:Expr}{es:List Expr}{t:TA}{id T:String}{r:List V->Hp->VK->Prop}
noncomputable def E5 (r:List V->Hp->VK->Prop)(t:TA):TE:=fun σ H Q=>t σ H fun vs H1=>r vs H1 Q
theorem Zmx (hc:Bz X (.builtin id) r)(hg:Gl X x)(hm:X.mg x=none)(hv:bootBuiltins x=some (.builtin id))(ha:PA X (e::es) t)(hn:x ≠ "__name__" := by decide)(hdb:(x == ("__debug__" : Str))=false:=by decide)
  (he:starEach (e::es) X.env=(false,eval e X.env)::starEach es X.env:=by rfl) (hpl:(backTo pos (starEach es X.env)).any (·.1)=false:=by rfl):PE X (.Call (.Name x p) (e::es) [] pos) (E5 r t):=by
 intro pins s σ H Q I h
 refine Se (D4 I hg hm hv ?_ hn hdb)
 exact PyProof.Rows.callWith_builtin1 (Ag (ha pos pins s σ H _ I h) fun us s1 ⟨vs,H1,I1,r1,q1⟩=>hc pins s1 σ H1 vs us Q I1 r1 q1) he hpl
theorem Zot (hc:Bz X (.type T) r)(hg:Gl X x)(hm:X.mg x=none)(hv:bootBuiltins x=some (.type T))(ha:PA X (e::es) t)(hn:x ≠ "__name__" := by decide)(hdb:(x == ("__debug__" : Str))=false:=by decide)
  (he:starEach (e::es) X.env=(false,eval e X.env)::starEach es X.env:=by rfl) (hpl:(backTo pos (starEach es X.env)).any (·.1)=false:=by rfl):PE X (.Call (.Name x p) (e::es) [] pos) (E5 r t):=by
 intro pins s σ H Q I h
 refine Se (D4 I hg hm hv ?_ hn hdb)
 exact Qx (Ag (ha pos pins s σ H _ I h) fun us s1 ⟨vs,H1,I1,r1,q1⟩=>hc pins s1 σ H1 vs us Q I1 r1 q1) he hpl
end
end L2
namespace HT
open PySem PyProof.Rows
section
open PySem.SeqAt
open PySem.AutoSeq1 (wpAny_loadPart')
open PySem.MeetsSeq PySem.MeetsSeq2 PySem.MeetsSeq3
end
section
variable {prog:Program}{w:World}{A:Around}{E:Value->Shared->Prop}{s:Shared}
theorem cat_tup {t b:Addr}{vs ws:List Value}{Q:Value->Shared->Prop}(ht:IsTup s.heap t vs.toArray)(hb:IsTup s.heap b ws.toArray)(hv:vs≠[])
  (h1:ws=[]->Q (.ref t) s) (h2:ws≠[]->Q (.ref s.heap.objs.size) { s with heap:=s.heap.push { cls:=.type "tuple",data:=.seq (vs++ws).toArray } })
  (hsz:vs.length+ws.length<=sizeLine):wpAny (model prog w) A (binaryOp .Add (.ref t) (.ref b)) Q E s:=by
 obtain ⟨⟨cls,dd,data,sl⟩,ho,hc,n,hd⟩:=id ht
 obtain ⟨⟨cls2,dd2,data2,sl2⟩,ho2,hc2,n2,hd2⟩:=id hb
 simp only at hc hd hc2 hd2
 subst hc hd hc2 hd2
 have e:vs.toArray++ws.toArray=(vs++ws).toArray:=by simp
 by_cases hw:ws=[]
 ·exact Ub ⟨_,ho,rfl⟩ ⟨_,ho2,rfl⟩ Tu T9 Th Tf (Tc _ _)
   (tuple_addW1 t b vs.toArray ws.toArray n n2 dd dd2 sl sl2 (by simpa using hv) (by simp [hw])) ⟨ho,ho2,h1 hw⟩
 ·refine Ub ⟨_,ho,rfl⟩ ⟨_,ho2,rfl⟩ Tu T9 Th Tf (Tc _ _)
   (tuple_addW2 t b vs.toArray ws.toArray n n2 dd dd2 sl sl2 (by simpa using hv) (by simpa using hw) (by rw [On,On];exact hsz)) ⟨ho,ho2,?_⟩
  rw [e]
  exact h2 hw
noncomputable def sIx (n d:Nat):Option Int->Nat
 | none=>d
 | some v=>if v < 0 then (v+(n:Int)).toNat else min v.toNat n
theorem sIx_none (n d:Nat):sIx n d none=d:=rfl
theorem sIx_nat (n d k:Nat):sIx n d (some (k:Int))=min k n:=by
 show (if (k:Int) < 0 then ((k:Int)+(n:Int)).toNat else min (k:Int).toNat n)=min k n
 rw [if_neg (by omega),Ts]
theorem Zgy (n d:Nat)(hd:d<=n)(o:Option Int):sIx n d o<=n:=by
 cases o with
 | none=>exact hd
 | some v =>
  show (if v < 0 then (v+(n:Int)).toNat else min v.toNat n)<=n
  by_cases hv:v < 0
  ·rw [if_pos hv];omega
  ·rw [if_neg hv];exact Nat.min_le_right _ _
theorem Zfz (v:Int)(n d:Nat):(if v < 0 then max (v+(n:Int)) 0 else min v (n:Int))=((sIx n d (some v):Nat):Int):=by
 show (if v < 0 then max (v+(n:Int)) 0 else min v (n:Int))=(((if v < 0 then (v+(n:Int)).toNat else min v.toNat n):Nat):Int)
 by_cases hv:v < 0
 ·simp only [if_pos hv];omega
 ·simp only [if_neg hv];omega
theorem Zgk (lo hi:Option Int)(n:Nat):Uk lo hi 1 (n:Int)=(((sIx n 0 lo:Nat):Int),((sIx n n hi:Nat):Int)):=by
 have h1:¬ ((1:Int) < 0):=by omega
 unfold Uk
 simp only [h1,if_false]
 refine Prod.ext ?_ ?_
 ·cases lo with
  | none=>rfl
  | some v=>exact Zfz v n 0
 ·cases hi with
  | none=>rfl
  | some v=>exact Zfz v n n
theorem Zok (i j:Nat):Ta (i:Int) (j:Int) 1=j - i:=by
 unfold Ta
 have h1:(1:Int) > 0:=by omega
 simp only [h1,if_true,Int.ediv_one]
 split <;> omega
theorem Zaz {v:Value}{o:Option Int}{Q:Option Int->Shared->Prop}(p:IsPart v o)(h:Q o s):wpAny (model prog w) A (Builtin.Slice.slicePartIndex v) Q E s:=by
 cases p with
 | none=>exact slicePart_none h
 | int i t=>exact slicePart_int h
theorem sliceApplied_gen {sl:Addr}{vl vu:Value}{lo hi:Option Int}{n:Nat}{Q:Int×Int×Nat->Shared->Prop}(hs:s.heap.IsSliceOf sl vl vu .none)(pl:IsPart vl lo)(pu:IsPart vu hi)
  (h:Q (((sIx n 0 lo:Nat):Int),1,sIx n n hi - sIx n 0 lo) s):wpAny (model prog w) A (Builtin.Slice.sliceApplied (.ref sl) (pure (n:Int))) Q E s:=by
 obtain ⟨os,hos,hcs,hds⟩:=id hs
 unfold Builtin.Slice.sliceApplied Builtin.Slice.sliceFields
 refine Oh (Oh (Px hos hds (x:=vl) rfl (Oh (Px hos hds (x:=vu) rfl (Oh (Px hos hds (x:=.none) rfl (Om ?_)))))))
 refine Oh (slicePart_none ?_)
 show wpAny _ _ (if ((1:Int) == 0)=true then _ else _) _ _ s
 rw [if_neg (by decide)]
 refine Oh (Zaz pl (Oh (Zaz pu (Oh (Om ?_)))))
 show wpAny _ _ (match Uk lo hi 1 (n:Int) with | (lo,hi)=>pure (lo,(1:Int),Ta lo hi 1)) _ _ s
 rw [Zgk lo hi n]
 show wpAny _ _ (pure (((sIx n 0 lo:Nat):Int),(1:Int),Ta ((sIx n 0 lo:Nat):Int) ((sIx n n hi:Nat):Int) 1)) _ _ s
 rw [Zok]
 exact Om h
theorem Zo8 (xs:Array Value)(i k:Nat):((O2 k).filterMap fun (m:Nat)=>xs[((i:Int)+(m:Int) * 1).toNat]?).toArray=((xs.toList.drop i).take k).toArray:=by
 have e:(fun (m:Nat)=>xs[((i:Int)+(m:Int) * 1).toNat]?)=fun m=>xs[i+m]?:=by
  funext m
  have:((i:Int)+(m:Int) * 1).toNat=i+m:=by omega
  rw [this]
 rw [e]
 have:=pick_run xs i k
 rw [List.filterMap_map] at this
 have e2:((fun x=>xs[x]?) ∘ fun x=>i+x)=fun m=>xs[i+m]?:=rfl
 rw [e2] at this
 rw [this]
theorem getItem_tuple_cut {t sl:Addr}{items:Array Value}{vl vu:Value}{lo hi:Option Int}{Q:Value->Shared->Prop}(ht:IsTup s.heap t items)(hs:s.heap.IsSliceOf sl vl vu .none)(pl:IsPart vl lo)(pu:IsPart vu hi)
  (hw:¬ (sIx items.size 0 lo=0/\sIx items.size items.size hi=items.size))
  (h:Q (.ref s.heap.objs.size) { s with heap:=s.heap.push { cls:=.type "tuple",data:=.seq ((items.toList.drop (sIx items.size 0 lo)).take (sIx items.size items.size hi - sIx items.size 0 lo)).toArray } })
  (hsz:items.size<=sizeLine):wpAny (model prog w) A (getItem (.ref t) (.ref sl)) Q E s:=by
 have htake:sizeOk (.seq ((items.toList.drop (sIx items.size 0 lo)).take (sIx items.size items.size hi - sIx items.size 0 lo)).toArray):=by
  show ((items.toList.drop (sIx items.size 0 lo)).take (sIx items.size items.size hi - sIx items.size 0 lo)).toArray.size<=sizeLine
  rw [On,Pq,Sj,Rr]
  omega
 have hj:sIx items.size items.size hi<=items.size:=Zgy _ _ (Ol _) hi
 obtain ⟨os,hos,hcs,hds⟩:=id hs
 have hTs:s.TypeIs (.ref sl) "slice" := ⟨os,hos,hcs⟩
 unfold getItem
 try with_reducible refine Qb ?_
 first | refine Oh (Om ?_) | skip
 refine Oh (wpAny_sequenceKey ht.typeIs (by decide) ?_)
 refine Oh (Rl (name:=Pw "__getitem__") ht.typeIs Rk
  (Rv Rk ht.typeIs entry_tuple_getitem ?_ (args_tuple_getitem _ _)))
 show wpAny _ _ (Builtin.Tuple.tupleItemsOf (.ref t) >>= _) _ _ s
 refine Oh (tupleItemsOf_ ht ?_)
 refine Oh (Uc hTs ?_)
 rw [if_pos (by decide)]
 refine Oh (sliceApplied_gen hs pl pu ?_)
 have hno:¬ ((((sIx items.size 0 lo:Nat):Int) == 0 && (1:Int) == 1 && (sIx items.size items.size hi - sIx items.size 0 lo) == items.size)=true):=by
  intro q
  rw [Pa,Pa] at q
  have q1:((sIx items.size 0 lo:Nat):Int)=0:=eq_of_beq q.1.1
  have q2:sIx items.size items.size hi - sIx items.size 0 lo=items.size:=eq_of_beq q.2
  exact hw ⟨by omega,by omega⟩
 show wpAny _ _ (if (((sIx items.size 0 lo:Nat):Int) == 0 && (1:Int) == 1 && (sIx items.size items.size hi - sIx items.size 0 lo) == items.size)=true then _ else _) _ _ s
 rw [if_neg hno,Zo8]
 first
  | exact Oh (m:=Td _) (Q0 (Om ⟨_,rfl,Om h⟩) htake)
  | exact Oh (m:=Td _) (Q0 (Oh (Om (Om ⟨_,rfl,Om h⟩))) htake)
  | exact Oh (Oh (m:=Td _) (Q0 (Om (Om ⟨_,rfl,Om h⟩)) htake))
  | exact Oh (Oh (m:=Td _) (Q0 (Om ⟨_,rfl,Om h⟩) htake))
end
end HT
namespace L2
open PySem PySem.Spec PyProof.Rows
noncomputable abbrev TO:=St->Hp->(Option Int->Hp->Prop)->Prop
noncomputable def PO (X:Cx)(e:Option Expr)(t:TO):Prop :=
 ∀(pins:List (Addr×Obj))(s:Shared)(σ:St)(H:Hp)(Q:Option Int->Hp->Prop),Inv X pins σ H s->t σ H Q ->
  wpAny (model X.prog X.w) X.A (evalPart e X.env) (fun u s'=>∃ o H',Inv X pins σ H' s'/\IsPart u o/\Q o H') X.xe s
noncomputable def Lj:TO:=fun _ H Q=>Q none H
noncomputable def Mv (t:TE):TO:=fun σ H Q=>t σ H fun x H1=>∃ i,x=.int i/\Q (some i) H1
section
variable {X:Cx}{e:Expr}{te:TE}{lo hi:Option Expr}{tl th:TO}{pos p2:Pos}
theorem Zpo:PO X none Lj:=by
 intro pins s σ H Q I h
 rw [evalPart_none]
 exact Om ⟨none,H,I,.none,h⟩
theorem Zpa (h:PE X e te):PO X (some e) (Mv te):=by
 intro pins s σ H Q I hw
 rw [evalPart_some]
 refine Ag (h pins s σ H _ I hw) fun u s1 zq=>?_
 obtain ⟨x,H1,I1,r1,q1⟩:=zq
 obtain ⟨i,rfl,q⟩:=q1
 obtain ⟨t,rfl⟩:=r1
 exact ⟨some i,H1,I1,.int i t,q⟩
noncomputable def SlR (X:Cx)(r:V->Option Int->Option Int->Hp->VK->Prop):Prop :=
 ∀(pins:List (Addr×Obj))(s:Shared)(σ:St)(H:Hp)(x:V)(v vl vu:Value)(lo hi:Option Int)(sl:Addr)(Q:VK),Inv X pins σ H s->RelV x v->s.heap.IsSliceOf sl vl vu .none->IsPart vl lo->IsPart vu hi->r x lo hi H Q ->
  ∃ T id,typeLookup (.type T) "__getitem__" = pure (some (.builtin id))/\s.TypeIs v T/\wpAny (model X.prog X.w) X.A (getItem v (.ref sl)) (EP X pins σ Q) X.xe s
theorem SlR.or {r r':V->Option Int->Option Int->Hp->VK->Prop}(h:SlR X r)(h':SlR X r'):SlR X (fun x lo hi H Q=>r x lo hi H Q\/r' x lo hi H Q):=by
 intro pins s σ H x v vl vu lo hi sl Q I rx hs pl pu q
 rcases q with q | q
 ·exact h pins s σ H x v vl vu lo hi sl Q I rx hs pl pu q
 ·exact h' pins s σ H x v vl vu lo hi sl Q I rx hs pl pu q
noncomputable def tSl (r:V->Option Int->Option Int->Hp->VK->Prop)(te:TE)(tl th:TO):TE:=fun σ H Q=>te σ H fun x H1=>tl σ H1 fun l H2=>th σ H2 fun u H3=>r x l u H3 Q
theorem Zps {r:V->Option Int->Option Int->Hp->VK->Prop}(hr:SlR X r)(he:PE X e te)(hl:PO X lo tl)(hu:PO X hi th):PE X (.Subscript e (.Slice lo hi none p2) pos) (tSl r te tl th):=by
 intro pins s σ H Q I h
 refine Subscript_ (Ag (he pins s σ H _ I h) fun v s1 zq=>?_)
 obtain ⟨x,H1,I1,r1,q1⟩:=zq
 refine wpAny_Slice (Ag (hl pins s1 σ H1 _ I1 q1) fun vl s2 zq=>?_)
 obtain ⟨l,H2,I2,pl,q2⟩:=zq
 refine Ag (hu pins s2 σ H2 _ I2 q2) fun vu s3 zq=>?_
 obtain ⟨u,H3,I3,pu,q3⟩:=zq
 rw [evalPart_none]
 refine Om ?_
 have I4:Inv X pins σ H3 { s3 with heap:=s3.heap.push { cls:=.type "slice",data:=.fields #[vl,vu,.none] } }:=I3.kept (t':=s3.toks) fun b ob q=>Oq _ q
 obtain ⟨T,id,hT,ht,hg⟩:=hr pins { s3 with heap:=s3.heap.push { cls:=.type "slice",data:=.fields #[vl,vu,.none] } } σ H3 x v vl vu l u s3.heap.objs.size Q I4 r1 (Heap.IsSliceOf.new ..) pl pu q3
 show wpAny (model X.prog X.w) X.A (subscriptTail e (.Slice lo hi none p2) v (.ref s3.heap.objs.size)) (EP X pins σ Q) X.xe { s3 with heap:=s3.heap.push { cls:=.type "slice",data:=.fields #[vl,vu,.none] } }
 exact tail_any (ops:=[.ref s3.heap.objs.size,v]) ht hT hg (by with_unfolding_all rfl)
noncomputable def C4 (xs:List V)(lo hi:Option Int):List V:=(xs.drop (HT.sIx xs.length 0 lo)).take (HT.sIx xs.length xs.length hi - HT.sIx xs.length 0 lo)
theorem Zcr (xs:List V)(lo hi:Option Int):(C4 xs lo hi).length<=xs.length:=by
 unfold C4
 rw [Pq,Sj]
 omega
noncomputable def rSlT (K:Og):V->Option Int->Option Int->Hp->VK->Prop:=fun x lo hi H Q=>∃ a xs,x=.ref a/\SqT K H a xs /\
 ¬ (HT.sIx xs.length 0 lo=0/\HT.sIx xs.length xs.length hi=xs.length)/\∀ p,H p=none->Q (.ref p) (upd H p (.tup (C4 xs lo hi)))
theorem Zc4:SlR X (rSlT X.K):=by
 intro pins s σ H x v vl vu lo hi sl Q I rx hs pl pu h
 obtain ⟨a,xs,rfl,hx,hw,q⟩:=h
 cases rx
 obtain ⟨its,r,ht,hz⟩:=I.tuple hx
 have hlen:its.toArray.size=xs.length:=by rw [On];exact r.length.symm
 refine ⟨"tuple",_,Rk.lookup,ht.typeIs,?_⟩
 refine HT.getItem_tuple_cut ht hs pl pu (by rw [hlen];exact hw) ?_ (by rw [hlen];exact hz)
 rw [hlen]
 refine ⟨.ref s.heap.objs.size,_,I.laid (t':=s.toks) (o:=.tup (C4 xs lo hi)) (fun b ob q=>Oq _ q) (Ol _) ?_,rfl,q _ (I.hok.fresh (Ol _))⟩
 exact ⟨Pc (Zcr xs lo hi) hz,_,(r.drop (HT.sIx xs.length 0 lo)).take (HT.sIx xs.length xs.length hi - HT.sIx xs.length 0 lo),IsTup.new _ _⟩
noncomputable def Zmm (K:Og):R2:=fun x y H Q=>∃ a b xs ys,x=.ref a/\y=.ref b/\SqT K H a xs/\SqT K H b ys/\xs≠[]/\xs.length+ys.length<=sizeLine /\
 (ys=[]->Q (.ref a) H)/\(ys≠[]->∀ p,H p=none->Q (.ref p) (upd H p (.tup (xs++ys))))
theorem Vals.nil_iff {xs:List V}{us:List Value}(r:Vals xs us):us=[]↔xs=[]:=by
 cases r with
 | nil=>simp
 | cons _ _=>simp
theorem Zc9:OpR X (binaryOp .Add) (Zmm X.K):=by
 intro pins s σ H x y v u Q I rx ry h
 obtain ⟨a,b,xs,ys,rfl,rfl,ha,hb,hx,hz,q1,q2⟩:=h
 cases rx
 cases ry
 obtain ⟨its,r1,p1,_⟩:=I.tuple ha
 obtain ⟨its2,r2,p2,_⟩:=I.tuple hb
 refine HT.cat_tup p1 p2 (fun z=>hx (r1.nil_iff.mp z)) (fun z=>⟨.ref a,H,I,rfl,q1 (r2.nil_iff.mp z)⟩) (fun z=>?_) (by rw [<- r1.length,<- r2.length];exact hz)
 refine ⟨.ref s.heap.objs.size,_,I.laid (t':=s.toks) (o:=.tup (xs++ys)) (fun b ob q=>Oq _ q) (Ol _) ?_,rfl,q2 (fun w=>z (r2.nil_iff.mpr w)) _ (I.hok.fresh (Ol _))⟩
 exact ⟨by rw [Ou];exact hz,_,r1.append r2,IsTup.new _ _⟩
end
noncomputable def Da (n:Nat)(i:Int):Option Nat:=if 0<=i then (if i < n then some i.toNat else none) else if -(n:Int)<=i then some (i+n).toNat else none
noncomputable def Bm {α:Type}(xs:List α)(i:Int):Option α:=(Da xs.length i).bind fun j=>xs[j]?
theorem Zb4 {n:Nat}{i:Int}{j:Nat}(h:Da n i=some j):seqIndex? i n=some j/\j < n/\-(n:Int)<=i/\i < n:=by
 unfold Da at h
 by_cases h0:0<=i
 ·rw [if_pos h0] at h
  by_cases h1:i < n
  ·rw [if_pos h1] at h
   have e:i.toNat=j:=Ov h
   exact ⟨by rw [Ug h0 h1,e],by omega,by omega,h1⟩
  ·rw [if_neg h1] at h;cases h
 ·rw [if_neg h0] at h
  by_cases h1:-(n:Int)<=i
  ·rw [if_pos h1] at h
   have e:(i+n).toNat=j:=Ov h
   exact ⟨by rw [seqIndex_neg (by omega) h1,e],by omega,h1,by omega⟩
  ·rw [if_neg h1] at h;cases h
theorem Km {α:Type}{xs:List α}{i:Int}{v:α}(h:Bm xs i=some v):∃ j,seqIndex? i xs.length=some j/\xs[j]?=some v/\j < xs.length/\-(xs.length:Int)<=i/\i < xs.length:=by
 unfold Bm at h
 cases e:Da xs.length i with
 | none=>rw [e] at h;cases h
 | some j =>
  rw [e] at h
  obtain ⟨h1,h2,h3,h4⟩:=Zb4 e
  exact ⟨j,h1,h,h2,h3,h4⟩
theorem Dh {α:Type}{xs:List α}{j:Nat}{v:α}(h:xs[j]?=some v):Bm xs (j:Int)=some v:=by
 have hj:j < xs.length:=(O6.mp h).1
 have e:Da xs.length (j:Int)=some j:=by
  unfold Da
  rw [if_pos (by omega),if_pos (by omega)];simp
 unfold Bm;rw [e];exact h
noncomputable def Lw (b:Expr):Prop:=∀ o i,subscripted b false o i=operate [o,i] (getItem o i)
noncomputable def IxR (X:Cx)(r:R2):Prop :=
 ∀(value slice:Expr)(pins:List (Addr×Obj))(s:Shared)(σ:St)(H:Hp)(x y:V)(v u:Value)(Q:VK),Inv X pins σ H s->RelV x v->RelV y u->r x y H Q ->
  subscripted slice false v u=operate [v,u] (getItem v u)->wpAny (model X.prog X.w) X.A (subscriptTail value slice v u) (EP X pins σ Q) X.xe s
noncomputable def Fe (X:Cx)(id:String)(r:V->List V->Hp->VK->Prop):Prop :=
 ∀(pins:List (Addr×Obj))(s:Shared)(σ:St)(H:Hp)(x:V)(xs:List V)(v:Value)(us:List Value)(Q:VK),Inv X pins σ H s->RelV x v->Vals xs us->r x xs H Q ->
  wpAny (model X.prog X.w) X.A (call (.builtin id) (v::us)) (EP X pins σ Q) X.xe s
section
variable {X:Cx}{a b:Expr}{ta tb:TE}{pos:Pos}
theorem IxR.or {r r':R2}(h:IxR X r)(h':IxR X r'):IxR X (fun x y H Q=>r x y H Q\/r' x y H Q):=by
 intro value slice pins s σ H x y v u Q I rx ry q hs
 rcases q with q | q
 ·exact h value slice pins s σ H x y v u Q I rx ry q hs
 ·exact h' value slice pins s σ H x y v u Q I rx ry q hs
theorem Zor {r:R2}(hr:IxR X r)(ha:PE X a ta)(hb:PE X b tb)(hs:Lw b):PE X (.Subscript a b pos) (Bp r ta tb):=by
 intro pins s σ H Q I h
 exact Subscript_ (Zah ha hb I h fun v u s2 x y H2 I2 rx ry q=>hr a b pins s2 σ H2 x y v u Q I2 rx ry q (hs _ _))
noncomputable def rIxL (K:Og):R2:=fun x y H Q=>∃ p xs i v,x=.ref p/\y=.int i/\SqL K H p xs/\Bm xs i=some v/\Q v H
noncomputable def rIxT (K:Og):R2:=fun x y H Q=>∃ p xs i v,x=.ref p/\y=.int i/\SqT K H p xs/\Bm xs i=some v/\Q v H
noncomputable def rIxS:R2:=fun x y H Q=>∃ z i c,x=.str z/\y=.int i/\z.length<=sizeLine/\Bm z.cps.toList i=some c/\Q (.str ⟨#[c]⟩) H
theorem ix_list:IxR X (rIxL X.K):=by
 intro value slice pins s σ H x y v u Q I rx ry h hs
 obtain ⟨p,xs,i,z,rfl,rfl,hq,he,q⟩:=h
 cases rx
 obtain ⟨t,rfl⟩:=ry
 obtain ⟨its,r,pl,hz⟩:=I.list hq
 obtain ⟨j,h1,h2,h3,h4,h5⟩:=Km he
 obtain ⟨w,ew,rw'⟩:=r.get h2
 have hl:=r.length
 have hn:=G3
 have fin:EP X pins σ Q w s:=⟨z,H,I,rw',q⟩
 by_cases h0:0<=i
 ·have hj:i.toNat=j:=by
   rw [Ug h0 h5] at h1
   exact Ov h1
  exact item_listR pl.isList h0 (by omega) (by rw [hj];simpa using ew) fin hs
 ·have hj:(i+(its.toArray.size:Int)).toNat=j:=by
   rw [seqIndex_neg (by omega) h4] at h1
   rw [On,<- hl]
   exact Ov h1
  exact subscriptTail_builtinR (x:=w) pl.isList.typeIs slot_list_getitem.lookup
   (wpAny_getItem_list_neg (Q:=fun r s'=>r=w/\EP X pins σ Q r s') pl.isList (by omega) (by rw [On] <;> omega) (by omega) (by rw [hj];simpa using ew) ⟨rfl,fin⟩) hs
theorem ix_tup:IxR X (rIxT X.K):=by
 intro value slice pins s σ H x y v u Q I rx ry h hs
 obtain ⟨p,xs,i,z,rfl,rfl,hq,he,q⟩:=h
 cases rx
 obtain ⟨t,rfl⟩:=ry
 obtain ⟨its,r,pl,hz⟩:=I.tuple hq
 obtain ⟨j,h1,h2,h3,h4,h5⟩:=Km he
 obtain ⟨w,ew,rw'⟩:=r.get h2
 have hl:=r.length
 have hn:=G3
 have fin:EP X pins σ Q w s:=⟨z,H,I,rw',q⟩
 exact subscriptTail_builtinR (x:=w) pl.typeIs slot_tuple_getitem.lookup
  (getItem_tuple (j:=j) (Q:=fun r s'=>r=w/\EP X pins σ Q r s') pl (by omega) (by omega) (by rw [On,<- hl];exact h1) (by simpa using ew) ⟨rfl,fin⟩) hs
theorem Znh:IxR X rIxS:=by
 intro value slice pins s σ H x y v u Q I rx ry h hs
 obtain ⟨z,i,c,rfl,rfl,hz,he,q⟩:=h
 obtain ⟨t,rfl⟩:=rx
 obtain ⟨t',rfl⟩:=ry
 obtain ⟨j,h1,h2,h3,h4,h5⟩:=Km he
 have hl:z.cps.toList.length=z.length:=by simp [Str.length]
 rw [hl] at h1 h4 h5
 have hn:=G3
 exact tail_any (typeIs_str s z t) slot_str_getitem.lookup (getItem_str (c:=c) (by
  have e1:decide (i < -(2 ^ 63:Int))=false:=decide_eq_false (by omega)
  have e2:decide (i ≥ 2 ^ 63)=false:=decide_eq_false (by omega)
  rw [e1,e2,Bool.or_false]) (by rw [h1];simpa using h2) ⟨.str ⟨#[c]⟩,H,I.tok _,⟨_,rfl⟩,q⟩) hs
noncomputable def Ep (K:Og):R2:=fun x y H Q=>rIxL K x y H Q\/rIxT K x y H Q\/rIxS x y H Q
theorem Zgg:IxR X (Ep X.K):=ix_list.or (ix_tup.or Znh)
theorem Zm7 (its:List Value)(n j:Nat)(u:Value):Pk (·.setIfInBounds j u) { cls:=.type "list",data:=.seq its.toArray n }={ cls:=.type "list",data:=.seq (its.set j u).toArray n }:=by
 simp [Pk]
theorem Inv.lst {pins:List (Addr×Obj)}{σ:St}{H:Hp}{s:Shared}{p:Addr}{xs:List V}(I:Inv X pins σ H s)(h:H p=some (.lst xs)) :
  ∃(its:List Value)(n:Nat),Vals xs its/\s.heap.get? p=some { cls:=.type "list",data:=.seq its.toArray n }/\xs.length<=sizeLine:=by
 obtain ⟨z,its,n,r,e⟩:=I.hok p _ h
 exact ⟨its,n,r,e,z⟩
theorem Inv.lstUpd {pins:List (Addr×Obj)}{σ:St}{H:Hp}{s:Shared}{p:Addr}{xs ys:List V}{its its':List Value}{n n':Nat}{f:Obj->Obj}(I:Inv X pins σ H s)(h:H p=some (.lst xs))
  (ho:s.heap.get? p=some { cls:=.type "list",data:=.seq its.toArray n }) (hf:f { cls:=.type "list",data:=.seq its.toArray n }={ cls:=.type "list",data:=.seq its'.toArray n' }) (r:Vals ys its') (hz:ys.length<=sizeLine) (t:Nat) :
  Inv X pins σ (upd H p (.lst ys)) { s with heap:=s.heap.update p f,toks:=t }:=by
 have e:(s.heap.update p f).get? p=some { cls:=.type "list",data:=.seq its'.toArray n' }:=by
  rw [Ro f ho (by rw [hf] <;> rfl),hf]
 refine I.write (x:=p) (e:=p) (by rw [h];trivial) (.inl rfl) (fun b u hb q=>(Rn _ _ (Pf hb)).trans q) ⟨_,e⟩ ?_
 exact ⟨hz,its',n',r,e⟩
noncomputable def Zfb:V->V->V->Hp->(Hp->Prop)->Prop:=fun o i v H Q=>∃ p xs k j,o=.ref p/\i=.int k/\H p=some (.lst xs)/\Da xs.length k=some j/\Q (upd H p (.lst (xs.set j v)))
theorem Lh:Lv X Zfb:=by
 intro pins s σ H o i v ov iv u Q I ro ri rv h
 obtain ⟨p,xs,k,j,rfl,rfl,hp,hj,q⟩:=h
 cases ro
 obtain ⟨t,rfl⟩:=ri
 obtain ⟨its,n,r,ho,hz⟩:=I.lst hp
 obtain ⟨h1,h2,h3,h4⟩:=Zb4 hj
 have hl:=r.length
 have hn:=G3
 have I':Inv X pins σ (upd H p (.lst (xs.set j v))) { s with heap:=s.heap.update p (Pk (·.setIfInBounds j u)) } :=
  I.lstUpd hp ho (Zm7 its n j u) (r.set rv j) (by rw [Q1];exact hz) s.toks
 by_cases h0:0<=k
 ·have hk:k.toNat=j:=by
   rw [Ug h0 h4] at h1
   exact Ov h1
  exact PySem.W.ki_setAt ho h0 (by omega) (by rw [On,<- hl];exact h4) (by rw [hk];exact ⟨_,I',q⟩)
 ·have hk:(k+(its.toArray.size:Int)).toNat=j:=by
   rw [seqIndex_neg (by omega) h3] at h1
   rw [On,<- hl]
   exact Ov h1
  exact PySem.W.ki_setBack ho (by omega) (by rw [On,<- hl];exact h3) (by omega) (by rw [hk];exact ⟨_,I',q⟩)
theorem Zil (lo hi:Option Int)(n:Nat):(sliceBounds lo hi none n).1=((HT.sIx n 0 lo:Nat):Int)/\(sliceBounds lo hi none n).2.1=((HT.sIx n n hi:Nat):Int)/\(sliceBounds lo hi none n).2.2=1:=by
 refine ⟨?_,?_,rfl⟩
 ·cases lo with
  | none=>simp [sliceBounds,HT.sIx]
  | some i =>
   simp only [sliceBounds,HT.sIx,Option.getD_none,show (1:Int) > 0 by decide,if_true]
   by_cases h:i < 0
   ·simp only [h,if_true] <;> omega
   ·simp only [h,if_false] <;> omega
 ·cases hi with
  | none=>simp [sliceBounds,HT.sIx]
  | some i =>
   simp only [sliceBounds,HT.sIx,Option.getD_none,show (1:Int) > 0 by decide,if_true]
   by_cases h:i < 0
   ·simp only [h,if_true] <;> omega
   ·simp only [h,if_false] <;> omega
theorem Zkl (its:List Value)(lo hi:Option Int):slicePick its.toArray lo hi none=((its.drop (HT.sIx its.length 0 lo)).take (HT.sIx its.length its.length hi - HT.sIx its.length 0 lo)).toArray:=by
 obtain ⟨h1,h2,h3⟩:=Zil lo hi its.toArray.size
 unfold slicePick
 rw [h1,h2,h3]
 simp only [sliceRange_one,pick_run,On] <;> rfl
noncomputable def K9 (K:Og):V->Option Int->Option Int->Hp->VK->Prop:=fun x lo hi H Q=>∃ a xs,x=.ref a/\SqL K H a xs/\∀ p,H p=none->Q (.ref p) (upd H p (.lst (C4 xs lo hi)))
theorem sl_list:SlR X (K9 X.K):=by
 intro pins s σ H x v vl vu lo hi sl Q I rx hs pl pu h
 obtain ⟨a,xs,rfl,hx,q⟩:=h
 cases rx
 obtain ⟨its,r,ht,hz⟩:=I.list hx
 have hlen:=r.length
 refine ⟨"list",_,slot_list_getitem.lookup,ht.isList.typeIs,?_⟩
 refine wpAny_getItem_list_slice ht.isList hs pl pu .none (by simp) ?_ (by rw [On] <;> omega)
 rw [Zkl,<- hlen]
 refine ⟨.ref s.heap.objs.size,_,I.laid (t':=s.toks) (o:=.lst (C4 xs lo hi)) (fun b ob q=>Oq _ q) (Ol _) ?_,rfl,q _ (I.hok.fresh (Ol _))⟩
 exact ⟨Pc (Zcr xs lo hi) hz,_,0,(r.drop (HT.sIx xs.length 0 lo)).take (HT.sIx xs.length xs.length hi - HT.sIx xs.length 0 lo),O0 _ rfl⟩
noncomputable def Ca:V->Bool
 | .non=>true
 | .bl _=>true
 | .int _=>true
 | .str _=>true
 | _=>false
noncomputable def De:V->V->Bool
 | .non,.non=>true
 | .bl a,.bl b=>a == b
 | .bl a,.int b=>(if a then 1 else 0) == b
 | .int a,.bl b=>a == (if b then 1 else 0)
 | .int a,.int b=>a == b
 | .str a,.str b=>a == b
 | _,_=>false
theorem Mn {A:Around}{s:Shared}{y x:V}{u v:Value}(ry:RelV y u)(rx:RelV x v)(fy:Ca y=true)(fx:Ca x=true):Oj A s u v (De y x):=by
 cases y with
 | non =>
  cases ry
  cases x with
  | non=>cases rx;exact Rf _
  | bl b=>cases rx;exact Oj.none_bool b
  | int b=>obtain ⟨t,rfl⟩:=rx;exact Oj.none_int b t
  | str b=>obtain ⟨t,rfl⟩:=rx;exact Oj.none_str b t
  | _=>exact absurd (show false=true from fx) Ot
 | bl a =>
  cases ry
  cases x with
  | non=>cases rx;exact Oj.bool_none a
  | bl b=>cases rx;exact Oj.bool_bool a b
  | int b=>obtain ⟨t,rfl⟩:=rx;exact Oj.bool_int a b t
  | str b=>obtain ⟨t,rfl⟩:=rx;exact Oj.bool_str a b t
  | _=>exact absurd (show false=true from fx) Ot
 | int a =>
  obtain ⟨t',rfl⟩:=ry
  cases x with
  | non=>cases rx;exact Oj.int_none a t'
  | bl b=>cases rx;exact Oj.int_bool a t' b
  | int b=>obtain ⟨t,rfl⟩:=rx;exact Uy a t' b t
  | str b=>obtain ⟨t,rfl⟩:=rx;exact Tl a t' b t
  | _=>exact absurd (show false=true from fx) Ot
 | str a =>
  obtain ⟨t',rfl⟩:=ry
  cases x with
  | non=>cases rx;exact Oj.str_none a t'
  | bl b=>cases rx;exact Oj.str_bool a t' b
  | int b=>obtain ⟨t,rfl⟩:=rx;exact To a t' b t
  | str b=>obtain ⟨t,rfl⟩:=rx;exact Tp a t' b t
  | _=>exact absurd (show false=true from fx) Ot
 | _=>exact absurd (show false=true from fy) Ot
noncomputable def Cn (x:V)(u:Value):Bool:=match u with
 | .none=>De .non x
 | .bool b=>De (.bl b) x
 | .int i _=>De (.int i) x
 | .str z _=>De (.str z) x
 | _=>false
theorem Zbi {x y:V}{u:Value}(r:RelV y u)(f:Ca y=true):Cn x u=De y x:=by
 cases y with
 | non=>cases r;rfl
 | bl b=>cases r;rfl
 | int i=>obtain ⟨t,rfl⟩:=r;rfl
 | str z=>obtain ⟨t,rfl⟩:=r;rfl
 | _=>exact absurd (show false=true from f) Ot
theorem Jc {x:V}:∀{xs:List V}{us:List Value},Vals xs us->xs.all Ca=true->us.any (Cn x)=xs.any fun y=>De y x
 | _,_,.nil,_=>rfl
 | y::xs,u::us,.cons r t,f=>by
  rw [Rg,Pa] at f
  rw [Sn,Sn,Zbi r f.1,Jc t f.2]
theorem Io {A:Around}{s:Shared}{x:V}{v:Value}(rx:RelV x v)(fx:Ca x=true):∀{xs:List V}{us:List Value},Vals xs us->xs.all Ca=true->∀ u∈us,Oj A s u v (Cn x u)
 | _,_,.nil,_=>fun u hu=>by cases hu
 | y::xs,u::us,.cons r t,f=>fun u' hu=>by
  rw [Rg,Pa] at f
  rcases Ow.mp hu with rfl | hu
  ·rw [Zbi r f.1];exact Mn r rx f.1 fx
  ·exact Io rx fx t f.2 u' hu
noncomputable def Cv (x:V)(xs:List V):Bool:=xs.any fun y=>De y x
noncomputable def rIn (K:Og)(neg:Bool):R2:=fun x y H Q=>∃ p xs,y=.ref p/\(SqL K H p xs\/SqT K H p xs)/\Ca x=true/\xs.all Ca=true/\Q (.bl (if neg then !Cv x xs else Cv x xs)) H
theorem op_in_seq:OpR X (compareOp .In) (rIn X.K false):=by
 intro pins s σ H x y v u Q I rx ry h
 obtain ⟨p,xs,rfl,hq,fx,fs,q⟩:=h
 cases ry
 rcases hq with hq | hq
 ·obtain ⟨its,r,pl,hz⟩:=I.list hq
  refine SeqAt.in_listAt (Cn x) pl.isList (fun w hw=>Io rx fx r fs w (by simpa using hw)) ⟨.bl _,H,I,rfl,?_⟩
  rw [show its.toArray.any (Cn x)=its.any (Cn x) by simp,Jc r fs]
  exact q
 ·obtain ⟨its,r,pl,hz⟩:=I.tuple hq
  refine SeqAt.in_tupleAt (Cn x) pl (fun w hw=>Io rx fx r fs w (by simpa using hw)) ⟨.bl _,H,I,rfl,?_⟩
  rw [show its.toArray.any (Cn x)=its.any (Cn x) by simp,Jc r fs]
  exact q
theorem op_notIn_seq:OpR X (compareOp .NotIn) (rIn X.K true):=by
 intro pins s σ H x y v u Q I rx ry h
 obtain ⟨p,xs,rfl,hq,fx,fs,q⟩:=h
 cases ry
 rcases hq with hq | hq
 ·obtain ⟨its,r,pl,hz⟩:=I.list hq
  refine SeqAt.notIn_listAt (Cn x) pl.isList (fun w hw=>Io rx fx r fs w (by simpa using hw)) ⟨.bl _,H,I,rfl,?_⟩
  rw [show its.toArray.any (Cn x)=its.any (Cn x) by simp,Jc r fs]
  exact q
 ·obtain ⟨its,r,pl,hz⟩:=I.tuple hq
  refine SeqAt.notIn_tupleAt (Cn x) pl (fun w hw=>Io rx fx r fs w (by simpa using hw)) ⟨.bl _,H,I,rfl,?_⟩
  rw [show its.toArray.any (Cn x)=its.any (Cn x) by simp,Jc r fs]
  exact q
theorem Zo4:Bz X (.type "list") (fun xs H Q=>∃ p ys,xs=[.ref p]/\(SqL X.K H p ys\/SqT X.K H p ys)/\∀ l,H l=none->Q (.ref l) (upd H l (.lst ys))):=by
 intro pins s σ H xs us Q I r h
 obtain ⟨p,ys,rfl,hq,q⟩:=h
 obtain ⟨u,rfl,rx⟩:=Je r
 cases rx
 have fin:∀(its:List Value),Vals ys its->ys.length<=sizeLine->∀(h':Heap)(c':Nat),(∀ b o',s.heap.get? b=some o'->h'.get? b=some o') ->
   h'.get? s.heap.objs.size=some { cls:=.type "list",dict:=none,data:=.seq its.toArray c',slots:=#[] }->EP X pins σ Q (.ref s.heap.objs.size) { s with heap:=h' }:=fun its r' hz h' c' kp e =>
  ⟨.ref s.heap.objs.size,_,I.laid (t':=s.toks) kp (Ol _) (show ObjOk X.prog X.w _ h' _ (.lst ys) from ⟨hz,its,c',r',e⟩),rfl,q _ (I.hok.fresh (Ol _))⟩
 rcases hq with hq | hq
 ·obtain ⟨its,r',pl,hz⟩:=I.list hq
  have hlen:=r'.length
  obtain ⟨o,ho,hc,n,hd⟩:=pl.isList
  exact call_list_seq p (.inl rfl) ho hc hd (fun h' c' kp e=>fin its r' hz h' c' kp e) (by simp only [On] <;> omega)
 ·obtain ⟨its,r',pl,hz⟩:=I.tuple hq
  have hlen:=r'.length
  obtain ⟨o,ho,hc,n,hd⟩:=pl
  exact call_list_seq p (.inr rfl) ho hc hd (fun h' c' kp e=>fin its r' hz h' c' kp e) (by simp only [On] <;> omega)
theorem Zpx:Bz X (.type "tuple") (fun xs H Q=>∃ p ys,xs=[.ref p]/\((SqL X.K H p ys/\∀ l,H l=none->Q (.ref l) (upd H l (.tup ys)))\/(SqT X.K H p ys/\Q (.ref p) H))):=by
 intro pins s σ H xs us Q I r h
 obtain ⟨p,ys,rfl,h⟩:=h
 obtain ⟨u,rfl,rx⟩:=Je r
 cases rx
 rcases h with ⟨hq,q⟩ | ⟨hq,q⟩
 ·obtain ⟨its,r',pl,hz⟩:=I.list hq
  have hlen:=r'.length
  refine call_tuple_list pl.isList (fun h' kp=>?_) (by simp only [On] <;> omega)
  have I1:Inv X pins σ H { s with heap:=h' }:=I.kept (t':=s.toks) kp
  have I2:Inv X pins σ (upd H h'.objs.size (.tup ys)) { s with heap:=h'.push { cls:=.type "tuple",data:=.seq its.toArray } } :=
   I1.laid (t':=s.toks) (fun b o e=>Oq _ e) (Ol _) (show ObjOk X.prog X.w _ _ _ (.tup ys) from ⟨hz,its,r',IsTup.new _ _⟩)
  exact ⟨.ref h'.objs.size,_,I2,rfl,q _ (I1.hok.fresh (Ol _))⟩
 ·obtain ⟨its,r',pl,hz⟩:=I.tuple hq
  exact call_tuple_same pl ⟨.ref p,H,I,rfl,q⟩
noncomputable def G5 (K:Og)(T:String)(x:V)(H:Hp):Prop:=match x with
 | .str _=>T = "str"
 | .int _=>T = "int"
 | .ref p=>(T = "list" /\ ∃ xs,SqL K H p xs)\/(T = "tuple" /\ ∃ o,K.lookup p=some o/\o.cls=.type "tuple" /\ o.dict=none) \/
   (T = "dict" /\ ((∃ kvs,H p=some (.dK kvs))\/∃ kvs,H p=some (.dT kvs)))\/(T = "set" /\ ∃ S n,H p=some (.set S n))
 | _=>False
theorem Zdd {pins:List (Addr×Obj)}{σ:St}{H:Hp}{s:Shared}{T:String}{x:V}{v:Value}(I:Inv X pins σ H s)(r:RelV x v)(ty:G5 X.K T x H) :
  s.TypeIs v T/\∀ a,v=.ref a->∃ ob,s.heap.get? a=some ob/\ob.dict=none:=by
 cases x with
 | str z =>
  obtain ⟨t,rfl⟩:=r
  cases (show T = "str" from ty)
  exact ⟨typeIs_str s z t,fun _ e=>nomatch e⟩
 | int i =>
  obtain ⟨t,rfl⟩:=r
  cases (show T = "int" from ty)
  exact ⟨Sv s i t,fun _ e=>nomatch e⟩
 | ref p =>
  cases r
  rcases ty with ⟨rfl,xs,hq⟩ | ⟨rfl,o,hk,hc,hd⟩ | ⟨rfl,hk⟩ | ⟨rfl,S,n,hk⟩
  ·obtain ⟨its,_,pl,_⟩:=I.list hq
   refine ⟨pl.isList.typeIs,fun a e=>?_⟩
   cases e
   obtain ⟨o,n,e,c,hd,_⟩:=pl
   exact ⟨o,e,hd⟩
  ·refine ⟨⟨o,I.kIn p o hk,hc⟩,fun a e=>?_⟩
   cases e
   exact ⟨o,I.kIn _ o hk,hd⟩
  ·have z:∃ o,s.heap.get? p=some o/\o.ExactDict:=by
    rcases hk with ⟨kvs,hk⟩ | ⟨kvs,hk⟩
    ·obtain ⟨_,_,_,_,o,_,_,e,ex,_⟩:=I.hok p _ hk
     exact ⟨o,e,ex⟩
    ·obtain ⟨_,_,_,_,o,_,_,e,ex,_⟩:=I.hok p _ hk
     exact ⟨o,e,ex⟩
   obtain ⟨o,e,ex⟩:=z
   refine ⟨⟨o,e,ex.1⟩,fun a e2=>?_⟩
   cases e2
   exact ⟨o,e,ex.2.1⟩
  ·obtain ⟨o,_,_,_,e,ex,_⟩:=I.hok p _ hk
   refine ⟨⟨o,e,ex.1⟩,fun a e2=>?_⟩
   cases e2
   exact ⟨o,e,ex.2.1⟩
 | _=>exact Py ty
noncomputable def Hz (K:Og)(T:String)(r:V->List V->Hp->VK->Prop)(to:TE):TE:=fun σ H Q=>to σ H fun x H1=>G5 K T x H1/\r x [] H1 Q
noncomputable def tBM (K:Og)(T:String)(r:V->List V->Hp->VK->Prop)(to:TE)(t:TA):TE:=fun σ H Q=>to σ H fun x H1=>G5 K T x H1/\t σ H1 fun xs H2=>r x xs H2 Q
variable {o e:Expr}{es:List Expr}{to:TE}{t:TA}{name:Str}{apos cpos:Pos}{T id:String}{r:V->List V->Hp->VK->Prop}
theorem Znw (pa:PlainAttrs T)(slot:Slot T name id)(hty:typeOf (.builtin id)=pure (.type "method_descriptor"))(hm:Fe X id r)(ho:PE X o to)
  (hbase:attributeBase o name X.env (eval o X.env)=eval o X.env:=by rfl) (hline:(apos.endLine == cpos.line)=true:=by rfl):PE X (.Call (.Attribute o name apos) [] [] cpos) (Hz X.K T r to):=by
 intro pins s σ H Q I h
 refine wpAny_Call_method0_late hbase hline (Ag (ho pins s σ H _ I h) fun v s1 zq=>?_)
 obtain ⟨x,H1,I1,r1,ty,q1⟩:=zq
 obtain ⟨h1,h2⟩:=Zdd I1 r1 ty
 exact ⟨T,id,pa,slot,hty,h1,h2,Calls.callWith_builtin rfl (PySem.evalArgs_none (hm pins s1 σ H1 x [] v [] Q I1 r1 .nil q1))⟩
theorem Zl1 (pa:PlainAttrs T)(slot:Slot T name id)(hty:typeOf (.builtin id)=pure (.type "method_descriptor"))(hm:Fe X id r)(ho:PE X o to)(ha:PA X (e::es) t)
  (hbase:attributeBase o name X.env (eval o X.env)=eval o X.env:=by rfl)
  (hfew:((backTo cpos (starEach (e::es) X.env)).all (fun x=>!x.1) && (backToKw cpos (keywordEach [] X.env)).all (fun x=>x.1.isSome)
   && decide ((e::es).length+([]:List Keyword).length+(if ([]:List Keyword).isEmpty then 0 else 1) < 30))=true:=by rfl)
  (hline:(apos.endLine == cpos.line)=true:=by rfl) (hs:starEach (e::es) X.env=(false,eval e X.env)::starEach es X.env:=by rfl) (hplain:(backTo cpos (starEach es X.env)).any (·.1)=false:=by rfl) :
  PE X (.Call (.Attribute o name apos) (e::es) [] cpos) (tBM X.K T r to t):=by
 intro pins s σ H Q I h
 refine wpAny_Call_method_late hbase hfew hline rfl (Ag (ho pins s σ H _ I h) fun v s1 zq=>?_)
 obtain ⟨x,H1,I1,r1,ty,q1⟩:=zq
 obtain ⟨h1,h2⟩:=Zdd I1 r1 ty
 refine ⟨T,id,pa,slot,hty,h1,h2,?_⟩
 have hA:=ha cpos pins s1 σ H1 _ I1 q1
 rw [hs] at hA ⊢
 refine Calls.callWith_builtin (by show (false || (backTo cpos (starEach es X.env)).any (·.1))=false;rw [hplain] <;> rfl) (Calls.evalArgs_plain ?_)
 exact Ag hA fun us s2 ⟨vs,H2,I2,r2,q2⟩=>hm pins s2 σ H2 x vs v us Q I2 r1 r2 q2
end
noncomputable def MtM (X:Cx)(id:String)(r:V->List V->Hp->VK->Prop):Prop :=
 ∀(pins:List (Addr×Obj))(s:Shared)(σ:St)(H:Hp)(x:V)(xs:List V)(v:Value)(us:List Value)(Q:VK),Inv X pins σ H s->RelV x v->Vals xs us->r x xs H Q ->
  wpAny (model X.prog X.w) X.A (call (.builtin id) (v::us)) (EP X pins σ Q) X.xe s
theorem Vals.one:∀{x:V}{us:List Value},Vals [x] us->∃ u,us=[u]/\RelV x u
 := fun h=>by
 cases h with
 | cons r t =>
 cases t
 exact ⟨_,rfl,r⟩
theorem Vals.two:∀{x y:V}{us:List Value},Vals [x,y] us->∃ u v,us=[u,v]/\RelV x u/\RelV y v
 := fun h=>by
 cases h with
 | cons r t =>
 cases t with
 | cons q z =>
 cases z
 exact ⟨_,_,rfl,r,q⟩
theorem Vals.zero:∀{us:List Value},Vals [] us->us=[]
 | _,.nil=>rfl
theorem Vals.dropLast {xs:List V}{us:List Value}(h:Vals xs us):Vals xs.dropLast us.dropLast:=by
 induction h with
 | nil=>exact .nil
 | cons r t ih =>
  cases t with
  | nil=>exact .nil
  | cons q t'=>exact .cons r ih
theorem Vals.rep {xs:List V}{us:List Value}(h:Vals xs us):∀ k:Nat,Vals (Oo k xs).flatten (Oo k us).flatten
 | 0=>.nil
 | k+1=>by
  rw [Qe,Qe,Sh,Sh]
  exact Vals.append h (Vals.rep h k)
theorem Zg7 {α:Type}(l:List α):l.eraseIdx (l.length - 1)=l.dropLast:=by
 induction l with
 | nil=>rfl
 | cons a r ih =>
  cases r with
  | nil=>rfl
  | cons b r =>
   have e:(a::b::r).length - 1=((b::r).length - 1)+1:=by
    have h1:(a::b::r).length=r.length+2:=rfl
    have h2:(b::r).length=r.length+1:=rfl
    omega
   rw [e,List.eraseIdx_cons_succ,ih]
   all_goals rfl
theorem M9 (its:List Value):∀(k:Nat)(acc:List Value),
  Sw (fun x1 x2=>x1++x2) acc.toArray (Oo k its.toArray)=(acc++(Oo k its).flatten).toArray
 | 0,acc=>by simp
 | k+1,acc=>by
  have e:acc.toArray++its.toArray=(acc++its).toArray:=by simp
  have e2:(acc++its)++(Oo k its).flatten=acc++(Oo (k+1) its).flatten:=by
   rw [Qe,Sh,Pp]
  rw [<- e2,<- M9 its k (acc++its),<- e,Qe,List.foldl_cons]
section
variable {X:Cx}{pins:List (Addr×Obj)}{σ:St}{H:Hp}{s:Shared}{l b:Addr}{xs ys zs:List V}
theorem Inv.lset {its its':List Value}{n:Nat}{f:Array Value->Array Value}{t':Nat}(I:Inv X pins σ H s)(hH:H l=some (.lst xs))
  (e:s.heap.get? l=some { cls:=.type "list",data:=.seq its.toArray n }) (hf:f its.toArray=its'.toArray) (hv:Vals ys its') (hz:ys.length<=sizeLine) :
  Inv X pins σ (upd H l (.lst ys)) { s with heap:=s.heap.update l (Pk f),toks:=t' }:=by
 have q:=PySem.IsL.update e f
 rw [hf] at q
 refine I.write (x:=l) (e:=l) (by rw [hH];exact trivial) (.inl rfl) (fun b' u hb hu=>(Rn s.heap (Pk f) (Pf hb)).trans hu) ⟨_,q⟩ ?_
 exact ⟨hz,its',_,hv,q⟩
theorem Inv.lnew {its:List Value}{t':Nat}(I:Inv X pins σ H s)(hv:Vals ys its)(hz:ys.length<=sizeLine) :
  Inv X pins σ (upd H s.heap.objs.size (.lst ys)) { s with heap:=s.heap.push { cls:=.type "list",data:=.seq its.toArray },toks:=t' } :=
 I.laid (fun _ _ q=>Oq _ q) (Ol _) ⟨hz,its,0,hv,O0 _ rfl⟩
theorem Inv.fresh (I:Inv X pins σ H s):H s.heap.objs.size=none:=I.hok.fresh (Ol _)
theorem Inv.lstM (I:Inv X pins σ H s)(hH:H l=some (.lst xs)):xs.length<=sizeLine/\∃(its:List Value)(n:Nat),Vals xs its/\xs.length=its.length/\s.heap.get? l=some { cls:=.type "list",data:=.seq its.toArray n }:=by
 obtain ⟨z,its,n,r,e⟩:=I.hok l _ hH
 exact ⟨z,its,n,r,r.length,e⟩
theorem Za5 {n:Nat}(h:n<=sizeLine):Te n=false:=by
 unfold Te
 exact decide_eq_false (by omega)
end
section
variable {X:Cx}
noncomputable def Zcy:V->List V->Hp->VK->Prop:=fun x vs H Q=>∃ l xs y,x=.ref l/\vs=[y]/\H l=some (.lst xs)/\xs.length < sizeLine/\Q .non (upd H l (.lst (xs++[y])))
theorem El:MtM X "list.append" Zcy:=by
 intro pins s σ H x vs v us Q I rx rv h
 obtain ⟨l,xs,y,rfl,rfl,hH,hz,q⟩:=h
 cases rx
 obtain ⟨u,rfl,ru⟩:=rv.one
 obtain ⟨z,its,n,r,hl,e⟩:=I.lstM hH
 refine Qh F.slot_list_append ⟨_,e,rfl⟩ F.entry_list_append (F.args_list_append_2 _ _) (PySem.list_append l its.toArray n u (by rw [On];omega)) ⟨e,?_⟩
 refine ⟨.non,_,I.lset (its':=its++[u]) hH e (by simp) (r.append (.cons ru .nil)) ?_,rfl,q⟩
 rw [Ou,Pz]
 omega
noncomputable def Zcs:V->List V->Hp->VK->Prop:=fun x vs H Q=>∃ l b xs zs,x=.ref l/\vs=[.ref b]/\H l=some (.lst xs)/\H b=some (.lst zs)/\xs.length+zs.length<=sizeLine/\Q .non (upd H l (.lst (xs++zs)))
theorem Zoj:MtM X "list.extend" Zcs:=by
 intro pins s σ H x vs v us Q I rx rv h
 obtain ⟨l,b,xs,zs,rfl,rfl,hH,hB,hz,q⟩:=h
 cases rx
 obtain ⟨u,rfl,ru⟩:=rv.one
 cases ru
 obtain ⟨z,its,n,r,hl,e⟩:=I.lstM hH
 obtain ⟨z2,its2,n2,r2,hl2,e2⟩:=I.lstM hB
 have hsz:its.toArray.size+its2.toArray.size<=sizeLine:=by rw [On,On];omega
 have hlong:¬ (!its.toArray.isEmpty && Te (its.toArray.size+its2.toArray.size))=true:=by
  rw [Za5 hsz,T7]
  exact Ot
 refine Qh F.slot_list_extend ⟨_,e,rfl⟩ F.entry_list_extend (F.args_list_extend_2 _ _)
  (AutoSeq1.list_extend_list_list_0 l its.toArray n b its2.toArray n2 hlong (by rw [On];omega) (by omega)) ⟨e,e2,?_⟩
 refine ⟨.non,_,I.lset (its':=its++its2) hH e (by simp) (r.append r2) ?_,rfl,q⟩
 rw [Ou]
 omega
noncomputable def N7:V->List V->Hp->VK->Prop:=fun x vs H Q=>∃ l xs y,x=.ref l/\vs=[]/\H l=some (.lst xs)/\xs[xs.length - 1]?=some y/\Q y (upd H l (.lst xs.dropLast))
theorem Gk:MtM X "list.pop" N7:=by
 intro pins s σ H x vs v us Q I rx rv h
 obtain ⟨l,xs,y,rfl,rfl,hH,hy,q⟩:=h
 cases rx
 have hus:=rv.zero
 subst hus
 obtain ⟨z,its,n,r,hl,e⟩:=I.lstM hH
 obtain ⟨u,hu,ru⟩:=r.get hy
 have hy':its.toArray[its.toArray.size - 1]?=some u:=by
  show its.toArray[its.length - 1]?=some u
  rw [<- Array.getElem?_toList,<- hl]
  exact hu
 refine Qh F.slot_list_pop ⟨_,e,rfl⟩ F.entry_list_pop (F.args_list_pop_1 _) (MeetsSeq.list_pop_last l its.toArray n u hy' (by rw [On];omega)) ⟨e,?_⟩
 refine ⟨y,_,I.lset (its':=its.dropLast) hH e ?_ r.dropLast ?_,ru,q⟩
 ·show its.toArray.eraseIdxIfInBounds (its.toArray.size - 1)=its.dropLast.toArray
  rw [On,List.eraseIdxIfInBounds_toArray,Zg7]
 ·rw [List.length_dropLast]
  omega
noncomputable def rCat:R2:=fun x y H Q=>∃ l b xs zs,x=.ref l/\y=.ref b/\H l=some (.lst xs)/\H b=some (.lst zs)/\xs.length+zs.length<=sizeLine/\∀ p,H p=none->Q (.ref p) (upd H p (.lst (xs++zs)))
theorem op_cat:OpR X (binaryOp .Add) rCat:=by
 intro pins s σ H x y v u Q I rx ry h
 obtain ⟨l,b,xs,zs,rfl,rfl,hH,hB,hz,q⟩:=h
 cases rx
 cases ry
 obtain ⟨z,its,n,r,hl,e⟩:=I.lstM hH
 obtain ⟨z2,its2,n2,r2,hl2,e2⟩:=I.lstM hB
 refine PySem.P.add_list e e2 ?_ (by rw [On,On];omega)
 have ea:its.toArray++its2.toArray=(its++its2).toArray:=by simp
 rw [ea]
 exact ⟨.ref _,_,I.lnew (t':=s.toks) (r.append r2) (by rw [Ou];omega),rfl,q _ I.fresh⟩
noncomputable def rRep:R2:=fun x y H Q=>∃ l k xs,x=.ref l/\y=.int k/\H l=some (.lst xs)/\-(2 ^ 63)<=k/\k < 2 ^ 63/\xs.length * k.toNat<=sizeLine /\
 ∀ p,H p=none->Q (.ref p) (upd H p (.lst (Oo k.toNat xs).flatten))
theorem J8 {α:Type}(xs:List α)(k:Nat):(Oo k xs).flatten.length=k * xs.length:=by
 induction k with
 | zero=>simp
 | succ k ih=>rw [Qe,Sh,Ou,ih,Nat.succ_mul,Nat.add_comm]
theorem Zpc:OpR X (binaryOp .Mult) rRep:=by
 intro pins s σ H x y v u Q I rx ry h
 obtain ⟨l,k,xs,rfl,rfl,hH,h1,h2,hz,q⟩:=h
 cases rx
 obtain ⟨t,rfl⟩:=ry
 obtain ⟨z,its,n,r,hl,e⟩:=I.lstM hH
 have hlen:its.toArray.size * k.toNat<=sizeLine:=by rw [On,<- hl];exact hz
 have hcap:¬ its.toArray.size * k.toNat > (2 ^ 63 - 1) / 8:=by
  have:(sizeLine:Nat)<=(2 ^ 63 - 1) / 8:=by decide
  omega
 have hfit:¬ (!Builtin.List.listFitsIndex k)=true:=by
  rw [fitsIndex_both h1 h2]
  exact Ot
 have hlong:¬ Te (its.toArray.size * k.toNat)=true:=by
  rw [Za5 hlen]
  exact Ot
 have hnew:Sw (fun x1 x2=>x1++x2) #[] (Oo (if its.toArray.isEmpty=true then 0 else k.toNat) its.toArray)=(Oo k.toNat its).flatten.toArray:=by
  have f0:∀ m:Nat,Sw (fun x1 x2=>x1++x2) #[] (Oo m its.toArray)=(Oo m its).flatten.toArray:=fun m=>by
   have:=M9 its m []
   rw [Q2] at this
   exact this
  rw [f0]
  cases its with
  | nil=>simp
  | cons a r'=>rw [if_neg (by simp)]
 refine wpAny_binaryOp_repeat_ref (T := "list") (U := "int") (by decide) ⟨_,e,rfl⟩ (fun s'=>Sv s' k t) noFill_list_mul F.fills_int_mul F.slot_int_rmul repeat_list F.slot_int_index.lookup
  (Qh F.slot_int_rmul (Sv s k t) F.entry_int_rmul (F.args_int_rmul_2 _ _) (int___rmul___int_list k t l its.toArray n)
   ⟨e,rfl,⟨_,e,rfl⟩,Qh F.slot_list_mul ⟨_,e,rfl⟩ F.entry_list_mul (F.args_list_mul_2 _ _) (AutoListH.list___mul___list_int_3 l its.toArray n k t hfit hcap hlong) ⟨e,?_⟩⟩)
 rw [hnew]
 exact ⟨.ref _,_,I.lnew (t':=s.toks) (r.rep k.toNat) (by rw [J8,Nat.mul_comm];exact hz),rfl,q _ I.fresh⟩
end
section
variable {prog:Program}{w:World}{A:Around}{E:Value->Shared->Prop}{s:Shared}
end
section
variable {X:Cx}
end
end L2
namespace Att
open PySem PySem.W PySem.Calls PyProof.Rows
theorem Zn8 {P:Params}{h:Heap}:∀(ns:List Int)(vs:List Value),WellAll P h vs (ns.map WData.int)->IntsAre vs ns:=by
 intro ns
 induction ns with
 | nil =>
  intro vs w
  rw [Ud] at w
  cases w
  exact .nil
 | cons n ns ih =>
  intro vs w
  rw [O9] at w
  cases w with
  | cons a b =>
   cases a
   exact .cons _ _ (ih _ b)
theorem Zos {l:OpenLaw}{n:Nat}(hn:l.most=some n){P:Params}{h:Heap}{args:List WData}{vals:List Value}
  (hpre:l.row.toRowW.claim.pre args=true) (hwl:WellAll P h vals args) :
  ∃ a vs ns,vals=[Value.ref a]/\args=[WData.list (ns.map WData.int)]/\h.get? a=some { cls:=.type "list",data:=.seq vs.toArray }/\IntsAre vs ns/\ns.length<=n:=by
 have hsh:WShape.hasAll [] args [.list .int]=true:=(pre_splitW hpre).1
 have hc:l.pre.holds [] { args:=args }=true:=(pre_splitW hpre).2
 obtain ⟨d,r,rfl,h1,h2⟩:=hasAllW_cons hsh
 obtain rfl:=hasAllW_nil h2
 obtain ⟨xs,rfl,h3⟩:=hasW_list h1
 obtain ⟨ns,rfl⟩:=items_int h3
 have hlen:ns.length<=n:=by
  unfold OpenLaw.pre at hc
  have h4:(WTm.not (.lt (.lit (.int (n:Int))) (.len (.arg 0)))).holds [] { args:=[.list (ns.map .int)] }=true:=by
   have h4:=(holds_andW hc).1
   rw [hn] at h4
   exact h4
  have h5:=condW_of h4 (w_not (w_lt w_lit (w_len_list (w_arg rfl))))
  rw [O1] at h5
  refine Nat.le_of_not_lt fun q=>?_
  have q':(n:Int) < ((ns.length:Nat):Int):=by omega
  first
   | (rw [decide_eq_true q'] at h5;exact absurd h5 (by decide))
   | (simp at h5;omega)
 cases hwl with
 | cons w1 w2 =>
  cases w2
  cases w1 with
  | list ho hall=>exact ⟨_,_,ns,rfl,rfl,ho,Zn8 ns _ hall,hlen⟩
theorem Znp (l:OpenLaw)(args:List WData):l.row.toRowW.claim.post args (.bool true) args=true :=
 postW_of (r:=l.row.toRowW) (X:=(true == true))
  (show WShape.has [] (.bool true) .bool=true by first | rfl | decide | simp [WShape.has,WShape.arms,WShape.armsAll])
  (show (WTm.eq .res (.lit (.bool true))).value [] { args:=args,res:=some (.bool true),after:=args }=some (.bool (true == true)) from w_eq_bool (w_res rfl) w_lit) rfl
theorem attach_call {l:OpenLaw}{n:Nat}{q:Program}{loose:List Str}{XP:(Str->Option Value)->Heap->Prop}{YP:World->Heap->Prop}{d:DefRec}
  (hn:l.most=some n) (hdf:d.params.defaults=[])
  (call:∀(w:World)(s₀ s₁:Shared)(mg mb:Str->Option Value)(fa:Addr)(o:Obj)(pm cd doc:Value)(a:Addr)(vs:List Value)(ns:List Int),
   Ground q loose [] XP w s₀ mg mb s₁.heap->YP w s₁.heap ->
   s₁.heap.get? fa=some o->o.data=.func (docDef d.name d.params d.body d.scope pm cd doc)->s₁.heap.CodeRec cd d.name->mg d.name=some (.ref fa) ->
   s₁.heap.get? a=some { cls:=.type "list",data:=.seq vs.toArray }->IntsAre vs ns->ns.length<=n->s₁.gens=#[] ->
   codeAny (model l.prog w) callerA (.call (.ref fa) ⟨[.ref a],[]⟩) (fun r s'=>r=.ok (.ret (.bool true))/\OldK s₁.heap s'.heap/\s'.os=s₁.os/\AllBare s'.gens) s₁) :
  WalkO q loose XP YP l.row.toRowW d [] (fun f vs=>PySem.call f vs):=by
 intro w s₀ s₁ mg mb G Y fa o pm cd doc dV kV ho hd hcd hD hmg hg args vals as hpre hlay hrd hwl hlo
 obtain rfl:dV=.none:=Dflts.none hD hdf
 obtain rfl:kV=.none:=Dflts.noKw hD
 obtain ⟨a,vs,ns,rfl,rfl,hobj,hints,hlen⟩:=Zos hn hpre hwl
 refine enter_call (So (call w s₀ s₁ mg mb fa o pm cd doc a vs ns G Y ho (fd_plain hd) hcd hmg hobj hints hlen hg) fun r s' hq=>?_)
 obtain ⟨rfl,h2,h3,h4⟩:=hq
 exact ⟨.inl ⟨.bool true,.bool true,[],rfl,fun _=>rfl,.bool true,Znp l _,fun _=>⟨List.Pairwise.nil,fun _ hm=>(nomatch hm)⟩⟩,h2,h3,h4⟩
section
variable {prog:Program}{w:World}{A:Around}{E:Value->Shared->Prop}{s:Shared}{K:Frag}
end
end Att
namespace L2
open PySem PySem.Spec PyProof.Rows
theorem Zew:∀{vs:List Value}{ns:List Int},IntsAre vs ns->Vals (ns.map V.int) vs
 | _,_,.nil=>.nil
 | _,_,.cons n t h=>.cons ⟨t,rfl⟩ (Zew h)
noncomputable def Nr (H:Hp):Prop:=∀ b,H b=none\/∃ o xs,H b=some (.frz o (.lst xs))
theorem Zpt {P:Program}{w:World}{K:Og}{mg mb:Str->Option Value}{CX:Cg}{k:Nat}{fa a:Addr}{fd:FuncData}{x:Str}{sp:Sp}{s₁:Shared}{vs:List Value}{ns:List Int}
  (KX:K.In s₁.heap) (hns:s₁.heap.Ns mainGlobals mg) (hb:s₁.heap.Ns builtinsNs mb) (hbb:∀ x:Str,x ≠ "__name__" -> mb x=bootBuiltins x) (hlim:s₁.heap.NoLimit) (hg:s₁.gens=#[])
  (ha:s₁.heap.get? a=some { cls:=.type "list",data:=.seq vs.toArray }) (hi:IntsAre vs ns) (hl:ns.length<=sizeLine) (hr:Room k callerA)
  (F:∀ base:Heap,K.In base->base.Ns mainGlobals mg->Ar P w K mg base CX k fa fd [x] sp) (hbind:∀(s:Shared)(u:Value),BindsTo s fd ⟨[u],[]⟩ [(x,u)])
  (hsp:∀ H:Hp,Nr H->SqL K H a (ns.map V.int)->sp [.ref a] H (fun v _=>v=.bl true) fun _ _ _=>False)
  (hCX:∀ H e s',CX [] H s₁ (fun _ _ _=>False) e s'->False) :
  codeAny (model P w) callerA (.call (.ref fa) ⟨[.ref a],[]⟩) (fun r s'=>r=.ok (.ret (.bool true))/\OldK s₁.heap s'.heap/\s'.os=s₁.os/\AllBare s'.gens) s₁:=by
 have rv:=Zew hi
 have lenV:=hi.length
 have core:∀ H:Hp,Nr H->SqL K H a (ns.map V.int)->HOk P w H s₁.heap->(∀ b,H b≠none->b=a)->(H a≠none->K.lookup a=none) ->
   codeAny (model P w) callerA (.call (.ref fa) ⟨[.ref a],[]⟩) (fun r s'=>r=.ok (.ret (.bool true))/\OldK s₁.heap s'.heap/\s'.os=s₁.os/\AllBare s'.gens) s₁:=by
  intro H hO hS hok hA hK
  have base_of:∀{b:Addr}{o:Obj},s₁.heap.get? b=some o->H b=none->(Ej s₁.heap H).get? b=some o:=fun e n=>Zpd e n
  have noA:∀{b:Addr}{o:Obj}{es:Array DictEntry}{ep:Nat},s₁.heap.get? b=some o->o.data=.dict es ep->H b=none:=fun {b o es ep} e d=>by
   cases q:H b with
   | none=>rfl
   | some u =>
    have e':b=a:=hA b (by rw [q];simp)
    subst e'
    rw [ha] at e;cases e
    have d':Data.seq vs.toArray _=Data.dict es ep:=d
    cases d'
  have nsK:∀{b:Addr}{m:Str->Option Value},s₁.heap.Ns b m->(Ej s₁.heap H).Ns b m:=fun {b m} ⟨o,es,ep,e,d,r⟩=>⟨o,es,ep,base_of e (noA e d),d,r⟩
  have hKb:K.In (Ej s₁.heap H):=fun b o e=>base_of (KX b o e) (by
   cases q:H b with
   | none=>rfl
   | some u =>
    have e':b=a:=hA b (by rw [q];simp)
    subst e'
    rw [hK (by rw [q];simp)] at e;cases e)
  have hM:Mod K mg (Ej s₁.heap H):=⟨hKb,nsK hns,⟨mb,nsK hb,hbb⟩,let ⟨mc,h1,h2⟩:=hlim;⟨mc,nsK h1,h2⟩⟩
  have e0:Env0 P w K mg (Ej s₁.heap H) callerA [] s₁ H:=⟨rfl,hM,fun b o e=>Zn1 e,Nat.le_of_eq (Znz _ _),trivial,fun b hb=>absurd (show b∈([]:List Addr) from hb) (by simp),hok,.of_eq hg⟩
  refine So ((F _ hKb (nsK hns)).run callerA [] s₁ H ⟨[.ref a],[]⟩ [.ref a] [.ref a] _ _ hr e0 (hbind s₁ (.ref a)) (.cons rfl .nil) (hsp H hO hS)) fun r s' h=>?_
  cases r with
  | error e=>exact (hCX H e s' h).elim
  | ok fl =>
   cases fl with
   | next=>exact Py h
   | brk=>exact Py h
   | cont=>exact Py h
   | ret u =>
    obtain ⟨v,H',os,bare,un,hok',r',q⟩:=h
    have q':v=.bl true:=q
    subst q'
    obtain rfl:u=Value.bool true:=r'
    refine ⟨rfl,OldK.of_keep fun b o e=>?_,os,bare⟩
    cases q:H b with
    | none=>exact un.keep b o e q (by intro z;exact absurd (show b∈([]:List Addr) from z) (by simp)) (by simp)
    | some u =>
     rcases hO b with z | ⟨ob,xs,z⟩
     ·rw [q] at z;cases z
     ·have z2:=un.frzs b ob _ z
      obtain ⟨e1,_⟩:=hok b _ z
      obtain ⟨e2,_⟩:=hok' b _ z2
      rw [e] at e1;cases e1
      exact e2
 cases hk:K.lookup a with
 | some o =>
  have e:=KX a o hk
  rw [ha] at e
  cases e
  refine core (fun _=>none) (fun _=>.inl rfl) (.inr ⟨_,vs.toArray,_,hk,rfl,rfl,rfl,by rw [On,lenV];exact hl,by simpa using rv⟩) (fun b u z=>by have z':(none:Option HO)=some u:=z;cases z') (fun b z=>absurd rfl z) fun z=>absurd rfl z
 | none =>
  refine core (fun b=>if b=a then some (.frz { cls:=.type "list",data:=.seq vs.toArray } (.lst (ns.map V.int))) else none) (fun b=>?_) (.inl (.inr ⟨{ cls:=.type "list",data:=.seq vs.toArray },if_pos rfl⟩)) (fun b u z=>?_) (fun b z=>?_) fun _=>hk
  ·by_cases hb:b=a
   ·exact .inr ⟨_,_,if_pos hb⟩
   ·exact .inl (if_neg hb)
  ·by_cases hb:b=a
   ·have z':=(if_pos hb).symm.trans z
    cases z'
    subst hb
    exact ⟨ha,by rw [O1];exact hl,vs,_,rv,ha⟩
   ·have z':=(if_neg hb).symm.trans z
    cases z'
  ·by_cases hb:b=a
   ·exact hb
   ·exact absurd (if_neg hb) z
theorem walk_of {l:Vj}{n k:Nat}{q:Program}{loose:List Str}{XP:(Str->Option Value)->Heap->Prop}{YP:World->Heap->Prop}{d:DefRec}{K:Params->Og}{CX:World->Cg}{sp:World->Sp}{x:Str}
  (hn:l.most=some n) (hn2:n<=sizeLine) (hdf:d.params.defaults=[]) (hr:Room k callerA)
  (hY:∀(w:World)(h:Heap),YP w h->(K w.params).In h)
  (F:∀(w:World)(mg:Str->Option Value)(fa:Addr)(h:Heap),(K w.params).In h->h.Ns mainGlobals mg->mg d.name=some (.ref fa) ->
   ∃ fd:FuncData,(∀(s:Shared)(u:Value),BindsTo s fd ⟨[u],[]⟩ [(x,u)]) /\
    ∀ base:Heap,(K w.params).In base->base.Ns mainGlobals mg->Ar l.prog w (K w.params) mg base (CX w) k fa fd [x] (sp w))
  (hsp:∀(w:World)(H:Hp)(a:Addr)(ns:List Int),ns.length<=n->Nr H->SqL (K w.params) H a (ns.map V.int)->sp w [.ref a] H (fun v _=>v=.bl true) fun _ _ _=>False)
  (hCX:∀(w:World)(H:Hp)(s:Shared)(e:Value)(s':Shared),CX w [] H s (fun _ _ _=>False) e s'->False) :
  PySem.W.WalkO q loose XP YP l.row.toRowW d [] (fun f vs=>PySem.call f vs):=by
 refine Att.attach_call hn hdf fun w s₀ s₁ mg mb fa o pm cd doc a vs ns G Y ho hd hcd hmg hobj hints hlen hg=>?_
 have KX:=hY w _ Y
 obtain ⟨fd,hb,hF⟩:=F w mg fa _ KX G.T.g hmg
 exact Zpt KX G.T.g G.T.b G.T.builtins G.T.nolimit hg hobj hints (Pc hlen hn2) hr hF hb (fun H hO hS=>hsp w H a ns hlen hO hS) fun H e s'=>hCX w H s₁ e s'
noncomputable def C2 (s:Stmt):Arguments:=match s with
 | .FunctionDef _ a _ _ _ _ _ _ _ _=>a
 | _=>{ posonlyargs:=[],args:=[],vararg:=none,kwonlyargs:=[],kw_defaults:=[],kwarg:=none,defaults:=[] }
noncomputable def Cf (s:Stmt):List Stmt:=match s with
 | .FunctionDef _ _ b _ _ _ _ _ _ _=>b
 | _=>[]
noncomputable def An (s:Stmt):Scope:=match s with
 | .FunctionDef _ _ _ _ _ _ sc _ _ _=>sc
 | _=>{ kind:=.function,names:=[],isGenerator:=false,isCoroutine:=false }
noncomputable abbrev As:Cg:=fun _ _ _ _ _ _=>False
noncomputable abbrev E0:XK:=fun _ _ _=>False
theorem Za8 {X:Cx}:K3 As X E0:=fun _ _ _ _ _ _ _ h=>h.elim
structure Fun (K:Og)(x qual:Str)(st:Stmt)(f:Addr)(fd:FuncData):Prop where
 ex:∃(oc:Value)(od:Option Addr)(kV doc pm:Value)(an:Option Addr)(cdv ct:Value)(osl:Array (Option Value)),
  fd=Pn x qual (C2 st) (Cf st) (An st) .none kV doc pm an cdv ct/\K.lookup f=some ⟨oc,od,.func fd,osl⟩/\Rz K cdv qual=true
 kp:P3 K (.ref f)=true
section
variable {P:Program}{w:World}{K:Og}{mg:Str->Option Value}{base:Heap}
theorem Fun.ok {x qual:Str}{st:Stmt}{f:Addr}{fd:FuncData}{N ps:List Str}{k:Nat}{sp:Sp}(F:Fun K x qual st f fd)(S:A1 N ps (An st))(len:∀ vs H Q E,sp vs H Q E->vs.length=ps.length)
  (hbody:∀(cdv:Value)(A:Around)(outer:List Env)(s:Shared)(H:Hp)(vs:List V)(Q:VK)(E:XK),Room k (A.deeper (envOfC qual (An st) s.heap.objs.size f cdv))->sp vs H Q E ->
   ∃ t,PSs (E6 As P w K mg base N qual (An st) f cdv A outer s H E).nox (Cf st) t/\t { nx:=fun _ H'=>Q .non H',rt:=Q } (start N vs) H):Ar P w K mg base As (k+1) f fd ps sp:=by
 obtain ⟨oc,od,kV,doc,pm,an,cdv,ct,osl,rfl,lk,hcd⟩:=F.ex
 refine Zd8 lk hcd S len fun A outer s H vs Q E hr hsp=>?_
 obtain ⟨t,h,q⟩:=hbody cdv A outer s H vs Q E hr hsp
 exact ⟨t,h.nox,q⟩
theorem Fun.binds {x qual:Str}{st:Stmt}{f:Addr}{fd:FuncData}{ps:List Str}(F:Fun K x qual st f fd)
  (h:∀(kV doc pm:Value)(an:Option Addr)(cdv ct:Value)(us:List Value),us.length=ps.length->bindArgs (Pn x qual (C2 st) (Cf st) (An st) .none kV doc pm an cdv ct) ⟨us,[]⟩=pure (ps.zip us)):Binds K fd ps []:=by
 obtain ⟨oc,od,kV,doc,pm,an,cdv,ct,osl,rfl,lk,hcd⟩:=F.ex
 exact .all (h kV doc pm an cdv ct)
theorem fun_mk {x qual:Str}{st:Stmt}{f:Addr}{oc:Value}{od an:Option Addr}{osl:Array (Option Value)}{kV doc pm cdv ct:Value}(l:K.lookup f=some ⟨oc,od,.func (Pn x qual (C2 st) (Cf st) (An st) .none kV doc pm an cdv ct),osl⟩)
  (c:Rz K cdv qual=true) (k:P3 K (.ref f)=true):Fun K x qual st f (Pn x qual (C2 st) (Cf st) (An st) .none kV doc pm an cdv ct):=⟨⟨oc,od,kV,doc,pm,an,cdv,ct,osl,rfl,l,c⟩,k⟩
end
section
variable {X:Cx}
end
theorem iteF {A B:Prop}(h:B):if false=true then A else B:=by
 rw [if_neg Ot]
 exact h
theorem iteT {A B:Prop}(h:A):if true=true then A else B:=by
 rw [if_pos rfl]
 exact h
theorem A4 {c A B:Prop}[Decidable c](h1:c->A)(h2:¬ c->B):if c then A else B:=by
 by_cases h:c
 ·rw [if_pos h]
  exact h1 h
 ·rw [if_neg h]
  exact h2 h
noncomputable def Same (H H':Hp):Prop:=∀ b o,H b=some o->H' b=some o
theorem Same.refl (H:Hp):Same H H:=fun _ _ h=>h
theorem Same.trans {H H1 H2:Hp}(a:Same H H1)(b:Same H1 H2):Same H H2:=fun c o h=>b c o (a c o h)
theorem Same.free {H H':Hp}(e:Same H H'){l:Addr}(h:H' l=Option.none):H l=Option.none:=by
 cases q:H l with
 | none=>rfl
 | some o =>
  rw [e l o q] at h
  cases h
theorem Same.seq {K:Og}{H H':Hp}{a:Addr}{xs:List V}(e:Same H H')(h:SqL K H a xs):SqL K H' a xs:=by
 rcases h with (h | ⟨o,h⟩) | h
 ·exact .inl (.inl (e _ _ h))
 ·exact .inl (.inr ⟨o,e _ _ h⟩)
 ·exact .inr h
end L2
set_option maxHeartbeats 8000000
namespace L2
open PySem PySem.Spec PyProof.Rows
noncomputable def C7 (env:Env):List (Str×NameKind)->List (Str×Addr)->List (Str×Addr)
 | [],acc=>acc
 | (n,k)::r,acc=>C7 env r (if k == .free then (match env.cells.lookup n with | some a=>(n,a)::acc | none=>acc) else acc)
theorem Ni {env:Env}:∀{ns:List (Str×NameKind)}{acc:List (Str×Addr)}{x:Str}{c:Addr},(∀ x c,acc.lookup x=some c->env.cells.lookup x=some c)->(C7 env ns acc).lookup x=some c->env.cells.lookup x=some c
 | [],acc,x,c,h,e=>h x c e
 | (n,k)::r,acc,x,c,h,e=>by
  refine Ni (ns:=r) ?_ e
  intro y d
  split
  ·split
   ·rename_i a ha
    intro q
    rw [P7] at q
    split at q
    ·rename_i hy
     have hy':y=n:=by simpa using hy
     subst hy'
     rw [ha];exact q
    ·exact h y d q
   ·exact h y d
  ·exact h y d
theorem Zb2 {env:Env}:∀{ns:List (Str×NameKind)}{acc:List (Str×Addr)}{x:Str},(acc.lookup x).isSome=true->((C7 env ns acc).lookup x).isSome=true
 | [],acc,x,h=>h
 | (n,k)::r,acc,x,h=>by
  refine Zb2 (ns:=r) ?_
  split
  ·split
   ·rw [P7]
    split
    ·rfl
    ·exact h
   ·exact h
  ·exact h
theorem Zdi {env:Env}:∀{ns:List (Str×NameKind)}{acc:List (Str×Addr)}{x:Str},(x,NameKind.free)∈ns->(env.cells.lookup x).isSome=true->((C7 env ns acc).lookup x).isSome=true
 | [],acc,x,h,_=>by cases h
 | (n,k)::r,acc,x,h,hc=>by
  rcases Ow.mp h with e | e
  ·cases e
   refine Zb2 (ns:=r) ?_
   obtain ⟨a,ha⟩:=Q6.mp hc
   rw [if_pos (by rfl),ha]
   show (Qt n ((n,a)::acc)).isSome=true
   rw [P7]
   simp
  ·exact Zdi (ns:=r) e hc
theorem Zet {scope:Scope}{env:Env}(h:∀ x∈scope.names,x.2=.free->(env.cells.lookup x.1).isSome=true):closureFor scope env=pure (C7 env scope.names []):=by
 have all:∀(ns:List (Str×NameKind))(acc:List (Str×Addr)),(∀ x∈ns,x.2=.free->(env.cells.lookup x.1).isSome=true) ->
   (forIn ns acc fun (x:Str×NameKind) (cs:List (Str×Addr))=>(if (x.2 == NameKind.free)=true then do let a <- cellOf env x.1;pure (ForInStep.yield ((x.1,a)::cs)) else pure (ForInStep.yield cs):Sem (ForInStep (List (Str×Addr)))))=pure (C7 env ns acc):=by
  intro ns
  induction ns with
  | nil=>intro acc _;rfl
  | cons x r ih =>
   intro acc hx
   obtain ⟨n,k⟩:=x
   rw [List.forIn_cons]
   by_cases hk:(k == NameKind.free)=true
   ·obtain ⟨a,ha⟩:=Q6.mp (hx (n,k) Pl (by simpa using hk))
    have ha:env.cells.lookup n=some a:=ha
    have hcell:cellOf env n=pure a:=by unfold cellOf;rw [ha]
    simp only [hk,if_true,hcell]
    refine Eq.trans (ih ((n,a)::acc) fun y hy=>hx y (Pd _ hy)) ?_
    conv=>rhs;unfold C7
    simp only [hk,if_true,ha]
   ·simp only [hk]
    refine Eq.trans (ih acc fun y hy=>hx y (Pd _ hy)) ?_
    conv=>rhs;unfold C7
    simp only [hk]
    rfl
 unfold closureFor
 exact (by
  have:=all scope.names [] h
  first | exact this | (simp only [bind_pure] ;exact this) | simpa using this)
noncomputable def B9 (X:Cx)(scope:Scope)(C:Addr)(N:List Str)(s₀:Shared)(H₀:Hp)(ex:List Addr):Cx where
 prog:=X.prog
 w:=X.w
 K:=X.K
 mg:=X.mg
 base:=X.base
 A:=X.A
 N:=N
 s₀:=s₀
 H₀:=H₀
 env:=compEnvC scope (C7 X.env scope.names []) C X.env
 outer:=X.stack
 stack:=X.stack
 ex:=ex
 fn:=fun _=>false
 calm:=X.calm
 pn:=[]
 xe:=fun _ _=>False
structure F7 (sc:Scope)(env:Env):Prop where
 kind:sc.kind=.function
 nocell:∀ y∈sc.names,y.2≠.cell
 loc:∀ y∈sc.names,y.2=.local->sc.names.lookup y.1=some .local
 free:∀ x∈sc.names,x.2=.free->(env.cells.lookup x.1).isSome=true
theorem Kf {env:Env}:∀{names:List (Str×NameKind)}{x:Str}{k:NameKind},((names.map fun (n,k)=>if (k == NameKind.free && env.scope.kind == .function && env.kindOf n == some .cell) then (n,NameKind.cell) else (n,k)).lookup x=some k) ->
  ∃ k',names.lookup x=some k'/\(k'=k\/(k'=.free/\k=.cell))
 | [],x,k,h=>by simp at h
 | (n,q)::r,x,k,h=>by
  have ih:=@Kf env r x k
  have h:Qt x ((if (q == NameKind.free && env.scope.kind == .function && env.kindOf n == some .cell)=true then (n,NameKind.cell) else (n,q))::_)=some k:=h
  rw [P7]
  cases hx:x == n with
  | true =>
   by_cases hc:(q == NameKind.free && env.scope.kind == .function && env.kindOf n == some .cell)=true
   ·rw [if_pos hc] at h
    simp only [P7,hx] at h
    refine ⟨q,rfl,.inr ⟨?_,(Ov h).symm⟩⟩
    simp only [Pa] at hc
    simpa using hc.1.1
   ·rw [if_neg hc] at h
    simp only [P7,hx] at h
    exact ⟨q,rfl,.inl (Ov h)⟩
  | false =>
   by_cases hc:(q == NameKind.free && env.scope.kind == .function && env.kindOf n == some .cell)=true
   ·rw [if_pos hc] at h
    simp only [P7,hx] at h
    exact ih h
   ·rw [if_neg hc] at h
    simp only [P7,hx] at h
    exact ih h
noncomputable def Fd (X:Cx)(scope:Scope)(N:List Str)(σ σ0:St):Prop :=
 σ0.length=N.length/\∀(i:Nat)(x:Str)(v:V),N[i]?=some x->σ0[i]?=some (some v)->∃ j:Nat,X.N[j]?=some x/\σ[j]?=some (some v)/\scope.names.lookup x=some .free/\(X.env.kindOf x=some .cell\/X.env.kindOf x=some .free)
section
variable {X:Cx}
theorem Zkc {scope:Scope}{N:List Str}{pins:List (Addr×Obj)}{σ σ0:St}{H:Hp}{s:Shared}{h':Heap}{tk:Nat}{fp:List Addr}(I:Inv X pins σ H s)(S:F7 scope X.env)(hf:∀ b∈fp,FpOk X pins H b)(hlt:∀ b∈fp,b < s.heap.objs.size)
  (T:Fd X scope N σ σ0) (hn:h'.Ns s.heap.objs.size (fun _=>none)) (hk:∀ b o,s.heap.get? b=some o->h'.get? b=some o) :
  Inv (B9 X scope s.heap.objs.size N s H fp) [] σ0 H { s with heap:=h',toks:=tk }:=by
 have subC:∀ x c,(C7 X.env scope.names []).lookup x=some c->X.env.cells.lookup x=some c:=fun x c e=>Ni (ns:=scope.names) (acc:=[]) (fun y d z=>by simp at z) e
 have hasC:∀ x,scope.names.lookup x=some .free->∃ c,(C7 X.env scope.names []).lookup x=some c:=fun x e=>by
  have m:=Ra e
  exact Q6.mp (Zdi m (S.free _ m rfl))
 have fsN:∀ b∈fp,b ∉ Co X.stack:=fun b hb z=>by
  obtain ⟨_,f1,f2,_⟩:=hf b hb
  rcases Ow.mp (I.stkSub b z) with e | e
  ·exact f1 e
  ·exact f2 e
 have kinds:∀ x,((relabel scope X.env).names.lookup x=some .cell\/(relabel scope X.env).names.lookup x=some .free)->scope.names.lookup x=some .free:=fun x hx=>by
  rcases hx with hx | hx
  ·obtain ⟨k',e,q⟩:=Kf hx
   rcases q with q | ⟨q,_⟩
   ·subst q
    exact absurd rfl (S.nocell _ (Ra e))
   ·rw [e,q]
  ·obtain ⟨k',e,q⟩:=Kf hx
   rcases q with q | ⟨_,q⟩
   ·rw [e,q]
   ·cases q
 have noex:∀ b o,X.base.get? b=some o->b ∉ fp:=fun b o e hb=>by
  obtain ⟨_,_,_,f3,_⟩:=hf b hb
  rcases f3 with z | z
  ·exact I.ok.noex b o e z
  ·exact absurd (O3 (Os e) (Pc I.ok.bsz z)) (Qa _)
 refine ⟨⟨I.ok.mod,S.kind,I.ok.glob,I.ok.blt,Ol _,fun x y c e1 e2=>I.ok.inj x y c (subC x c e1) (subC y c e2),fun x hx=>hasC x (kinds x hx),fun x c z=>absurd (show false=true from z) Ot,I.ok.hd,I.ok.frames,.inl rfl,
   fun b hb=>⟨Oy (hlt b hb),fun x c e=>(hf b hb).2.2.2.2.1 x c (subC x c e)⟩,I.bs,Pc I.ok.bsz I.sz,noex,fsN,I.stack,I.stkFree⟩,
  rfl,I.bare,Un.kept hk,⟨_,hn,fun i x v e1 e2 e3=>?_⟩,fun x c e=>?_,I.hok.fresh (Ol _),fun x c e=>I.freeC x c (subC x c e),fun p hp=>absurd (show p∈([]:List (Addr×Obj)) from hp) (by simp),I.hok.kept hk,T.1⟩
 ·obtain ⟨j,hj,hs,hfr,hkd⟩:=T.2 i x v e1 e2
  obtain ⟨m,_,hl⟩:=I.loc
  obtain ⟨u,r,l⟩:=hl j x v hj hs (hkd.elim (fun z=>Or.inr (Or.inl z)) fun z=>Or.inr (Or.inr z))
  refine ⟨u,r,.inr ⟨?_,?_⟩⟩
  ·show (relabel scope X.env).names.lookup x=some .cell\/(relabel scope X.env).names.lookup x=some .free
   rcases e3 with z | z | z
   ·obtain ⟨k',e,q⟩:=Kf (show (relabel scope X.env).names.lookup x=some .local from z)
    rw [hfr] at e
    cases e
    rcases q with q | ⟨_,q⟩ <;> cases q
   ·exact .inl z
   ·exact .inr z
  ·obtain ⟨c,hc⟩:=hasC x hfr
   refine ⟨c,hc,?_⟩
   rcases l with ⟨k,_⟩ | ⟨_,c',e,z⟩
   ·rcases hkd with hkd | hkd <;> (rw [hkd] at k;cases k)
   ·have e':=subC x c hc
    rw [e] at e'
    cases e'
    obtain ⟨o,ho,hd⟩:=z
    exact ⟨o,hk _ o ho,hd⟩
 ·obtain ⟨v,o,ho,hd⟩:=I.cell x c (subC x c e)
  exact ⟨v,o,hk _ o ho,hd⟩
theorem Zjc {scope:Scope}{N:List Str}{pins pins':List (Addr×Obj)}{σ σ':St}{H H':Hp}{s s':Shared}{h':Heap}{fp:List Addr}(I:Inv X pins σ H s)(hf:∀ b∈fp,FpOk X pins H b)
  (I':Inv (B9 X scope s.heap.objs.size N s H fp) pins' σ' H' s') (hs:Pe s.heap.objs.size s'.heap h'):Inv X pins σ H' { s' with heap:=h' }:=by
 have hC:H' s.heap.objs.size=none:=I'.free
 have ne:∀ b o,s.heap.get? b=some o->b≠s.heap.objs.size:=fun b o e=>Oy (Os e)
 have B:Un (Co X.stack) fp H H' s.heap s'.heap:=I'.base
 refine I.call' (s':={ s' with heap:=h' }) (ch:=fp) I'.os ⟨fun b o e n hb hx=>?_,fun b o e n hb hx=>?_,B.free,fun b o e hx=>?_,B.tups,B.frzs,B.tbls⟩ (fun b o e=>?_) I'.bare (fun b hb=>?_)
 ·exact (hs.2 b (ne b o e)).trans (B.keep b o e n hb hx)
 ·obtain ⟨sl,q⟩:=B.slot b o e n hb hx
  exact ⟨sl,(hs.2 b (ne b o e)).trans q⟩
 ·obtain ⟨o',q⟩:=B.there b o e hx
  exact ⟨o',(hs.2 b (ne b o e)).trans q⟩
 ·refine (I'.hok b o e).stay (fun c w' hc q=>(hs.2 c ?_).trans q) (fun _ q=>q) fun _ _ q=>q
  rintro rfl
  rcases hc with rfl | hc
  ·rw [hC] at e;cases e
  ·rw [hC] at hc;cases hc
 ·obtain ⟨_,f1,_,f3,f4,f5⟩:=hf b hb
  exact ⟨f3,f1,f4,f5⟩
end
section
variable {prog:Program}{w:World}{A:Around}{R:Result->Shared->Prop}{s:Shared}
theorem Zib {elt target iter:Expr}{ifs:List Expr}{scope:Scope}{pos:Pos}{it acc:Value}{env:Env}(I:Nat->Shared->Prop)
  (turn:∀ n s,I n s->wpAny (model prog w) A (pyNext it) (fun r s₁=>match r with
   | none=>R (.ok .next) s₁
   | some v=>wpAny (model prog w) A (letOwnedTupleGo target it v) (fun _ s₁'=>wpAny (model prog w) A (assign target env v) (fun _ s₂ =>
     wpAny (model prog w) A (forIn ifs true fun c r=>if r=true then do let ok <- isTrue c env (eval c env);pure (ForInStep.yield ok) else pure (ForInStep.yield r)) (fun ok s₃ =>
      if ok=true then wpAny (model prog w) A (eval elt env) (fun x s₄ =>
       wpAny (model prog w) A (call (.builtin "list.append") [acc,x]) (fun _ s₅=>∃ m,m < n/\I m s₅) (fun _ _=>False) s₄) (fun _ _=>False) s₃
      else ∃ m,m < n/\I m s₃) (fun _ _=>False) s₂) (fun _ _=>False) s₁') (fun _ _=>False) s₁) (fun _ _=>False) s)
  (n:Nat) (h:I n s):codeAny (model prog w) A (.compLoop (.ListComp elt [⟨target,iter,ifs,0⟩] scope pos) 0 it acc env) R s:=by
 refine codeAny_loop rfl I (fun n s hI=>?_) n h
 show wpAny _ A ((compTurn (.ListComp elt [⟨target,iter,ifs,0⟩] scope pos) 0 it acc env).onRaise (fun x=>do noteFrame x env;theTreesLotGoes x)) _ _ s
 refine wpAny_noted ?_
 rw [compTurn_list]
 have up:∀{α:Type}{t:Sem α}{Q:α->Shared->Prop}{s:Shared}{E:Value->Shared->Prop},wpAny (model prog w) A t Q (fun _ _=>False) s->wpAny (model prog w) A t Q E s:=fun h=>wpAny_noRaise h
 refine Oh (Sm (Oh (up (Ag (turn n s hI) fun r s₁ h₁=>?_))))
 cases r with
 | none=>exact Om h₁
 | some v =>
  refine Oh (up (Ag h₁ fun _ s₁' h₁'=>?_))
  refine Oh (up (Ag h₁' fun _ s₂ h₂=>Oh (up (Ag h₂ fun ok s₃ h₃=>?_))))
  cases ok with
  | false=>exact Om ⟨rfl,h₃⟩
  | true =>
   exact Oh (Oh (up (Ag h₃ fun x s₄ h₄=>Oh (up (Ag h₄ fun _ s₅ h₅=>Om (Om ⟨rfl,h₅⟩))))))
end
noncomputable def G4 (J:It)(g:TG)(tt:TT)(te:TE)(σ0:St)(H1:Hp)(D:Addr)(Q:VK):Prop :=
 ∃ W:Nat->Nat->St->Hp->Prop,(∃ m,W 0 m σ0 (upd H1 D (.lst [])))/\∀ i m σ' H',W i m σ' H' ->
  (J.stop i H'/\Q (.ref D) H')\/(J.go i H'/\∃ N:St->Hp->Prop,(∀ σ2 H2,N σ2 H2->∃ m',m' < m/\W (i+1) m' σ2 H2)/\∀ x H2,J.yld i H' x H2->g x σ' H2 fun σ2 H3=>tt σ2 H3 fun b H4 =>
   if b=true then te σ2 H4 fun y H5=>∃ ys,H5 D=some (.lst ys)/\ys.length < sizeLine/\N σ2 (upd H5 D (.lst (ys++[y]))) else N σ2 H4)
noncomputable def Jd (wi:TI)(σ0:St->St)(g:TG)(tt:TT)(te:TE):TE:=fun σ H Q=>wi σ H fun J H1=>∀ D,H1 D=none->G4 J g tt te (σ0 σ) H1 D Q
noncomputable def Fp (X:Cx)(ifs:List Expr)(t:TT):Prop :=
 ∀(pins:List (Addr×Obj))(s:Shared)(σ:St)(H:Hp)(Q:Bool->Hp->Prop),Inv X pins σ H s->t σ H Q ->
  wpAny (model X.prog X.w) X.A (forIn ifs true fun c r=>if r=true then do let ok <- isTrue c X.env (eval c X.env);pure (ForInStep.yield ok) else pure (ForInStep.yield r)) (TP X pins σ Q) X.xe s
noncomputable def K1:TT:=fun _ H Q=>Q true H
theorem Zl6 {X:Cx}:Fp X [] K1:=fun _ _ _ H _ I h=>wpAny_tests_nil ⟨H,I,h⟩
theorem Zmw {X:Cx}{c:Expr}{t:TT}(h:PT X c t):Fp X [c] t:=fun pins s σ H Q I hw=>wpAny_tests_one (h pins s σ H Q I hw)
section
variable {X:Cx}{elt target iter:Expr}{ifs:List Expr}{scope:Scope}{pos:Pos}{N:List Str}{wi:TI}{σ0:St->St}{g:TG}{tt:TT}{te:TE}
theorem Zb5 {pins:List (Addr×Obj)}{σ:St}{H:Hp}{s:Shared}{it:Addr}{fp:List Addr}{tn:Nat->Heap->Prop}{J:It}{Q:Addr->Hp->Prop}{RR:Value->Addr->Result->Shared->Prop}{E:Value->Shared->Prop}
  (hc:X.calm=true) (S:F7 scope X.env) (T:Fd X scope N σ (σ0 σ)) (I:Inv X pins σ H s) (Tn:Fi X.prog X.w X.K target J fp it tn) (st:tn 0 s.heap) (hf:∀ b∈fp,FpOk X pins H b)
  (hg:∀ C s H fp,PG (B9 X scope C N s H fp) target g) (ht:∀ C s H fp,Fp (B9 X scope C N s H fp) ifs tt) (he:∀ C s H fp,PE (B9 X scope C N s H fp) elt te)
  (hw:∀ D,H D=none->∃ W:Nat->Nat->St->Hp->Prop,(∃ m,W 0 m (σ0 σ) (upd H D (.lst [])))/\∀ i m σ' H',W i m σ' H' ->
   (J.stop i H'/\Q D H')\/(J.go i H'/\∃ N:St->Hp->Prop,(∀ σ2 H2,N σ2 H2->∃ m',m' < m/\W (i+1) m' σ2 H2)/\∀ x H2,J.yld i H' x H2->g x σ' H2 fun σ2 H3=>tt σ2 H3 fun b H4 =>
    if b=true then te σ2 H4 fun y H5=>∃ ys,H5 D=some (.lst ys)/\ys.length < sizeLine/\N σ2 (upd H5 D (.lst (ys++[y]))) else N σ2 H4))
  (hR:∀(D C:Addr)(H':Hp)(s':Shared)(m:Str->Option Value),s.heap.objs.size<=C->H' C=none->s'.heap.Ns C m->(∀ h',Pe C s'.heap h'->Inv X pins σ H' { s' with heap:=h' })->Q D H'->RR (.ref D) C (.ok .next) s') :
  wpAny (model X.prog X.w) X.A (newList []) (fun acc s₃=>wpAny (model X.prog X.w) X.A (newFunctionEnv scope X.env.globals (C7 X.env scope.names []) [] X.env.qual none .none (some X.env)) (fun cenv s₄ =>
   codeAny (model X.prog X.w) X.A (.compStart (.ListComp elt [⟨target,iter,ifs,0⟩] scope pos) 0 (.ref it) acc { cenv with scope:=relabel scope X.env }) (RR acc cenv.locals) s₄) E s₃) E s:=by
 refine Q0 (wpAny_newFunctionEnv S.nocell (by intro y hy;simp at hy) (fun h₁ hns₁ hsb₁=>?_) S.kind)
 have hD:H s.heap.objs.size=none:=I.hok.fresh (Ol _)
 have I3:Inv X pins σ (upd H s.heap.objs.size (.lst [])) { s with heap:=s.heap.push { cls:=.type "list",dict:=none,data:=.seq ([]:List Value).toArray } }:=I.lnew (ys:=[]) (its:=[]) (t':=s.toks) .nil (by simp)
 have hlt:∀ b∈fp,b < s.heap.objs.size:=fun b hb=>by obtain ⟨o,e,_⟩:=Tn.obj _ _ st b hb;exact Os e
 have hf3:∀ b∈fp,FpOk X pins (upd H s.heap.objs.size (.lst [])) b:=fun b hb=>⟨by rw [Ah (Oy (hlt b hb))];exact (hf b hb).1,(hf b hb).2⟩
 have hlt3:∀ b∈fp,b < ({ s with heap:=s.heap.push { cls:=.type "list",dict:=none,data:=.seq ([]:List Value).toArray } }:Shared).heap.objs.size:=fun b hb=>by
  show b < (s.heap.push _).objs.size
  rw [Q3]
  exact Nat.lt_succ_of_lt (hlt b hb)
 have hk1:∀ b o,({ s with heap:=s.heap.push { cls:=.type "list",dict:=none,data:=.seq ([]:List Value).toArray } }:Shared).heap.get? b=some o->h₁.get? b=some o:=fun b o e =>
  hsb₁.extBut b o (Oy (Os e)) (Oq _ e)
 have I4:=Zkc (N:=N) (tk:=s.toks+([]:List (Str×Value)).length) I3 S hf3 hlt3 T hns₁ hk1
 have st4:tn 0 h₁:=Tn.keep _ _ _ st fun b hb o e=>hk1 b o (Oq _ e)
 obtain ⟨W,⟨m0,w0⟩,turn⟩:=hw _ hD
 generalize hX:B9 X scope ({ s with heap:=s.heap.push { cls:=.type "list",dict:=none,data:=.seq ([]:List Value).toArray } }:Shared).heap.objs.size N { s with heap:=s.heap.push { cls:=.type "list",dict:=none,data:=.seq ([]:List Value).toArray } } (upd H s.heap.objs.size (.lst [])) fp=X' at I4
 have eP:X'.prog=X.prog:=by rw [<- hX];rfl
 have eW:X'.w=X.w:=by rw [<- hX];rfl
 have eK:X'.K=X.K:=by rw [<- hX];rfl
 have eA:X'.A=X.A:=by rw [<- hX];rfl
 have eC:X'.calm=true:=by rw [<- hX];exact hc
 have eX:X'.xe=fun _ _=>False:=by rw [<- hX];rfl
 have eEx:X'.ex=fp:=by rw [<- hX];rfl
 have hg':PG X' target g:=by rw [<- hX];exact hg _ _ _ _
 have ht':Fp X' ifs tt:=by rw [<- hX];exact ht _ _ _ _
 have he':PE X' elt te:=by rw [<- hX];exact he _ _ _ _
 have eE:X'.env=compEnvC scope (C7 X.env scope.names []) ({ s with heap:=s.heap.push { cls:=.type "list",dict:=none,data:=.seq ([]:List Value).toArray } }:Shared).heap.objs.size X.env:=by rw [<- hX];rfl
 have fpIn:∀{H':Hp},(∀ b∈fp,H' b=none)->∀ b∈fp,FpOk X' [] H' b:=fun {H'} hn b hb=>by
  obtain ⟨f0,f1,f2,f3,f4,f5⟩:=hf3 b hb
  rw [<- hX]
  refine ⟨hn b hb,Oy (hlt3 b hb),fun z=>?_,.inl hb,fun x c e=>f4 x c (Ni (ns:=scope.names) (acc:=[]) (fun y d z=>by simp at z) e),fun p hp=>absurd (show p∈([]:List (Addr×Obj)) from hp) (by simp)⟩
  rcases Ow.mp (I3.stkSub b z) with e | e
  ·exact f1 e
  ·exact f2 e
 have fr0:∀ b∈fp,upd H s.heap.objs.size (.lst []) b=none:=fun b hb=>(hf3 b hb).1
 have loop:codeAny (model X.prog X.w) X.A (.compLoop (.ListComp elt [⟨target,iter,ifs,0⟩] scope pos) 0 (.ref it) (.ref s.heap.objs.size) X'.env)
   (RR (.ref s.heap.objs.size) ({ s with heap:=s.heap.push { cls:=.type "list",dict:=none,data:=.seq ([]:List Value).toArray } }:Shared).heap.objs.size)
   { s with heap:=h₁,toks:=s.toks+([]:List (Str×Value)).length }:=by
  refine Zib (fun n s'=>∃ i σ' H',Inv X' [] σ' H' s'/\tn i s'.heap/\(∀ b∈fp,H' b=none)/\W i n σ' H') ?_ m0 ⟨0,σ0 σ,_,I4,st4,fr0,w0⟩
  rintro n s5 ⟨i,σ5,H5,I5,st5,fr5,w5⟩
  rcases turn i n σ5 H5 w5 with ⟨stop,qn⟩ | ⟨go,Nx,hN,step⟩
  ·have q:=Tn.done X' eP eW eK eC i [] s5 σ5 H5 (fun _ _=>False) I5 (fpIn fr5) st5 stop
   rw [eA] at q
   refine Ag q fun r s6 zq=>?_
   obtain ⟨hr,I6⟩:=zq
   subst hr
   obtain ⟨mm,hns6,_⟩:=I6.loc
   rw [eE] at hns6
   have fr6:=I6.free
   rw [eE] at fr6
   refine hR _ _ H5 s6 mm ?_ fr6 hns6 (fun h' hs=>?_) qn
   ·show s.heap.objs.size<=(s.heap.push _).objs.size
    rw [Q3]
    exact Ss _
   ·rw [<- hX] at I6
    exact Zjc I3 hf3 I6 hs
  ·have q:=Tn.item X' eP eW eK eC i [] s5 σ5 H5 (fun _ _=>False) I5 (fpIn fr5) st5 go
   rw [eA] at q
   refine Ag q fun r s6 zq=>?_
   obtain ⟨u,hr,h6⟩:=zq
   subst hr
   refine Ag h6 fun _ s7 zq=>?_
   obtain ⟨x,H7,I7,r7,y7,st7,fr7⟩:=zq
   have I7':=I7.pinned (fpIn fr7) (Tn.obj _ _ st7)
   have q8:=hg' _ s7 σ5 H7 x u _ I7' r7 (step x H7 y7)
   rw [eP,eW,eA,eX] at q8
   refine Ag q8 fun _ s8 zq=>?_
   obtain ⟨σ8,H8,I8,q8⟩:=zq
   have q9:=ht' _ s8 σ8 H8 _ I8 q8
   rw [eP,eW,eA,eX] at q9
   refine Ag q9 fun ok s9 zq=>?_
   obtain ⟨H9,I9,q9⟩:=zq
   have again:∀{σ10:St}{H10:Hp}{s10:Shared},Inv X' ([]++Iw fp s7.heap) σ10 H10 s10->Nx σ10 H10->∃ m,m < n/\∃ i σ' H',Inv X' [] σ' H' s10/\tn i s10.heap/\(∀ b∈fp,H' b=none)/\W i m σ' H':=fun {σ10 H10 s10} J10 n10=>by
    obtain ⟨m',hm,w10⟩:=hN σ10 H10 n10
    refine ⟨m',hm,i+1,σ10,H10,J10.unpinned,Tn.keep _ _ _ st7 fun b hb o e=>(J10.pin (b,o) (P6 _ (P6 _ (Kr hb e)))).1,fun b hb=>?_,w10⟩
    obtain ⟨o,e,d⟩:=Tn.obj _ _ st7 b hb
    exact (J10.pin (b,o) (P6 _ (P6 _ (Kr hb e)))).2.1
   cases ok with
   | false =>
    have q9':Nx σ8 H9:=q9
    exact again I9 q9'
   | true =>
    have q9':te σ8 H9 _:=q9
    have q10:=he' _ s9 σ8 H9 _ I9 q9'
    rw [eP,eW,eA,eX] at q10
    refine Ag q10 fun y s10 zq=>?_
    obtain ⟨yv,H10,I10,r10,ys,hys,hz,n10⟩:=zq
    have q11:=(El (X:=X')) _ s10 σ8 H10 (.ref s.heap.objs.size) [yv] (.ref s.heap.objs.size) [y] (fun _ H11=>Nx σ8 H11) I10 rfl (.cons r10 .nil) ⟨_,ys,yv,rfl,rfl,hys,hz,n10⟩
    rw [eP,eW,eA,eX] at q11
    exact Ag q11 fun _ s11 ⟨_,H11,I11,_,n11⟩=>again I11 n11
 rw [eE] at loop
 exact codeAny_compStart_list loop (Tn.self _ 0 _ _ _ st4 loop)
theorem Zg5 (hc:X.calm=true)(S:F7 scope X.env)(hi:PI X target iter wi)(T:∀ σ,σ.length=X.N.length->Fd X scope N σ (σ0 σ))
  (hg:∀ C s H fp,PG (B9 X scope C N s H fp) target g) (ht:∀ C s H fp,Fp (B9 X scope C N s H fp) ifs tt) (he:∀ C s H fp,PE (B9 X scope C N s H fp) elt te)
  (hs:∀ x,foldedSetIterable iter X.env x=pure x:=by intro _;rfl):PE X (.ListComp elt [⟨target,iter,ifs,0⟩] scope pos) (Jd wi σ0 g tt te):=by
 intro pins s σ H Q I h
 rw [eval_ListComp]
 refine wpAny_comprehension_free (use:=none) rfl hs (Zet S.free) S.kind S.loc (Ag (hi pins s σ H _ I h) fun xv s₁ h₁=>Ag h₁ fun itv s₂ h₂=>?_)
 obtain ⟨it,fp,tn,J,H2,rfl,I2,Tn,st2,f2,hw⟩:=h₂
 refine Zb5 (Q:=fun D H'=>Q (.ref D) H') (RR:=fun acc C=>compPost (model X.prog X.w) X.A X.xe none (EP X pins σ Q) acc C) hc S (T σ I.len) I2 Tn st2 f2 hg ht he hw ?_
 intro D C H' s' m hC _ hn hI hq
 exact ⟨m,hn,fun h' hs'=>⟨.ref D,H',hI h' hs',rfl,hq⟩⟩
theorem Zli {i:Nat}{y:Str}{py spos:Pos}(hc:X.calm=true)(S:F7 scope X.env)(hi:PI X target iter wi)(T:∀ σ,σ.length=X.N.length->Fd X scope N σ (σ0 σ))
  (hg:∀ C s H fp,PG (B9 X scope C N s H fp) target g) (ht:∀ C s H fp,Fp (B9 X scope C N s H fp) ifs tt) (he:∀ C s H fp,PE (B9 X scope C N s H fp) elt te)
  (hN:X.N.Nodup) (hy:X.N[i]?=some y) (hx:Ew X.env.scope y)
  (hsw:swapsWith (.ListComp elt [⟨target,iter,ifs,0⟩] scope pos) (some (.Name y py)) spos.line X.env=pure true:=by rfl)
  (hf:X.fn y=true\/X.env.scope.names.lookup y=some .local:=by first | exact .inl rfl | exact .inr rfl | assumption)
  (hs:∀ x,foldedSetIterable iter X.env x=pure x:=by intro _;rfl):PS X (.Assign [.Name y py] (.ListComp elt [⟨target,iter,ifs,0⟩] scope pos) spos) (Em (Jd wi σ0 g tt te) (D9 i)):=by
 intro pins s σ H D I h
 rw [exec_Assign_Name_used _ _ _ _ hsw]
 refine Oh (Sm (Oh ?_))
 show wpAny _ X.A (do let _ <- comprehension (.ListComp elt [⟨target,iter,ifs,0⟩] scope pos) scope X.env _ (newList []) false (eval iter X.env) (some (assign (.Name y py) X.env))) _ _ s
 refine Oh (Ag (wpAny_comprehension_free (use:=some (assign (.Name y py) X.env)) (Q:=fun _ s'=>SP X pins D .next s') rfl hs (Zet S.free) S.kind S.loc
  (Ag (hi pins s σ H _ I h) fun xv s₁ h₁=>Ag h₁ fun itv s₂ h₂=>?_)) fun _ s' hq=>Om (Om hq))
 obtain ⟨it,fp,tn,J,H2,rfl,I2,Tn,st2,f2,hw⟩:=h₂
 refine Zb5 (Q:=fun L H'=>D.nx (σ.set i (some (.ref L))) H') (RR:=fun acc C=>compPost (model X.prog X.w) X.A X.xe (some (assign (.Name y py) X.env)) (fun _ s'=>SP X pins D .next s') acc C) hc S (T σ I.len) I2 Tn st2 f2 hg ht he hw ?_
 intro L C H' s' m hC hfree hn hI hq
 have I3:Inv X pins σ H' s':=hI s'.heap (.refl ..)
 refine wpAny_assign_Name (Zfh I3 hN hy hx (v:=.ref L) rfl (fun s4 I4 hch=>?_) hf)
 obtain ⟨a,hsb,ha⟩:=hch
 have haC:C≠a:=by
  rintro rfl
  rcases ha with e | e
  ·have:=I2.lt
   rw [<- e] at this
   exact absurd (O3 this hC) (Qa _)
  ·obtain ⟨v,z⟩:=I2.cell y _ e
   exact absurd (O3 z.lt hC) (Qa _)
 refine ⟨m,hn.sameBut hsb haC,fun h' hs'=>⟨_,H',?_,hq⟩⟩
 have e4:({ s4 with heap:=h' }:Shared)={ s4 with heap:=h',toks:=s4.toks }:=rfl
 rw [e4]
 refine I4.turned (it:=C) (fun b o hb e=>(hs'.2 b hb).trans e) hfree ?_ (.inr (Pc I2.sz hC)) ?_ ?_
 ·exact R4 (O3 I2.lt hC)
 ·rintro x c e rfl
  obtain ⟨v,z⟩:=I2.cell x _ e
  exact absurd (O3 z.lt hC) (Qa _)
 ·rintro p hp e
  exact absurd (O3 (Os (I2.pin p hp).1) (by rw [e];exact hC)) (Qa _)
end
section
variable {X:Cx}
theorem Zqe {K:Og}{T:String}:Q4 K (.type T) (.type T)=some true:=by
 unfold Q4
 rw [if_pos (by simp)]
theorem Zin {K:Og}{T U:String}{b:Bool}{l:List Value}(hm:Vk U=true)(hn:¬ T=U)(hl:fastBuiltinMro T=some l)(hb:l.contains (.type U)=b):Q4 K (.type T) (.type U)=some b:=by
 unfold Q4
 rw [if_neg (by simp [hn])]
 show (if Vk U=true then PySem.W.subIn K (.type T) (.type U) else none)=some b
 rw [if_pos hm]
 show (fastBuiltinMro T).map (·.contains (.type U))=some b
 rw [hl,<- hb]
 rfl
theorem Zjm:OpR X (compareOp .LtE) (fun x y H Q=>∃ i j,x=.str i/\y=.str j/\Q (.bl (!(decide (j.cps.toList < i.cps.toList)))) H):=by
 intro pins s σ H x y v u Q I rx ry h
 obtain ⟨i,j,rfl,rfl,q⟩:=h
 obtain ⟨t,rfl⟩:=rx
 obtain ⟨t',rfl⟩:=ry
 exact PySem.P.le_str (A7 I q rfl)
theorem Ziv:OpR X (compareOp .In) (fun x y H Q=>∃(c:Nat)(j:Str),x=.str ⟨#[c]⟩/\y=.str j/\Q (.bl (decide (c∈j.cps.toList))) H):=by
 intro pins s σ H x y v u Q I rx ry h
 obtain ⟨c,j,rfl,rfl,q⟩:=h
 exact Zhq pins s σ H _ _ v u Q I rx ry ⟨_,_,rfl,rfl,by rw [StrLaws.found_one];exact q⟩
theorem Zni:OpR X (compareOp .NotIn) (fun x y H Q=>∃(c:Nat)(j:Str),x=.str ⟨#[c]⟩/\y=.str j/\Q (.bl (!decide (c∈j.cps.toList))) H):=by
 intro pins s σ H x y v u Q I rx ry h
 obtain ⟨c,j,rfl,rfl,q⟩:=h
 exact Zic pins s σ H _ _ v u Q I rx ry ⟨_,_,rfl,rfl,by rw [StrLaws.found_one];exact q⟩
noncomputable def L6:V->Option Int->Option Int->Hp->VK->Prop:=fun x lo hi H Q=>∃ z,x=.str z/\z.length<=sizeLine/\Q (.str (P4 z lo hi)) H
theorem sl_str:SlR X L6:=by
 intro pins s σ H x v vl vu lo hi sl Q I rx hs pl pu h
 obtain ⟨z,rfl,hz,q⟩:=h
 obtain ⟨t,rfl⟩:=rx
 obtain ⟨o,ho,hc,hd⟩:=hs
 refine ⟨"str",_,slot_str_getitem.lookup,typeIs_str _ _ _,?_⟩
 cases pl with
 | none =>
  cases pu with
  | none=>exact Tg (l:=none) (u:=none) (st:=none) ⟨_,ho,hc,hd⟩ rfl (T0 ⟨Pc (Ue z _ _) hz,fun t' k=>⟨.str (P4 z _ _),H,I.tok k,⟨t',rfl⟩,q⟩⟩)
  | int j u=>exact Tg (l:=none) (u:=some (j,u)) (st:=none) ⟨_,ho,hc,hd⟩ rfl (T0 ⟨Pc (Ue z _ _) hz,fun t' k=>⟨.str (P4 z _ _),H,I.tok k,⟨t',rfl⟩,q⟩⟩)
 | int i ti =>
  cases pu with
  | none=>exact Tg (l:=some (i,ti)) (u:=none) (st:=none) ⟨_,ho,hc,hd⟩ rfl (T0 ⟨Pc (Ue z _ _) hz,fun t' k=>⟨.str (P4 z _ _),H,I.tok k,⟨t',rfl⟩,q⟩⟩)
  | int j u=>exact Tg (l:=some (i,ti)) (u:=some (j,u)) (st:=none) ⟨_,ho,hc,hd⟩ rfl (T0 ⟨Pc (Ue z _ _) hz,fun t' k=>⟨.str (P4 z _ _),H,I.tok k,⟨t',rfl⟩,q⟩⟩)
theorem Zh0 {z:Str}{lo hi:Option Int}{c:Nat}(h:c∈(P4 z lo hi).cps.toList):c∈z.cps.toList:=by
 unfold P4 at h
 split at h
 ·exact h
 ·obtain ⟨i,_,e⟩:=Uw.mp (by simpa using h)
  exact Oz (by simpa using e)
theorem Zbz:∀{ys:List Str}{us:List Value},Vals (ys.map V.str) us->StrsAre us ys
 | [],_,.nil=>.nil
 | y::ys,_,.cons r t=>by
  obtain ⟨tk,rfl⟩:=r
  exact .cons y tk (Zbz t)
noncomputable def Np (K:Og):V->List V->Hp->VK->Prop:=fun x vs H Q=>∃ sep p ys,x=.str sep/\vs=[.ref p]/\SqL K H p (ys.map V.str)/\(ys.map (·.length)).sum+ys.length * sep.length<=16777216/\Q (.str (Txt.join sep ys)) H
theorem Zjn:Fe X "str.join" (Np X.K):=by
 intro pins s σ H x vs v us Q I rx rv h
 obtain ⟨sep,p,ys,rfl,rfl,hq,hz,q⟩:=h
 obtain ⟨t,rfl⟩:=rx
 obtain ⟨u,rfl,ru⟩:=rv.one
 cases ru
 obtain ⟨its,r,pl,_⟩:=I.list hq
 exact join_list pl.isList (by simpa using Zbz r) hz fun t' k=>⟨.str (Txt.join sep ys),H,I.tok k,⟨t',rfl⟩,q⟩
end
noncomputable def F3 (z:Str):It:=⟨fun i _=>i < z.cps.size,fun i H x H'=>H'=H/\∃ c,z.cps.toList[i]?=some c/\x=.str ⟨#[c]⟩,fun i _=>i=z.cps.size⟩
theorem Zgm (z:Str):["enumerate", "zip", "dict_itemiterator", "dict_reverseitemiterator", "odict_iterator", "itertools.zip_longest", "itertools.pairwise"].contains (strIterType z)=false:=by
 unfold strIterType
 cases z.cps.all (· < 128) <;> decide
theorem Zfj {P:Program}{w:World}{A:Around}(hh:A.handled=none)(it:Addr)(z:Str)(t:Tok):Walks P w A it [it] [it] z.cps.size (SignAt z) (fun i h=>h.IsStrIter it (strIterType z) z t i):=by
 unfold strIterType
 cases z.cps.all (· < 128)
 ·exact Walks.strWide hh it z t
 ·exact Walks.strAscii hh it z t
theorem Zj0 {P:Program}{w:World}{K:Og}{tg:Expr}(it:Addr)(z:Str)(t:Tok):Fi P w K tg (F3 z) [it] it (fun i h=>h.IsStrIter it (strIterType z) z t i) where
 mem:=by simp
 obj:=fun i h st b hb=>by
  have e:b=it:=by simpa using hb
  subst e
  obtain ⟨o,e,c,d⟩:=st
  exact ⟨o,e,fun v z=>by rw [d] at z;cases z⟩
 keep:=fun i h h' st k=>let ⟨o,e,r⟩:=st;⟨o,k it (by simp) o e,r⟩
 item:=by
  intro X hP hw hK hc i pins s σ H E I hf st hg
  subst hP hw hK
  obtain ⟨f0,f1,f2,f3,f4,f5⟩:=hf it (by simp)
  refine (Zfj (P:=X.prog) (w:=X.w) (I.ok.hd hc) it z t).item i s _ _ hg st fun v h' tk hv st' kk=>?_
  obtain ⟨c,u,hcu,rfl⟩:=hv
  have I1:Inv X pins σ H { s with heap:=h',toks:=tk }:=I.turned (fun b o hb e=>kk b o (by simpa using hb) e) f0 f1 f3 f4 f5
  obtain ⟨o,e,cc,d⟩:=id st'
  exact ⟨_,rfl,Ge (s:={ s with heap:=h',toks:=tk }) e cc d (Zgm z) ⟨.str ⟨#[c]⟩,H,I1,⟨u,rfl⟩,⟨rfl,c,by simpa using hcu,rfl⟩,st',fun b hb=>(hf b hb).1⟩⟩
 done:=by
  intro X hP hw hK hc i pins s σ H E I hf st hg
  subst hP hw hK
  obtain ⟨f0,f1,f2,f3,f4,f5⟩:=hf it (by simp)
  have hg:i=z.cps.size:=hg
  subst hg
  exact (Zfj (P:=X.prog) (w:=X.w) (I.ok.hd hc) it z t).done s _ _ st fun h' tk kk=>⟨rfl,I.turned (fun b o hb e=>kk b o (by simpa using hb) e) f0 f1 f3 f4 f5⟩
 self:=fun A i s Q E st h=>by
  obtain ⟨o,e,c,d⟩:=st
  unfold strIterType at c
  cases ha:z.cps.all (· < 128)
  ·rw [ha] at c;exact wpAny_pyIter_striter_wide ⟨o,e,c,d⟩ h
  ·rw [ha] at c;exact wpAny_pyIter_striter_ascii ⟨o,e,c,d⟩ h
section
variable {X:Cx}{tg:Expr}
theorem Zkj {z:Str}{g:TG}{tb:TS}{D:Cp}{σ:St}{H:Hp}(Pv:Nat->St->Hp->Prop)(h0:Pv 0 σ H)
  (hs:∀ i c σ H,z.cps.toList[i]?=some c->Pv i σ H->g (.str ⟨#[c]⟩) σ H fun σ2 H2=>tb { D with nx:=Pv (i+1),ct:=Pv (i+1),bk:=D.nx } σ2 H2) (hd:∀ σ H,Pv z.cps.size σ H->D.nx σ H) :
  ∃ W:Nat->Nat->St->Hp->Prop,(∃ m,W 0 m σ H)/\∀ i m σ H,W i m σ H ->
   ((F3 z).stop i H/\D.nx σ H)\/((F3 z).go i H/\∃ N:St->Hp->Prop,(∀ σ' H',N σ' H'->∃ m',m' < m/\W (i+1) m' σ' H')/\∀ x H',(F3 z).yld i H x H'->g x σ H' fun σ2 H2=>tb { D with nx:=N,ct:=N,bk:=D.nx } σ2 H2):=by
 refine ⟨fun i m σ H=>m=z.cps.size - i/\i<=z.cps.size/\Pv i σ H,⟨z.cps.size,by simp,Pj _,h0⟩,?_⟩
 rintro i m σ H ⟨rfl,hi,p⟩
 by_cases hlt:i < z.cps.size
 ·refine .inr ⟨hlt,Pv (i+1),fun σ' H' p'=>⟨z.cps.size - (i+1),by omega,rfl,hlt,p'⟩,fun x H' y=>?_⟩
  obtain ⟨e,c,hc,y⟩:=y
  subst e y
  exact hs i c σ _ hc p
 ·have e:i=z.cps.size:=by omega
  subst e
  exact .inl ⟨rfl,hd σ H p⟩
end
section
variable {g:TG}{tt:TT}{te:TE}{σ0:St}{H1:Hp}{D:Addr}{Q:VK}
noncomputable def J2 (g:TG)(tt:TT)(te:TE)(D:Addr)(Nx:List V->St->Hp->Prop)(x:V)(σ:St)(H:Hp):Prop :=
 g x σ H fun σ2 H3=>tt σ2 H3 fun b H4=>if b=true then te σ2 H4 fun y H5=>∃ ys,H5 D=some (.lst ys)/\ys.length < sizeLine/\(∃ zs,upd H5 D (.lst (ys++[y])) D=some (.lst zs)/\Nx zs σ2 (upd H5 D (.lst (ys++[y])))) else ∃ zs,H4 D=some (.lst zs)/\Nx zs σ2 H4
theorem G8 {lo:Int}{n:Nat}(Pv:Nat->List V->St->Hp->Prop)(h0:Pv 0 [] σ0 (upd H1 D (.lst [])))
  (hs:∀ i ys σ H,i < n->H D=some (.lst ys)->Pv i ys σ H->J2 g tt te D (Pv (i+1)) (.int (lo+i)) σ H)
  (hd:∀ ys σ H,H D=some (.lst ys)->Pv n ys σ H->Q (.ref D) H):G4 (Eh lo n) g tt te σ0 H1 D Q:=by
 refine ⟨fun i m σ H=>m=n - i/\i<=n/\∃ ys,H D=some (.lst ys)/\Pv i ys σ H,⟨n,by simp,Pj _,[],Ad,h0⟩,?_⟩
 rintro i m σ H ⟨rfl,hi,ys,hD,p⟩
 by_cases hlt:i < n
 ·refine .inr ⟨hlt,fun σ2 H2=>∃ zs,H2 D=some (.lst zs)/\Pv (i+1) zs σ2 H2,fun σ' H' p'=>⟨n - (i+1),by omega,rfl,hlt,p'⟩,fun x H' y=>?_⟩
  obtain ⟨e,y⟩:=y
  subst e y
  exact hs i ys σ _ hlt hD p
 ·have e:i=n:=by omega
  subst e
  exact .inl ⟨Ol _,hd ys σ H hD p⟩
theorem Nf {z:Str}(Pv:Nat->List V->St->Hp->Prop)(h0:Pv 0 [] σ0 (upd H1 D (.lst [])))
  (hs:∀ i c ys σ H,z.cps.toList[i]?=some c->H D=some (.lst ys)->Pv i ys σ H->J2 g tt te D (Pv (i+1)) (.str ⟨#[c]⟩) σ H)
  (hd:∀ ys σ H,H D=some (.lst ys)->Pv z.cps.size ys σ H->Q (.ref D) H):G4 (F3 z) g tt te σ0 H1 D Q:=by
 refine ⟨fun i m σ H=>m=z.cps.size - i/\i<=z.cps.size/\∃ ys,H D=some (.lst ys)/\Pv i ys σ H,⟨z.cps.size,by simp,Pj _,[],Ad,h0⟩,?_⟩
 rintro i m σ H ⟨rfl,hi,ys,hD,p⟩
 by_cases hlt:i < z.cps.size
 ·refine .inr ⟨hlt,fun σ2 H2=>∃ zs,H2 D=some (.lst zs)/\Pv (i+1) zs σ2 H2,fun σ' H' p'=>⟨z.cps.size - (i+1),by omega,rfl,hlt,p'⟩,fun x H' y=>?_⟩
  obtain ⟨e,c,hc,y⟩:=y
  subst e y
  exact hs i c ys σ _ hc hD p
 ·have e:i=z.cps.size:=by omega
  subst e
  exact .inl ⟨rfl,hd ys σ H hD p⟩
theorem Ko {K:Og}{a:Addr}{xs:List V}(Pv:Nat->List V->St->Hp->Prop)(h0:Pv 0 [] σ0 (upd H1 D (.lst [])))(hl:∀ i ys σ H,i<=xs.length->Pv i ys σ H->SqL K H a xs)
  (hs:∀ i x ys σ H,xs[i]?=some x->H D=some (.lst ys)->Pv i ys σ H->J2 g tt te D (Pv (i+1)) x σ H)
  (hd:∀ ys σ H,H D=some (.lst ys)->Pv xs.length ys σ H->Q (.ref D) H):G4 (Fy K a) g tt te σ0 H1 D Q:=by
 refine ⟨fun i m σ H=>m=xs.length - i/\i<=xs.length/\∃ ys,H D=some (.lst ys)/\Pv i ys σ H,⟨xs.length,by simp,Pj _,[],Ad,h0⟩,?_⟩
 rintro i m σ H ⟨rfl,hi,ys,hD,p⟩
 have q:=hl i ys σ H hi p
 by_cases hlt:i < xs.length
 ·refine .inr ⟨⟨xs,xs[i],q,by simp [hlt]⟩,fun σ2 H2=>∃ zs,H2 D=some (.lst zs)/\Pv (i+1) zs σ2 H2,fun σ' H' p'=>⟨xs.length - (i+1),by omega,rfl,hlt,p'⟩,fun x H' y=>?_⟩
  obtain ⟨e,y⟩:=y
  subst e
  exact hs i x ys σ _ (y xs q) hD p
 ·have e:i=xs.length:=by omega
  subst e
  exact .inl ⟨⟨xs,q,Ol _⟩,hd ys σ H hD p⟩
end
section
variable {X:Cx}
theorem Zek:∀{bs:List Bool}{us:List Value},Vals (bs.map V.bl) us->us=bs.map Value.bool
 | [],_,.nil=>rfl
 | b::bs,_,.cons r t=>by
  cases r
  rw [Zek t]
  rfl
theorem Zit {bs:List Bool}:(O2 bs.length).all (fun i=>bs.getD i true)=bs.all id:=by
 induction bs with
 | nil=>rfl
 | cons b r ih =>
  rw [Ox,List.range_succ_eq_map,Rg,List.all_map,Rg]
  have:((fun i=>(b::r).getD i true) ∘ Nat.succ)=fun i=>r.getD i true:=by
   funext i
   simp
  rw [this,ih]
  rfl
theorem Zm4 (hc:X.calm=true):Bz X (.builtin "all") (fun xs H Q=>∃(p:Addr)(bs:List Bool),xs=[.ref p]/\SqL X.K H p (bs.map V.bl)/\Q (.bl (bs.all id)) H):=by
 intro pins s σ H xs us Q I r h
 obtain ⟨p,bs,rfl,hq,q⟩:=h
 obtain ⟨u,rfl,ru⟩:=r.one
 cases ru
 obtain ⟨its,rv,pl,hz⟩:=I.list hq
 obtain rfl:=Zek rv
 refine call_all_walk (U8 pl.isList ?_)
 have hlt:p < s.heap.objs.size:=by obtain ⟨o,e,_⟩:=pl.isList;exact Os e
 have hl':(s.heap.push { cls:=.type "list_iterator",data:=.fields #[.ref p,rawInt 0] }).IsList p (bs.map Value.bool).toArray:=pl.isList.at fun o e=>Oq _ e
 refine ⟨s.heap.objs.size,_,_,_,_,_,fun i=>bs.getD i true,rfl,Walks.list (A:=X.A.in1) (show X.A.in1.handled=none from I.ok.hd hc) s.heap.objs.size p (Oy hlt) (bs.map Value.bool).toArray,⟨⟨_,O0 _ rfl,rfl,rfl⟩,?_⟩,?_,?_⟩
 ·exact pl.isList.at fun o e=>Oq _ e
 ·intro i v s' Q' E' hv hQ
  have hv':(bs.map Value.bool)[i]?=some v:=by simpa using hv
  rw [Qq] at hv'
  cases e:bs[i]? with
  | none=>rw [e] at hv';cases hv'
  | some b =>
   rw [e] at hv'
   cases hv'
   have:bs.getD i true=b:=by simp [List.getD,e]
   have hQ:Q' (bs.getD i true) s':=hQ
   rw [this] at hQ
   exact Qf hQ
 ·intro h' tk hk
  have I1:Inv X pins σ H { s with heap:=s.heap.push { cls:=.type "list_iterator",data:=.fields #[.ref p,rawInt 0] } }:=I.kept (t':=s.toks) fun b o e=>Oq _ e
  have F:=I.fpOk (Ol s.heap.objs.size) (I.hok.fresh (Ol _))
  obtain ⟨f0,f1,f2,f3,f4,f5⟩:=F
  have I2:Inv X pins σ H { s with heap:=h',toks:=tk }:=Inv.turned (s:={ s with heap:=s.heap.push { cls:=.type "list_iterator",data:=.fields #[.ref p,rawInt 0] } }) (h':=h') (t':=tk) (it:=s.heap.objs.size) I1 (fun b o hb e=>hk b o (by simpa using hb) e) f0 f1 f3 f4 f5
  refine ⟨.bl (bs.all id),H,I2,?_,q⟩
  show Value.bool _=Value.bool _
  have:(bs.map Value.bool).toArray.size=bs.length:=by simp
  rw [this,Zit]
end
theorem Same.upd {H:Hp}{p:Addr}{o:HO}(h:H p=none):Same H (upd H p o):=fun b u e=>by rw [Ah (Bf e h)];exact e
theorem Same.put {H0 H:Hp}{p:Addr}{o:HO}(s:Same H0 H)(h:H p=none):Same H0 (L2.upd H p o):=s.trans (Same.upd h)
theorem Same.over {H0 H:Hp}{p:Addr}{o:HO}(s:Same H0 H)(h:H0 p=none):Same H0 (L2.upd H p o):=fun b u e=>by rw [Ah (Bf e h)];exact s b u e
theorem Same.tup {K:Og}{H H':Hp}{a:Addr}{xs:List V}(e:Same H H')(h:SqT K H a xs):SqT K H' a xs:=by
 rcases h with (h | ⟨o,h⟩) | h
 ·exact .inl (.inl (e _ _ h))
 ·exact .inl (.inr ⟨o,e _ _ h⟩)
 ·exact .inr h
theorem C3 {sc out:Scope}{qual:Str}{n:Nat}{f:Addr}{cd:Value}(hk:sc.kind=.function)(hc:(sc.names.all fun y=>y.2 != .cell)=true)
  (hl:(sc.names.all fun y=>y.2 != .local || sc.names.lookup y.1 == some .local)=true) (hf:(sc.names.all fun y=>y.2 != .free || out.names.lookup y.1 == some .cell)=true):F7 sc (envOfC qual out n f cd) where
 kind:=hk
 nocell:=fun y hy e=>by have:=O4.mp hc y hy;rw [e] at this;cases this
 loc:=fun y hy e=>by
  have:=O4.mp hl y hy
  rw [e] at this
  simpa using this
 free:=fun y hy e=>by
  have h:=O4.mp hf y hy
  rw [e] at h
  have h:out.names.lookup y.1=some .cell:=by simpa using h
  obtain ⟨c,hc⟩:=Mj (n:=n+1) h
  show ((cellsFrom (n+1) out.names []).lookup y.1).isSome=true
  rw [hc]
  rfl
noncomputable def B8 (k:Nat)(cap:List Nat)(σ:St):St:=Oo k none++cap.map fun j=>(σ[j]?).join
theorem Zkk {X:Cx}{scope:Scope}{N:List Str}{k:Nat}{cap:List Nat}{σ:St}(hl:k+cap.length=N.length)
  (h:∀(i j:Nat)(x:Str),cap[i]?=some j->N[k+i]?=some x->X.N[j]?=some x/\scope.names.lookup x=some .free/\(X.env.kindOf x=some .cell\/X.env.kindOf x=some .free)):Fd X scope N σ (B8 k cap σ):=by
 refine ⟨by unfold B8;simp [hl],fun i x v hx hv=>?_⟩
 unfold B8 at hv
 by_cases hi:i < k
 ·rw [Qj (by simpa using hi),List.getElem?_replicate,if_pos hi] at hv
  cases hv
 ·rw [Qi (by simpa using hi),Qm,Qq] at hv
  cases hj:cap[i - k]? with
  | none=>rw [hj] at hv;cases hv
  | some j =>
   rw [hj] at hv
   have hv:(σ[j]?).join=some v:=Ov hv
   obtain ⟨h1,h2,h3⟩:=h (i - k) j x hj (by rw [show k+(i - k)=i by omega];exact hx)
   refine ⟨j,h1,?_,h2,h3⟩
   cases e:σ[j]? with
   | none=>rw [e] at hv;cases hv
   | some o=>rw [e] at hv;exact congrArg some hv
theorem C0 {X:Cx}{scope:Scope}{N:List Str}{k:Nat}{cap:List Nat}(hl:k+cap.length=N.length)
  (h:((cap.zip (N.drop k)).all fun p=>X.N[p.1]? == some p.2 && scope.names.lookup p.2 == some .free && (X.env.kindOf p.2 == some .cell || X.env.kindOf p.2 == some .free))=true):∀ σ,σ.length=X.N.length->Fd X scope N σ (B8 k cap σ):=fun σ _ =>
 Zkk hl fun i j x hj hx=>by
  have m:(j,x)∈cap.zip (N.drop k):=by
   refine Oz (i:=i) ?_
   rw [List.getElem?_zip_eq_some]
   exact ⟨hj,by rw [List.getElem?_drop];exact hx⟩
  have:=O4.mp h _ m
  simp only [Pa,T1,beq_iff_eq] at this
  exact ⟨this.1.1,this.1.2,this.2⟩
theorem Fs {α:Type}{xs:List α}{i:Int}(h0:0<=i)(h1:i < xs.length):∃ v,Bm xs i=some v/\v∈xs:=by
 have hj:i.toNat < xs.length:=by omega
 refine ⟨xs[i.toNat],?_,Rc hj⟩
 have:=Dh (xs:=xs) (j:=i.toNat) (v:=xs[i.toNat]) (by simp [hj])
 rwa [Int.toNat_of_nonneg h0] at this
noncomputable def L8:Expr->Option V
 | .Constant (.str x) _ _=>some (.str x)
 | .Constant (.int i) _ _=>some (.int i)
 | .Constant (.bool b) _ _=>some (.bl b)
 | .Constant .none _ _=>some .non
 | _=>none
noncomputable def Jx:List Expr->Option (List V)
 | []=>some []
 | e::es=>match L8 e,Jx es with
  | some v,some vs=>some (v::vs)
  | _,_=>none
noncomputable def Ig (xs:List V):TA:=fun _ H Q=>Q xs H
theorem Zky {X:Cx}{e:Expr}{v:V}(h:L8 e=some v):PE X e (tC v)/\∀ es,starEach (e::es) X.env=(false,eval e X.env)::starEach es X.env:=by
 unfold L8 at h
 split at h
 ·cases h;exact ⟨Za2,fun _=>rfl⟩
 ·cases h;exact ⟨Zeo,fun _=>rfl⟩
 ·cases h;exact ⟨Zd9,fun _=>rfl⟩
 ·cases h;exact ⟨Zbs,fun _=>rfl⟩
 ·cases h
theorem Zdr {X:Cx}:∀{es:List Expr}{xs:List V},Jx es=some xs->PA X es (Ig xs)
 | [],xs,h=>by
  have h:some []=some xs:=h
  cases h
  exact Za6
 | e::es,xs,h=>by
  unfold Jx at h
  split at h
  ·rename_i v vs h1 h2
   cases h
   obtain ⟨p,hs⟩:=Zky (X:=X) h1
   exact Ze2 p (Zdr h2) (hs es)
  ·cases h
structure Ao (P:Program)(w:World)(K:Og)(mg:Str->Option Value)(base:Heap)(k:Nat)(x:Str)(ps:List Str)(sp:Sp):Prop where
 ex:∃(f:Addr)(fd:FuncData),Ar P w K mg base As k f fd ps sp/\mg x=some (.ref f)/\P3 K (.ref f)=true/\Binds K fd ps []
section
variable {X:Cx}{k:Nat}{x:Str}{ps:List Str}{sp:Sp}{p pos:Pos}{e:Expr}{es:List Expr}{t:TA}
theorem Zpm (C:Ao X.prog X.w X.K X.mg X.base k x ps sp)(hr:Room k X.A)(ha:PA X (e::es) t)(hg:Gl X x:=by rfl)(hdb:(x == ("__debug__" : Str))=false:=by decide)
  (he:starEach (e::es) X.env=(false,eval e X.env)::starEach es X.env:=by rfl) (hpl:(backTo pos (starEach es X.env)).any (·.1)=false:=by rfl):PE X (.Call (.Name x p) (e::es) [] pos) (Es sp [] E0 t):=by
 obtain ⟨f,fd,F,hm,hk,hb⟩:=C.ex
 exact Zip F hr hg hm hk hb .nil Za8 ha hdb he hpl
end
end L2
namespace L2
open PySem
theorem Zme {x:V}{u:Value}(h:Ju u=some x):RelV x u:=by
 cases u <;> simp only [Ju] at h <;> first | (cases h;first | rfl | exact ⟨_,rfl⟩) | cases h
noncomputable def Fq:List Value->Option (List V)
 | []=>some []
 | u::r=>match Ju u,Fq r with
  | some x,some xs=>some (x::xs)
  | _,_=>none
theorem Zbr:∀{us:List Value}{xs:List V},Fq us=some xs->Vals xs us
 | [],xs,h=>by
  have h:some []=some xs:=h
  cases h
  exact .nil
 | u::r,xs,h=>by
  unfold Fq at h
  split at h
  ·rename_i x ys h1 h2
   cases h
   exact .cons (Zme h1) (Zbr h2)
  ·cases h
theorem Mf {K:Og}{a:Addr}{od:Option Addr}{its:Array Value}{n:Nat}{sl:Array (Option Value)}{xs:List V}(l:K.lookup a=some ⟨.type "tuple",od,.seq its n,sl⟩)(h:Fq its.toList=some xs)(hz:xs.length<=1000):∀ H,SqT K H a xs:=fun H=>by
 have v:=Zbr h
 refine .inr ⟨_,its,n,l,rfl,rfl,?_,v⟩
 have e:=v.length
 have b:1000<=sizeLine:=by decide
 have e2:its.toList.length=its.size:=Rr
 omega
theorem Zhr {P:Program}{w:World}{K:Og}{mg:Str->Option Value}{base:Heap}{k:Nat}{x:Str}{ps:List Str}{sp:Sp}{f:Addr}{fd:FuncData}(F:Ar P w K mg base As k f fd ps sp)(m:mg x=some (.ref f))(kp:P3 K (.ref f)=true)(b:Binds K fd ps []):Ao P w K mg base k x ps sp:=⟨f,fd,F,m,kp,b⟩
section
variable {P:Program}{w:World}{K:Og}{mg:Str->Option Value}{base:Heap}
end
end L2
set_option autoImplicit true
namespace L2
open PySem PySem.Spec PyProof.Rows
structure QE (X:Cx)(e:Expr)(t:TE):Prop where
 run:PE X e t
structure QT (X:Cx)(e:Expr)(t:TT):Prop where
 run:PT X e t
structure QW (X:Cx)(e:Expr)(t:TT):Prop where
 run:PW X e t
structure QA (X:Cx)(es:List Expr)(t:TA):Prop where
 run:PA X es t
structure QS (X:Cx)(st:Stmt)(t:TS):Prop where
 run:PS X st t
structure D1 (X:Cx)(sts:List Stmt)(t:TS):Prop where
 run:PSs X sts t
structure QG (X:Cx)(e:Expr)(g:TG):Prop where
 run:PG X e g
structure Gv (X:Cx)(es:List Expr)(g:Ct):Prop where
 run:PGs X es g
structure QI (X:Cx)(tg iter:Expr)(wi:TI):Prop where
 run:PI X tg iter wi
structure QC (X:Cx)(op:CmpOp)(a b:Expr)(t:TE):Prop where
 run:PC X op a b t
structure QO (X:Cx)(e:Option Expr)(t:TO):Prop where
 run:PO X e t
structure QTs (X:Cx)(ifs:List Expr)(t:TT):Prop where
 run:Fp X ifs t
theorem Ac {i j pos}:QE X (.Constant (.int i) j pos) (tC (.int i)):=⟨Zeo⟩
theorem Di {b j pos}:QE X (.Constant (.bool b) j pos) (tC (.bl b)):=⟨Zd9⟩
theorem F2 {j pos}:QE X (.Constant .none j pos) (tC .non):=⟨Zbs⟩
theorem Au {x j pos}:QE X (.Constant (.str x) j pos) (tC (.str x)):=⟨Za2⟩
theorem Gb {x:Str}{v:V}{u:Value}{pos:Pos}(hg:Gl X x)(hm:X.mg x=none)(hv:bootBuiltins x=some u)(r:RelV v u)(hn:x ≠ "__name__" := by decide)(hd:(x == ("__debug__" : Str))=false:=by decide):QE X (.Name x pos) (tC v):=⟨Zo9 hg hm hv r hn hd⟩
theorem Aq {op:Operator}{r:R2}(ho:OpR X (binaryOp op) r)(ha:QE X a ta)(hb:QE X b tb):QE X (.BinOp a op b pos) (Bp r ta tb):=⟨Zk5 ho ha.run hb.run⟩
theorem Od {op:UnaryOp}{r:V->Hp->VK->Prop}(ho:UnR X (unaryOp op) r)(ha:QE X a ta):QE X (.UnaryOp op a pos) (tUn r ta):=⟨Ziz ho ha.run⟩
theorem Zh5 {op:CmpOp}{t:TE}(h:QC X op a b t)(h1:behindInMarks op b=false:=by first | exact Ze3 _ (by decide) (by decide) | rfl):QE X (.Compare a [op] [b] pos) t:=⟨Zkn h.run h1⟩
theorem Bx {op:CmpOp}{r:R2}(ho:OpR X (compareOp op) r)(ha:QE X a ta)(hb:QE X b tb)(hm:behindInMarks op b=false):QE X (.Compare a [op] [b] pos) (Bp r ta tb):=⟨Zh2 ho ha.run hb.run hm⟩
theorem A0 {op:CmpOp}{r:R2}(ho:OpR X (compareOp op) r)(ha:QE X a ta)(hb:QE X b tb)(hm:behindInMarks op b=false):QT X (.Compare a [op] [b] pos) (Dp (Bp r ta tb)):=⟨Zoa ho ha.run hb.run hm⟩
theorem Zed {op op':CmpOp}{r r':R2}(ho:OpR X (compareOp op) r)(ho':OpR X (compareOp op') r')(ha:QE X a ta)(hb:QE X b tb)(hc:QE X c tc)(hm:lastMarks [op,op'] [b,c]=false:=by with_unfolding_all rfl):QE X (.Compare a [op,op'] [b,c] pos) (Ix r r' ta tb tc):=⟨Zko ho ho' ha.run hb.run hc.run hm⟩
theorem Ld {op op':CmpOp}{r r':R2}(ho:OpR X (compareOp op) r)(ho':OpR X (compareOp op') r')(ha:QE X a ta)(hb:QE X b tb)(hc:QE X c tc)(hm:lastMarks [op,op'] [b,c]=false:=by with_unfolding_all rfl):QT X (.Compare a [op,op'] [b,c] pos) (Dp (Ix r r' ta tb tc)):=⟨Zh1 ho ho' ha.run hb.run hc.run hm⟩
theorem Dz {e:Expr}{t:TE}(h:QE X e t)(he:∀ whole,isTrue e X.env whole=(do let v <- whole;standAt e.pos;holding [v] (truthy v)):=by intro _;rfl):QT X e (tB t):=⟨Zqi h.run he⟩
theorem Jb (ha:QT X a tA):QW X (.BoolOp .And [a] pos) tA:=⟨pw_and1 ha.run⟩
theorem Jo (ha:QT X a tA):QW X (.BoolOp .Or [a] pos) tA:=⟨pw_or1 ha.run⟩
theorem Gi {rest:List Expr}(ha:QT X a tA)(hb:QW X (.BoolOp .And (b::rest) pos) tB'):QW X (.BoolOp .And (a::b::rest) pos) (Ir tA tB'):=⟨pw_and ha.run hb.run⟩
theorem Iy {rest:List Expr}(ha:QT X a tA)(hb:QW X (.BoolOp .Or (b::rest) pos) tB'):QW X (.BoolOp .Or (a::b::rest) pos) (tOr tA tB'):=⟨pw_or ha.run hb.run⟩
theorem Ei (ha:QT X a tA):QT X (.UnaryOp .Not a pos) (Mz tA):=⟨Zo2 ha.run⟩
theorem D0 {op}{t:TE}(h:QE X a t):QE X (.BoolOp op [a] pos) t:=⟨Zl5 h.run⟩
theorem Dl {rest:List Expr}(ha:QE X a ta)(hb:QE X (.BoolOp .And (b::rest) pos) tb):QE X (.BoolOp .And (a::b::rest) pos) (Ie ta tb):=⟨Zjw ha.run hb.run⟩
theorem Zfa {rest:List Expr}(ha:QE X a ta)(hb:QE X (.BoolOp .Or (b::rest) pos) tb):QE X (.BoolOp .Or (a::b::rest) pos) (N0 ta tb):=⟨Zlg ha.run hb.run⟩
theorem Zab (ha:QE X a ta):QE X (.UnaryOp .Not a pos) (Nj ta):=⟨Zf5 ha.run⟩
theorem A3  : D1 X [] Gp:=⟨Zmg⟩
theorem Ae {st:Stmt}{rest:List Stmt}{t u:TS}(h1:QS X st t)(h2:D1 X rest u):D1 X (st::rest) (F8 t u):=⟨Zlp h1.run h2.run⟩
theorem Af {st:Stmt}{t:TS}(h1:QS X st t):D1 X [st] t:=⟨Zlc h1.run⟩
theorem Eu {e:Expr}{te:TE}(he:QE X e te)(hs:swapsWith e none pos.line X.env=pure false:=by rfl):QS X (.Expr e pos) (Mg te):=⟨Zi4 he.run hs⟩
theorem Aj {e:Expr}{te:TE}(he:QE X e te):QS X (.Return (some e) pos) (D8 te):=⟨Zpe he.run⟩
theorem A2 {t u:TS}{c:Expr}{a b:List Stmt}{tc:TT}(hc:QT X c tc)(ha:D1 X a t)(hb:D1 X b u):QS X (.If c a b pos) (F6 tc t u):=⟨Zir hc.run ha.run hb.run⟩
theorem D6  : Gv X [] M5:=⟨Zi1⟩
theorem Bt {e:Expr}{es:List Expr}{t:TG}{u:Ct}(h1:QG X e t)(h2:Gv X es u)(hs:(assignEach (e::es) X.env).map (·.2)=assign e X.env::(assignEach es X.env).map (·.2):=by rfl):Gv X (e::es) (L7 t u):=⟨Zqj h1.run h2.run hs⟩
theorem Ax {i:Nat}{x:Str}(hN:X.N.Nodup)(hi:X.N[i]?=some x)(hx:Ew X.env.scope x)(hf:X.fn x=true\/X.env.scope.names.lookup x=some .local:=by first | exact .inl rfl | exact .inr rfl | assumption):QG X (.Name x pos) (D9 i):=⟨Zk8 hN hi hx hf⟩
theorem Zn6 {es:List Expr}{k:Nat}{t:Ct}{n:Nat}(hc:X.calm=true)(h:Gv X es t)(hn:(assignEach es X.env).length=n:=by rfl)(hst:(assignEach es X.env).findIdx? (·.1)=none:=by rfl):QG X (.Tuple es k pos) (Kq X.K n t):=⟨Zp7 hc h.run hn hst⟩
theorem N2 {o i:Expr}{to ti:TE}{t:Iq}(ho:QE X o to)(hi:QE X i ti)(hs:Lv X t)(ha:∀ v,assign (.Subscript o i pos) X.env v=(do
   let ov <- holding [v] (eval o X.env)
   let iv <- holding [v,ov] (eval i X.env)
   standAt pos
   holding [v,ov,iv] (setItem ov iv v)
   release [v,ov,iv] []):=by intro _;rfl):QG X (.Subscript o i pos) (Nc to ti t):=⟨Zjg ho.run hi.run hs ha⟩
theorem E7 {tg e:Expr}{te:TE}{g:TG}(he:QE X e te)(hg:QG X tg g)(hs:swapsWithSole [tg] e pos.line X.env=pure false:=by rfl)(hw:swappedStores [tg] e X.env=pure none:=by rfl)(h1:(assignEach [tg] X.env).map (·.2)=[assign tg X.env]:=by rfl):QS X (.Assign [tg] e pos) (Em te g):=⟨Zp6 he.run hg.run hs hw h1⟩
theorem L5 {i:Nat}{x:Str}{e:Expr}{te:TE}{pos':Pos}(hN:X.N.Nodup)(hi:X.N[i]?=some x)(hx:Ew X.env.scope x)(he:QE X e te)(hs:swapsWith e (some (.Name x pos')) pos.line X.env=pure false:=by rfl)(hf:X.fn x=true\/X.env.scope.names.lookup x=some .local:=by first | exact .inl rfl | exact .inr rfl | assumption):QS X (.Assign [.Name x pos'] e pos) (Em te (D9 i)):=⟨Zjt hN hi hx he.run hs hf⟩
theorem J9 {c:Expr}{body:List Stmt}{tc:TT}{tb:TS}(hp:PassesOwn (model X.prog X.w) X.A X.env X.xe)(hc:QT X c tc)(hb:D1 X body tb):QS X (.While c body [] pos) (M7 tc tb):=⟨Zht hp hc.run hb.run⟩
theorem Cr {a:Expr}{ta:TA}{p pos:Pos}(hg:Gl X "range")(hm:X.mg "range" = none)(ha:QA X [a] ta)(hs:starEach [a] X.env=[(false,eval a X.env)]:=by rfl):QI X tg (.Call (.Name "range" p) [a] [] pos) (Zan ta):=⟨Znm hg hm ha.run hs⟩
theorem Cj {iter:Expr}{body:List Stmt}{wi:TI}{g:TG}{tb:TS}{pos:Pos}(hp:PassesOwn (model X.prog X.w) X.A X.env X.xe)(hc:X.calm=true)(hi:QI X tg iter wi)(hg:QG X tg g)(hb:D1 X body tb)(hs:∀ x,foldedSetIterable iter X.env x=pure x:=by intro _;rfl):QS X (.For tg iter body [] pos) (Nw wi g tb):=⟨Zi5 hp hc hi.run hg.run hb.run hs⟩
theorem Zpl (ha:QE X o ta)(hv:QE X value tv)(hs:swapsWith value (some (.Attribute o f pos')) pos.line X.env=pure false):QS X (.Assign [.Attribute o f pos'] value pos) (Lq X.K ta tv f):=⟨Zi7 ha.run hv.run hs⟩
theorem Ab  : QA X [] Ce:=⟨Za6⟩
theorem Aa (ha:QE X e te)(hr:QA X es t)(hs:starEach (e::es) X.env=(false,eval e X.env)::starEach es X.env:=by rfl):QA X (e::es) (Br te t):=⟨Ze2 ha.run hr.run hs⟩
theorem Az {x1}(h:QA X es t):QE X (.Tuple es x1 pos) (E8 t):=⟨Zho h.run⟩
theorem B0 (h:QA X es t):QE X (.List es pos) (Kg t):=⟨Zo0 h.run⟩
theorem Ai (C:Ao X.prog X.w X.K X.mg X.base k x ps sp)(hr:Room k X.A)(ha:QA X (e::es) t)(hg:Gl X x:=by rfl)(hdb:(x == ("__debug__" : Str))=false:=by decide)(he:starEach (e::es) X.env=(false,eval e X.env)::starEach es X.env:=by rfl)(hpl:(backTo pos (starEach es X.env)).any (·.1)=false:=by rfl):QE X (.Call (.Name x p) (e::es) [] pos) (Es sp [] E0 t):=⟨Zpm C hr ha.run hg hdb he hpl⟩
theorem Ba {id:String}(hc:Bz X (.builtin id) r)(hg:Gl X x)(hm:X.mg x=none)(hv:bootBuiltins x=some (.builtin id))(ha:QA X (e::es) t)(hn:x ≠ "__name__" := by decide)(hdb:(x == ("__debug__" : Str))=false:=by decide)(he:starEach (e::es) X.env=(false,eval e X.env)::starEach es X.env:=by rfl)(hpl:(backTo pos (starEach es X.env)).any (·.1)=false:=by rfl):QE X (.Call (.Name x p) (e::es) [] pos) (E5 r t):=⟨Zmx hc hg hm hv ha.run hn hdb he hpl⟩
theorem Fn {T:String}(hc:Bz X (.type T) r)(hg:Gl X x)(hm:X.mg x=none)(hv:bootBuiltins x=some (.type T))(ha:QA X (e::es) t)(hn:x ≠ "__name__" := by decide)(hdb:(x == ("__debug__" : Str))=false:=by decide)(he:starEach (e::es) X.env=(false,eval e X.env)::starEach es X.env:=by rfl)(hpl:(backTo pos (starEach es X.env)).any (·.1)=false:=by rfl):QE X (.Call (.Name x p) (e::es) [] pos) (E5 r t):=⟨Zot hc hg hm hv ha.run hn hdb he hpl⟩
theorem J1  : QO X none Lj:=⟨Zpo⟩
theorem Ku (h:QE X e te):QO X (some e) (Mv te):=⟨Zpa h.run⟩
theorem J4 {lo hi:Option Expr}{r:V->Option Int->Option Int->Hp->VK->Prop}(hr:SlR X r)(he:QE X e te)(hl:QO X lo tl)(hu:QO X hi th):QE X (.Subscript e (.Slice lo hi none p2) pos) (tSl r te tl th):=⟨Zps hr he.run hl.run hu.run⟩
theorem Kd {r:R2}(hr:IxR X r)(ha:QE X a ta)(hb:QE X b tb)(hs:Lw b):QE X (.Subscript a b pos) (Bp r ta tb):=⟨Zor hr ha.run hb.run hs⟩
theorem Zhi {T id:String}(pa:PlainAttrs T)(slot:Slot T name id)(hty:typeOf (.builtin id)=pure (.type "method_descriptor"))(hm:Fe X id r)(ho:QE X o to)(ha:QA X (e::es) t)(hbase:attributeBase o name X.env (eval o X.env)=eval o X.env:=by rfl)(hfew:((backTo cpos (starEach (e::es) X.env)).all (fun x=>!x.1) && (backToKw cpos (keywordEach [] X.env)).all (fun x=>x.1.isSome)
   && decide ((e::es).length+([]:List Keyword).length+(if ([]:List Keyword).isEmpty then 0 else 1) < 30))=true:=by rfl) (hline:(apos.endLine == cpos.line)=true:=by rfl) (hs:starEach (e::es) X.env=(false,eval e X.env)::starEach es X.env:=by rfl) (hplain:(backTo cpos (starEach es X.env)).any (·.1)=false:=by rfl):QE X (.Call (.Attribute o name apos) (e::es) [] cpos) (tBM X.K T r to t):=⟨Zl1 pa slot hty hm ho.run ha.run hbase hfew hline hs hplain⟩
theorem Zm8 {T id:String}(pa:PlainAttrs T)(slot:Slot T name id)(hty:typeOf (.builtin id)=pure (.type "method_descriptor"))(hm:Fe X id r)(ho:QE X o to)(hbase:attributeBase o name X.env (eval o X.env)=eval o X.env:=by rfl)(hline:(apos.endLine == cpos.line)=true:=by rfl):QE X (.Call (.Attribute o name apos) [] [] cpos) (Hz X.K T r to):=⟨Znw pa slot hty hm ho.run hbase hline⟩
theorem Dv (hc:X.calm=true)(S:F7 scope X.env)(hi:QI X target iter wi)(T:∀ σ,σ.length=X.N.length->Fd X scope N σ (σ0 σ))(hg:∀ C s H fp,QG (B9 X scope C N s H fp) target g)(ht:∀ C s H fp,QTs (B9 X scope C N s H fp) ifs tt)(he:∀ C s H fp,QE (B9 X scope C N s H fp) elt te)(hs:∀ x,foldedSetIterable iter X.env x=pure x:=by intro _;rfl):QE X (.ListComp elt [⟨target,iter,ifs,0⟩] scope pos) (Jd wi σ0 g tt te):=⟨Zg5 hc S hi.run T (fun C s H fp=>(hg C s H fp).run) (fun C s H fp=>(ht C s H fp).run) (fun C s H fp=>(he C s H fp).run) hs⟩
theorem Mm {i:Nat}{y:Str}{py spos:Pos}(hc:X.calm=true)(S:F7 scope X.env)(hi:QI X target iter wi)(T:∀ σ,σ.length=X.N.length->Fd X scope N σ (σ0 σ))(hg:∀ C s H fp,QG (B9 X scope C N s H fp) target g)(ht:∀ C s H fp,QTs (B9 X scope C N s H fp) ifs tt)(he:∀ C s H fp,QE (B9 X scope C N s H fp) elt te)(hN:X.N.Nodup)(hy:X.N[i]?=some y)(hx:Ew X.env.scope y)(hsw:swapsWith (.ListComp elt [⟨target,iter,ifs,0⟩] scope pos) (some (.Name y py)) spos.line X.env=pure true:=by rfl)(hf:X.fn y=true\/X.env.scope.names.lookup y=some .local:=by first | exact .inl rfl | exact .inr rfl | assumption)(hs:∀ x,foldedSetIterable iter X.env x=pure x:=by intro _;rfl):QS X (.Assign [.Name y py] (.ListComp elt [⟨target,iter,ifs,0⟩] scope pos) spos) (Em (Jd wi σ0 g tt te) (D9 i)):=⟨Zli hc S hi.run T (fun C s H fp=>(hg C s H fp).run) (fun C s H fp=>(ht C s H fp).run) (fun C s H fp=>(he C s H fp).run) hN hy hx hsw hf hs⟩
theorem C9 {X:Cx}:QTs X [] K1:=⟨Zl6⟩
theorem Zc3 {X:Cx}{c:Expr}{t:TT}(h:QT X c t):QTs X [c] t:=⟨Zmw h.run⟩
theorem Zkd {j pos'}(ha:QE X a ta):QC X .Is a (.Constant .none j pos') (Mc ta):=⟨Zoq ha.run⟩
theorem Ky {X:Cx}{es:List Expr}{xs:List V}(h:Jx es=some xs):QA X es (Ig xs):=⟨Zdr h⟩
theorem qv {X:Cx}(i:Nat){x:Str}{pos:Pos}(hN:X.N[i]?=some x:=by rfl)(hv:Vis X.env.scope x:=by first | exact Or.inl rfl | exact Or.inr (Or.inl rfl) | exact Or.inr (Or.inr rfl))(hd:(x == ("__debug__" : Str))=false:=by decide)
  (hcd:(x == ("__classdict__" : Str))=false:=by decide):QE X (.Name x pos) (Be i):=⟨Zm2 hN hv hd hcd⟩
theorem QW.qt {X:Cx}{e:Expr}{t:TT}(h:QW X e t):QT X e t:=⟨h.run.pt⟩
section
variable {P:Program}{w:World}{K:Og}{mg:Str->Option Value}{base:Heap}
theorem Fun.okq {x qual:Str}{st:Stmt}{f:Addr}{fd:FuncData}{N ps:List Str}{k:Nat}{sp:Sp}(F:Fun K x qual st f fd)(S:A1 N ps (An st))(len:∀ vs H Q E,sp vs H Q E->vs.length=ps.length)
  (hbody:∀(cdv:Value)(A:Around)(outer:List Env)(s:Shared)(H:Hp)(vs:List V)(Q:VK)(E:XK),Room k (A.deeper (envOfC qual (An st) s.heap.objs.size f cdv))->sp vs H Q E ->
   ∃ t,D1 (E6 As P w K mg base N qual (An st) f cdv A outer s H E).nox (Cf st) t/\t { nx:=fun _ H'=>Q .non H',rt:=Q } (start N vs) H):Ar P w K mg base As (k+1) f fd ps sp :=
 F.ok S len fun cdv A outer s H vs Q E hr h=>by
  obtain ⟨t,q,r⟩:=hbody cdv A outer s H vs Q E hr h
  exact ⟨t,q.run,r⟩
end
section
variable {X:Cx}
noncomputable def Zpz:R2:=fun x y H Q=>∃ i j,x=.str i/\y=.str j/\i.length+j.length<=sizeLine/\Q (.str (i++j)) H
noncomputable def Zd4 (K:Og):R2:=fun x y H Q=>∃ a b xs ys,x=.ref a/\y=.ref b/\SqT K H a xs/\SqT K H b ys/\xs.length+ys.length<=sizeLine /\
 ∀ r H',Same H H'->SqT K H' r (xs++ys)->Q (.ref r) H'
theorem Zmc:OpR X (binaryOp .Add) (Zd4 X.K):=by
 intro pins s σ H x y v u Q I rx ry h
 obtain ⟨a,b,xs,ys,rfl,rfl,ha,hb,hz,q⟩:=h
 by_cases hx:xs=[]
 ·subst hx
  cases rx
  cases ry
  obtain ⟨its,r1,p1,_⟩:=I.tuple ha
  obtain ⟨its2,r2,p2,_⟩:=I.tuple hb
  cases r1
  obtain ⟨⟨cls,dd,data,sl⟩,ho,hc,n,hd⟩:=id p1
  obtain ⟨⟨cls2,dd2,data2,sl2⟩,ho2,hc2,n2,hd2⟩:=id p2
  simp only at hc hd hc2 hd2
  subst hc hd hc2 hd2
  exact Ub ⟨_,ho,rfl⟩ ⟨_,ho2,rfl⟩ Tu T9 Th Tf (Tc _ _)
   (tuple_addW0 a b _ _ n n2 dd dd2 sl sl2 (by simp)) ⟨ho,ho2,⟨.ref b,H,I,rfl,q b H (Same.refl H) hb⟩⟩
 ·refine Zc9 pins s σ H _ _ v u Q I rx ry ⟨a,b,xs,ys,rfl,rfl,ha,hb,hx,hz,fun e=>?_,fun _ p hp=>q p _ (fun c o e=>by rw [Ah (Bf e hp)];exact e) (.inl (.inl Ad))⟩
  subst e
  exact q a H (Same.refl H) (by rw [Pt];exact ha)
noncomputable def Dg (K:Og):R2:=fun x y H Q=>Dj (fun i j=>.int (i+j)) x y H Q\/Zpz x y H Q\/rCat x y H Q\/Zd4 K x y H Q
theorem op_addA:OpR X (binaryOp .Add) (Dg X.K):=op_add.or (op_add_str.or (op_cat.or Zmc))
theorem s_add_int {K:Og}{i j:Int}{H:Hp}{Q:VK}(h:Q (.int (i+j)) H):Dg K (.int i) (.int j) H Q:=.inl ⟨i,j,rfl,rfl,h⟩
theorem Zd0 {K:Og}{i j:Str}{H:Hp}{Q:VK}(hl:i.length+j.length<=sizeLine)(h:Q (.str (i++j)) H):Dg K (.str i) (.str j) H Q:=.inr (.inl ⟨i,j,rfl,rfl,hl,h⟩)
theorem Zhc {K:Og}{a b:Addr}{xs ys:List V}{H:Hp}{Q:VK}(ha:H a=some (.lst xs))(hb:H b=some (.lst ys))(hz:xs.length+ys.length<=sizeLine)(h:∀ p,H p=none->Q (.ref p) (upd H p (.lst (xs++ys)))):Dg K (.ref a) (.ref b) H Q:=.inr (.inr (.inl ⟨a,b,xs,ys,rfl,rfl,ha,hb,hz,h⟩))
theorem Kl {K:Og}{a b:Addr}{xs ys:List V}{H:Hp}{Q:VK}(ha:SqT K H a xs)(hb:SqT K H b ys)(hz:xs.length+ys.length<=sizeLine)(h:∀ r H',Same H H'->SqT K H' r (xs++ys)->Q (.ref r) H'):Dg K (.ref a) (.ref b) H Q:=.inr (.inr (.inr ⟨a,b,xs,ys,rfl,rfl,ha,hb,hz,h⟩))
noncomputable def Zaq:R2:=fun x y H Q=>rI CMul (fun i j=>.int (i * j)) x y H Q\/rRep x y H Q
theorem Ee:OpR X (binaryOp .Mult) Zaq:=op_mul.or Zpc
theorem s_mul_l {i j:Int}{H:Hp}{Q:VK}(h1:-(2 ^ 64) < i)(h2:i < 2 ^ 64)(h:Q (.int (i * j)) H):Zaq (.int i) (.int j) H Q:=.inl ⟨i,j,rfl,rfl,.inl ⟨h1,h2⟩,h⟩
theorem s_mul_r {i j:Int}{H:Hp}{Q:VK}(h1:-(2 ^ 64) < j)(h2:j < 2 ^ 64)(h:Q (.int (i * j)) H):Zaq (.int i) (.int j) H Q:=.inl ⟨i,j,rfl,rfl,.inr ⟨h1,h2⟩,h⟩
theorem s_rI {C:Int->Int->Prop}{g:Int->Int->V}{i j:Int}{H:Hp}{Q:VK}(hc:C i j)(h:Q (g i j) H):rI C g (.int i) (.int j) H Q:=⟨i,j,rfl,rfl,hc,h⟩
theorem s_rI0 {g:Int->Int->V}{i j:Int}{H:Hp}{Q:VK}(h:Q (g i j) H):Dj g (.int i) (.int j) H Q:=⟨i,j,rfl,rfl,h⟩
theorem s_rU {g:Int->V}{i:Int}{H:Hp}{Q:VK}(h:Q (g i) H):rU g (.int i) H Q:=⟨i,rfl,h⟩
noncomputable def rLtA:R2:=fun x y H Q=>Dj (fun i j=>.bl (decide (i < j))) x y H Q\/∃ i j,x=.str i/\y=.str j/\Q (.bl (decide (i.cps.toList < j.cps.toList))) H
theorem Zo3:OpR X (compareOp .Lt) rLtA:=op_lt.or Zl3
noncomputable def Zag:R2:=fun x y H Q=>Dj (fun i j=>.bl (decide (i<=j))) x y H Q\/∃ i j,x=.str i/\y=.str j/\Q (.bl (!(decide (j.cps.toList < i.cps.toList)))) H
theorem Db:OpR X (compareOp .LtE) Zag:=op_le.or Zjm
theorem s_lt {i j:Int}{H:Hp}{Q:VK}(h:Q (.bl (decide (i < j))) H):rLtA (.int i) (.int j) H Q:=.inl ⟨i,j,rfl,rfl,h⟩
theorem s_le {i j:Int}{H:Hp}{Q:VK}(h:Q (.bl (decide (i<=j))) H):Zag (.int i) (.int j) H Q:=.inl ⟨i,j,rfl,rfl,h⟩
noncomputable def Zat (neg:Bool):R2:=fun x y H Q=>∃(c:Nat)(j:Str),x=.str ⟨#[c]⟩/\y=.str j/\Q (.bl (if neg then !decide (c∈j.cps.toList) else decide (c∈j.cps.toList))) H
theorem Zlf:OpR X (compareOp .In) (Zat false):=Ziv
theorem Zf7:OpR X (compareOp .NotIn) (Zat true):=Zni
noncomputable def Fu (K:Og)(neg:Bool):R2:=fun x y H Q=>rIn K neg x y H Q\/Zat neg x y H Q
theorem Zm9:OpR X (compareOp .In) (Fu X.K false):=op_in_seq.or Zlf
theorem Zlq:OpR X (compareOp .NotIn) (Fu X.K true):=op_notIn_seq.or Zf7
theorem D3 {K:Og}{neg:Bool}{x:V}{p:Addr}{xs:List V}{H:Hp}{Q:VK}(hq:SqL K H p xs\/SqT K H p xs)(hx:Ca x=true)(hxs:xs.all Ca=true)(h:Q (.bl (if neg then !Cv x xs else Cv x xs)) H):Fu K neg x (.ref p) H Q:=.inl ⟨p,xs,rfl,hq,hx,hxs,h⟩
noncomputable def Ls (K:Og):V->Option Int->Option Int->Hp->VK->Prop:=fun x lo hi H Q=>K9 K x lo hi H Q\/L6 x lo hi H Q\/rSlT K x lo hi H Q
theorem Zm3:SlR X (Ls X.K):=sl_list.or (sl_str.or Zc4)
theorem Zkf {K:Og}{z:Str}{lo hi:Option Int}{H:Hp}{Q:VK}(hl:z.length<=sizeLine)(h:Q (.str (P4 z lo hi)) H):Ls K (.str z) lo hi H Q:=.inr (.inl ⟨z,rfl,hl,h⟩)
theorem Bj {K:Og}{a:Addr}{xs:List V}{i:Int}{v:V}{H:Hp}{Q:VK}(ha:SqL K H a xs)(hv:Bm xs i=some v)(h:Q v H):Ep K (.ref a) (.int i) H Q:=.inl ⟨a,xs,i,v,rfl,rfl,ha,hv,h⟩
theorem A6 {K:Og}{a:Addr}{xs:List V}{i:Int}{v:V}{H:Hp}{Q:VK}(ha:SqT K H a xs)(hv:Bm xs i=some v)(h:Q v H):Ep K (.ref a) (.int i) H Q:=.inr (.inl ⟨a,xs,i,v,rfl,rfl,ha,hv,h⟩)
theorem Kc {K:Og}{z:Str}{i:Int}{c:Nat}{H:Hp}{Q:VK}(hl:z.length<=sizeLine)(hv:Bm z.cps.toList i=some c)(h:Q (.str ⟨#[c]⟩) H):Ep K (.str z) (.int i) H Q:=.inr (.inr ⟨z,i,c,rfl,rfl,hl,hv,h⟩)
noncomputable def E4 (K:Og):List V->Hp->VK->Prop:=fun xs H Q=>∃ x n,xs=[x]/\LenV K x H n/\Q (.int n) H
theorem Zji:Bz X (.builtin "len") (E4 X.K):=Zku
theorem Ds {K:Og}{a:Addr}{xs:List V}{H:Hp}{Q:VK}(ha:SqL K H a xs)(h:Q (.int xs.length) H):E4 K [.ref a] H Q:=⟨_,_,rfl,.inl ⟨xs,ha,rfl⟩,h⟩
theorem G6 {K:Og}{a:Addr}{xs:List V}{H:Hp}{Q:VK}(ha:SqT K H a xs)(h:Q (.int xs.length) H):E4 K [.ref a] H Q:=⟨_,_,rfl,.inr ⟨xs,ha,rfl⟩,h⟩
theorem Ht {K:Og}{z:Str}{H:Hp}{Q:VK}(hl:z.length<=sizeLine)(h:Q (.int z.length) H):E4 K [.str z] H Q:=⟨_,_,rfl,⟨hl,rfl⟩,h⟩
structure Et (mg:Str->Option Value)(x:Str)(v:V):Prop where
 ex:∃ u,mg x=some u/\RelV v u
theorem Ft {x:Str}{v:V}{pos:Pos}(G:Et X.mg x v)(hg:Gl X x:=by rfl)(hd:(x == ("__debug__" : Str))=false:=by decide):QE X (.Name x pos) (tC v):=by
 obtain ⟨u,h,r⟩:=G.ex
 exact ⟨Zlm hg h r hd⟩
noncomputable def Zai (K:Og)(tl:TE):TI:=fun σ H R=>tl σ H fun x H1=>(∃ a,x=.ref a/\(∃ xs,SqL K H1 a xs)/\R (Fy K a) H1)\/(∃ a,x=.ref a/\(∃ xs,SqT K H1 a xs)/\R (Ga K a) H1)\/∃ z,x=.str z/\R (F3 z) H1
theorem Zhe {tg l:Expr}{tl:TE}(hl:QE X l tl):QI X tg l (Zai X.K tl):=by
 refine ⟨fun pins s σ H R I h=>?_⟩
 refine Ag (hl.run pins s σ H _ I h) fun v s1 zq=>?_
 obtain ⟨x,H1,I1,r1,q1⟩:=zq
 have one:∀(l:Expr)(t:TE),PE X l t->True:=fun _ _ _=>trivial
 rcases q1 with ⟨a,e,⟨xs,hq⟩,q⟩ | ⟨a,e,⟨xs,hq⟩,q⟩ | ⟨z,e,q⟩
 ·subst e
  cases r1
  obtain ⟨its,rv,p,hz⟩:=I1.list hq
  refine U8 p.isList ?_
  refine ⟨s1.heap.objs.size,[s1.heap.objs.size],_,_,H1,rfl,I1.kept (t':=s1.toks) fun b o e=>Oq _ e,Zhk a _,⟨_,O0 _ rfl,rfl,rfl⟩,fun b hb=>?_,q⟩
  have e:b=s1.heap.objs.size:=by simpa using hb
  subst e
  exact I1.fpOk (Ol _) (I1.hok.fresh (Ol _))
 ·subst e
  cases r1
  obtain ⟨its,rv,p,hz⟩:=I1.tuple hq
  refine Tq (show s1.heap.IsTuple a its.toArray from p) ?_
  refine ⟨s1.heap.objs.size,[s1.heap.objs.size],_,_,H1,rfl,I1.kept (t':=s1.toks) fun b o e=>Oq _ e,Zki a _,⟨_,O0 _ rfl,rfl,rfl⟩,fun b hb=>?_,q⟩
  have e:b=s1.heap.objs.size:=by simpa using hb
  subst e
  exact I1.fpOk (Ol _) (I1.hok.fresh (Ol _))
 ·subst e
  obtain ⟨t,rfl⟩:=r1
  refine wpAny_pyIter_strU ?_
  refine ⟨s1.heap.objs.size,[s1.heap.objs.size],_,_,H1,rfl,I1.kept (t':=s1.toks) fun b o e=>Oq _ e,Zj0 _ z t,⟨_,O0 _ rfl,rfl,rfl⟩,fun b hb=>?_,q⟩
  have e:b=s1.heap.objs.size:=by simpa using hb
  subst e
  exact I1.fpOk (Ol _) (I1.hok.fresh (Ol _))
end
noncomputable def Fc (hi:Int)(n:Nat):It:=⟨fun i _=>i < n,fun i H x H'=>H'=H/\x=.int (hi - i),fun i _=>n<=i⟩
theorem Zf0 (a b:Int):P5 a b (-1)=if b < a then a - b else 0:=by
 unfold P5
 simp only [show ¬ ((-1:Int) > 0) by decide,if_false,Int.neg_neg,Int.ediv_one]
 split <;> omega
theorem Zij {a b:Int}(ha:-(2 ^ 62)<=a)(ha':a < 2 ^ 62)(hb:-(2 ^ 62)<=b)(hb':b < 2 ^ 62):Builtin.Range.small a b (-1)=true:=by
 unfold Builtin.Range.small
 rw [Zf0]
 simp only [O7,Pa,T1,decide_eq_true_eq,beq_iff_eq,show ¬ ((-1:Int) > 0) by decide,if_false]
 split <;> omega
theorem Zfi {P:Program}{w:World}{K:Og}{tg:Expr}(it:Addr)(hi:Int)(n:Nat):Fi P w K tg (Fc hi n) [it] it (fun i h=>IsRangeIter h it (hi+(i:Nat) * (-1)) ((n:Int) - (i:Nat)) (-1)) where
 mem:=by simp
 obj:=fun i h st b hb=>by
  have e:b=it:=by simpa using hb
  subst e
  exact ⟨_,st,fun v z=>by
   have z':Data.fields _=Data.cell v:=z
   cases z'⟩
 keep:=fun i h h' st k=>k it (by simp) _ st
 item:=by
  intro X hP hw hK hc i pins s σ H E I hf st hg
  subst hP hw hK
  obtain ⟨f0,f1,f2,f3,f4,f5⟩:=hf it (by simp)
  have W:=Walks.range (prog:=X.prog) (w:=X.w) (I.ok.hd hc) it hi (-1) n
  refine W.item i s _ _ hg st fun v h' tk hv st' kk=>?_
  obtain ⟨t,rfl⟩:=hv
  have I1:Inv X pins σ H { s with heap:=h',toks:=tk }:=I.turned (fun b o hb e=>kk b o (by simpa using hb) e) f0 f1 f3 f4 f5
  refine ⟨_,rfl,Ge (s:={ s with heap:=h',toks:=tk }) (n := "range_iterator") st' rfl rfl (by decide) ⟨.int (hi - i),H,I1,⟨t,?_⟩,⟨rfl,rfl⟩,st',fun b hb=>(hf b hb).1⟩⟩
  rw [Int.mul_neg_one,Int.sub_eq_add_neg]
 done:=by
  intro X hP hw hK hc i pins s σ H E I hf st hg
  subst hP hw hK
  obtain ⟨f0,f1,f2,f3,f4,f5⟩:=hf it (by simp)
  exact wpAny_pyNext_range_end (I.ok.hd hc) st (by have:n<=i:=hg;omega) fun h' eb=>⟨rfl,I.turned (t':=s.toks) (fun b o hb e=>eb b o hb e) f0 f1 f3 f4 f5⟩
 self:=fun _ _ _ _ _ st h=>Up st h
section
variable {X:Cx}{tg:Expr}
noncomputable def Ze6 (ta:TA):TI:=fun σ H R=>ta σ H fun vs H1=>∃ i j:Int,vs=[.int i,.int j,.int (-1)]/\(-(2 ^ 62)<=i/\i < 2 ^ 62/\-(2 ^ 62)<=j/\j < 2 ^ 62)/\R (Fc i (i - j).toNat) H1
theorem Zhg {a b c:Expr}{ta:TA}{p pos:Pos}(hg:Gl X "range")(hm:X.mg "range" = none)(ha:QA X [a,b,c] ta)(hs:starEach [a,b,c] X.env=[(false,eval a X.env),(false,eval b X.env),(false,eval c X.env)]:=by rfl)(hs2:starEach [b,c] X.env=[(false,eval b X.env),(false,eval c X.env)]:=by rfl) :
  QI X tg (.Call (.Name "range" p) [a,b,c] [] pos) (Ze6 ta):=by
 refine ⟨fun pins s σ H R I h=>?_⟩
 refine Call_ (D4 I hg hm boot_range (Qx (Ag (ha.run pos pins s σ H _ I h) fun us s1 ⟨vs,H1,I1,r1,q1⟩=>?_) (by rw [hs,hs2]) (by rw [hs2];rfl)))
 obtain ⟨i,j,e,⟨q1,q2,q3,q4⟩,q⟩:=q1
 subst e
 cases r1 with
 | cons r rr =>
  cases rr with
  | cons r' rr =>
   cases rr with
   | cons r'' rr =>
    cases rr
    obtain ⟨t,rfl⟩:=r
    obtain ⟨t',rfl⟩:=r'
    obtain ⟨t'',rfl⟩:=r''
    refine call_range_3 (by decide) ?_ (.inl (PyProof.noPylong_small (by omega)))
    refine wpAny_pyIter_range (IsRange.new ..) (Zij q1 q2 q3 q4) ?_
    have I2:Inv X pins σ H1 { s1 with heap:=s1.heap.push { cls:=.type "range",data:=.fields #[.int i t,.int j t',.int (-1) t''] },toks:=s1.toks }:=I1.kept fun b o e=>Oq _ e
    refine ⟨(s1.heap.push { cls:=.type "range",data:=.fields #[.int i t,.int j t',.int (-1) t''] }).objs.size,[(s1.heap.push { cls:=.type "range",data:=.fields #[.int i t,.int j t',.int (-1) t''] }).objs.size],_,_,H1,rfl,
     I2.kept (t':=s1.toks) fun b o e=>Oq _ e,Zfi _ i (i - j).toNat,?_,fun b hb=>?_,q⟩
    ·have e1:i+((0:Nat):Int) * (-1)=i:=by simp
     have e2:(((i - j).toNat:Nat):Int) - ((0:Nat):Int)=P5 i j (-1):=by rw [Zf0];split <;> omega
     show IsRangeIter _ _ (i+((0:Nat):Int) * (-1)) ((((i - j).toNat:Nat):Int) - ((0:Nat):Int)) (-1)
     rw [e1,e2]
     exact O0 _ rfl
    ·have e:b=(s1.heap.push { cls:=.type "range",data:=.fields #[.int i t,.int j t',.int (-1) t''] }).objs.size:=by simpa using hb
     subst e
     exact I2.fpOk (Ol _) (I2.hok.fresh (Ol _))
theorem Zd6 {hi:Int}{n:Nat}{g:TG}{tb:TS}{D:Cp}{σ:St}{H:Hp}(Pv:Nat->St->Hp->Prop)(h0:Pv 0 σ H)
  (hs:∀ i σ H,i < n->Pv i σ H->g (.int (hi - i)) σ H fun σ2 H2=>tb { D with nx:=Pv (i+1),ct:=Pv (i+1),bk:=D.nx } σ2 H2) (hd:∀ σ H,Pv n σ H->D.nx σ H) :
  ∃ W:Nat->Nat->St->Hp->Prop,(∃ m,W 0 m σ H)/\∀ i m σ H,W i m σ H ->
   ((Fc hi n).stop i H/\D.nx σ H)\/((Fc hi n).go i H/\∃ N:St->Hp->Prop,(∀ σ' H',N σ' H'->∃ m',m' < m/\W (i+1) m' σ' H')/\∀ x H',(Fc hi n).yld i H x H'->g x σ H' fun σ2 H2=>tb { D with nx:=N,ct:=N,bk:=D.nx } σ2 H2):=by
 refine ⟨fun i m σ H=>m=n - i/\i<=n/\Pv i σ H,⟨n,by simp,Pj _,h0⟩,?_⟩
 rintro i m σ H ⟨rfl,hi',p⟩
 by_cases hlt:i < n
 ·refine .inr ⟨hlt,Pv (i+1),fun σ' H' p'=>⟨n - (i+1),by omega,rfl,hlt,p'⟩,fun x H' y=>?_⟩
  obtain ⟨e,y⟩:=y
  subst e y
  exact hs i σ _ hlt p
 ·have e:i=n:=by omega
  subst e
  exact .inl ⟨Ol _,hd σ H p⟩
end
noncomputable def Gf (K:Og)(a:Addr)(n:Nat):It :=
 ⟨fun i H=>∃ xs,SqL K H a xs/\xs.length=n/\i < n,fun i H x H'=>H'=H/\∀ xs,SqL K H a xs->xs[n - 1 - i]?=some x,fun i _=>i=n⟩
theorem Zov {P:Program}{w:World}{K:Og}{tg:Expr}(a it:Addr)(n:Nat):Fi P w K tg (Gf K a n) [it] it (fun i h=>i<=n/\h.IsRevIter it a ((n:Int) - 1 - (i:Int))) where
 mem:=by simp
 obj:=fun i h st b hb=>by
  have e:b=it:=by simpa using hb
  subst e
  obtain ⟨o,e,c,d⟩:=st.2
  exact ⟨o,e,fun v z=>by rw [d] at z;cases z⟩
 keep:=fun i h h' st k=>⟨st.1,st.2.at fun o e=>k it (by simp) o e⟩
 item:=by
  intro X hP hw hK hc i pins s σ H E I hf st hg
  subst hP hw hK
  obtain ⟨xs,hq,hl,hi⟩:=hg
  obtain ⟨its,rv,p,hz⟩:=I.list hq
  have hx:xs[n - 1 - i]?=some (xs[n - 1 - i]'(by omega)):=Oi (by omega)
  obtain ⟨u,hu,ru⟩:=rv.get hx
  obtain ⟨f0,f1,f2,f3,f4,f5⟩:=hf it (by simp)
  have e:(n:Int) - 1 - (i:Int)=((n - 1 - i:Nat):Int):=by omega
  have hit:=st.2
  rw [e] at hit
  refine wpAny_pyNext_rev_item hit p.isList (x:=u) (by simpa using hu) fun h' st' sb=>?_
  have I1:Inv X pins σ H { s with heap:=h' }:=I.turned (t':=s.toks) (fun b o hb e=>(sb.2 b hb).trans e) f0 f1 f3 f4 f5
  have e2:((n - 1 - i:Nat):Int) - 1=(n:Int) - 1 - ((i+1:Nat):Int):=by omega
  rw [e2] at st'
  obtain ⟨o,eo,c,d⟩:=id st'
  exact ⟨u,rfl,Ge (s:={ s with heap:=h' }) eo c d (by decide) ⟨_,H,I1,ru,⟨rfl,fun ys hy=>by rw [I.list_inj hy hq];exact hx⟩,⟨hi,st'⟩,fun b hb=>(hf b hb).1⟩⟩
 done:=by
  intro X hP hw hK hc i pins s σ H E I hf st hg
  subst hP hw hK
  have hg:i=n:=hg
  subst hg
  obtain ⟨f0,f1,f2,f3,f4,f5⟩:=hf it (by simp)
  have e:(i:Int) - 1 - (i:Int)=-1:=by omega
  have hit:=st.2
  rw [e] at hit
  exact wpAny_pyNext_rev_end (I.ok.hd hc) hit fun h' eb=>⟨rfl,I.turned (t':=s.toks) (fun b o hb e=>eb b o hb e) f0 f1 f3 f4 f5⟩
 self:=fun _ _ _ _ _ st h=>wpAny_pyIter_revIter st.2 h
theorem Zdv:bootBuiltins "reversed" = some (.type "reversed"):=by decide +kernel
section
variable {X:Cx}{tg:Expr}
noncomputable def K7 (K:Og)(ta:TA):TI:=fun σ H R=>ta σ H fun vs H1=>∃ a xs,vs=[.ref a]/\SqL K H1 a xs/\R (Gf K a xs.length) H1
theorem Zii {a:Expr}{ta:TA}{p pos:Pos}(hg:Gl X "reversed")(hm:X.mg "reversed" = none)(ha:QA X [a] ta)(hs:starEach [a] X.env=[(false,eval a X.env)]:=by rfl):QI X tg (.Call (.Name "reversed" p) [a] [] pos) (K7 X.K ta):=by
 refine ⟨fun pins s σ H R I h=>?_⟩
 refine Call_ (D4 I hg hm Zdv (Qx (Ag (ha.run pos pins s σ H _ I h) fun us s1 zq=>?_) hs rfl))
 obtain ⟨vs,H1,I1,r1,q1⟩:=zq
 obtain ⟨l,xs,e,hq,q⟩:=q1
 subst e
 cases r1 with
 | cons r rr =>
  cases rr
  cases r
  obtain ⟨its,rv,pl,hz⟩:=I1.list hq
  refine call_reversed_list pl.isList ?_
  have hl:=rv.length
  have st0:(s1.heap.push (PySem.revObj l (((its.toArray).size:Int) - 1))).IsRevIter s1.heap.objs.size l ((xs.length:Int) - 1 - ((0:Nat):Int)):=by
   refine ⟨_,O0 _ rfl,rfl,?_⟩
   have e:((its.toArray).size:Int) - 1=(xs.length:Int) - 1 - ((0:Nat):Int):=by simp [hl]
   rw [<- e]
   rfl
  refine wpAny_pyIter_revIter (it:=s1.heap.objs.size) (l:=l) (i:=(xs.length:Int) - 1 - ((0:Nat):Int)) st0 ?_
  refine ⟨s1.heap.objs.size,[s1.heap.objs.size],_,_,H1,rfl,I1.kept (t':=s1.toks) fun b o e=>Oq _ e,Zov l _ xs.length,⟨Pj _,st0⟩,fun b hb=>?_,q⟩
  have e:b=s1.heap.objs.size:=by simpa using hb
  subst e
  exact I1.fpOk (Ol _) (I1.hok.fresh (Ol _))
theorem Lu {K:Og}{a:Addr}{xs:List V}{g:TG}{tb:TS}{D:Cp}{σ:St}{H:Hp}(Pv:Nat->St->Hp->Prop)(h0:Pv 0 σ H)(hl:∀ i σ H,i<=xs.length->Pv i σ H->SqL K H a xs)
  (hs:∀ i x σ H,i < xs.length->xs[xs.length - 1 - i]?=some x->Pv i σ H->g x σ H fun σ2 H2=>tb { D with nx:=Pv (i+1),ct:=Pv (i+1),bk:=D.nx } σ2 H2) (hd:∀ σ H,Pv xs.length σ H->D.nx σ H) :
  ∃ W:Nat->Nat->St->Hp->Prop,(∃ m,W 0 m σ H)/\∀ i m σ H,W i m σ H ->
   ((Gf K a xs.length).stop i H/\D.nx σ H)\/((Gf K a xs.length).go i H/\∃ N:St->Hp->Prop,(∀ σ' H',N σ' H'->∃ m',m' < m/\W (i+1) m' σ' H')/\∀ x H',(Gf K a xs.length).yld i H x H'->g x σ H' fun σ2 H2=>tb { D with nx:=N,ct:=N,bk:=D.nx } σ2 H2):=by
 refine ⟨fun i m σ H=>m=xs.length - i/\i<=xs.length/\Pv i σ H,⟨xs.length,by simp,Pj _,h0⟩,?_⟩
 rintro i m σ H ⟨rfl,hi,p⟩
 have q:=hl i σ H hi p
 by_cases hlt:i < xs.length
 ·refine .inr ⟨⟨xs,q,rfl,hlt⟩,Pv (i+1),fun σ' H' p'=>⟨xs.length - (i+1),by omega,rfl,hlt,p'⟩,fun x H' y=>?_⟩
  obtain ⟨e,y⟩:=y
  subst e
  exact hs i x σ _ hlt (y xs q) p
 ·have e:i=xs.length:=by omega
  subst e
  exact .inl ⟨rfl,hd σ H p⟩
end
section
variable {prog:Program}{w:World}{A:Around}{E:Value->Shared->Prop}{s:Shared}
theorem Zkr {it t:Addr}{i:Nat}{items:Array Value}{x:Value}{Q:Value->Shared->Prop}(hit:s.heap.IsTupleIter it t i)(ht:s.heap.IsTuple t items)(hx:items[i]?=some x)
  (hQ:∀ h',h'.IsTupleIter it t (i+1)->Pe it s.heap h'->Q x { s with heap:=h' }):wpAny (model prog w) A (Tb (.ref it)) Q E s:=by
 obtain ⟨o,ho,hc,hd⟩:=id hit
 obtain ⟨ol,hol,_,nl,hdl⟩:=ht
 unfold Tb
 refine Oh (Rl (name:=Pw "__next__") hit.typeIs Sx
  (Rv Sx hit.typeIs Vn ?_ (Vm _)))
 show wpAny _ _ (field (.ref it) 0 >>= _) _ _ s
 refine Oh (Px ho hd (x:=.ref t) rfl ?_)
 show wpAny _ _ (if (Value.ref t == Value.none)=true then _ else _) _ _ s
 rw [if_neg (show ¬ ((Value.ref t == Value.none)=true) from Ot)]
 show wpAny _ _ (field (.ref it) 1 >>= _) _ _ s
 refine Oh (Px ho hd (x:=.int i 0) rfl ?_)
 show wpAny _ _ (seqItems? (.ref t) >>= _) _ _ s
 refine Oh (wpAny_seqItems hol hdl ?_)
 simp only [Ts,hx]
 refine Oh (wpAny_setField ho hd (by simp) (Om ⟨x,rfl,Om (hQ _ ?_ (Pe.update ..))⟩))
 exact ⟨_,Ro _ ho (Obj.isFreed_of_fields (Obj.data_mapFields hd _)),(Obj.cls_mapFields ..).trans hc,by
  rw [Obj.data_mapFields hd];simp [rawInt]⟩
theorem Zpn {it t:Addr}{i:Nat}{items:Array Value}{Q:Value->Shared->Prop}(hh:A.handled=none)(hit:s.heap.IsTupleIter it t i)(ht:s.heap.IsTuple t items)(hx:items[i]?=none)
  (hE:∀ h' e,Uh it s.heap h'->(∃ o,h'.get? e=some o/\o.cls=.type "StopIteration")->E (.ref e) { s with heap:=h' }):wpAny (model prog w) A (Tb (.ref it)) Q E s:=by
 obtain ⟨o,ho,hc,hd⟩:=id hit
 obtain ⟨ol,hol,_,nl,hdl⟩:=ht
 unfold Tb
 refine Oh (Rl (name:=Pw "__next__") hit.typeIs Sx
  (Rv Sx hit.typeIs Vn ?_ (Vm _)))
 show wpAny _ _ (field (.ref it) 0 >>= _) _ _ s
 refine Oh (Px ho hd (x:=.ref t) rfl ?_)
 show wpAny _ _ (if (Value.ref t == Value.none)=true then _ else _) _ _ s
 rw [if_neg (show ¬ ((Value.ref t == Value.none)=true) from Ot)]
 show wpAny _ _ (field (.ref it) 1 >>= _) _ _ s
 refine Oh (Px ho hd (x:=.int i 0) rfl ?_)
 show wpAny _ _ (seqItems? (.ref t) >>= _) _ _ s
 refine Oh (wpAny_seqItems hol hdl ?_)
 simp only [Ts,hx]
 refine Oh (Su (Oh (wpAny_setField ho hd (by simp) ?_)))
 show wpAny _ _ (newExc (.type "StopIteration") [] >>= _) _ _ _
 refine Oh ?_
 simp only [newExc,newTuple]
 refine Oh (Q0 ?_ (by size_fits))
 refine Oh (m:=firstArgMember _ _) (R8 (a:=Value.none) (by first | rfl | (simp only [firstArgMember];rfl)) ?_)
 refine Q0 ?_ (by size_fits)
 simp only [raiseNew]
 refine Oh (wpAny_handled ?_)
 first | rw [show A.in1.handled=none from hh] | rw [hh]
 refine Oh (Om (wpAny_throw ?_))
 exact hE _ _ (((Pe.update ..).extBut.push _).push _) ⟨_,O0 _ rfl,rfl⟩
end
theorem Zb1 {prog:Program}{w:World}{A:Around}(hh:A.handled=none)(it l:Addr)(hne:l≠it)(items:Array Value) :
  Draws prog w A it [it,l] items.size (fun i v=>items[i]?=some v) (fun i h=>h.IsTupleIter it l i/\h.IsTuple l items) where
 live:=fun _ _ st=>let ⟨o,ho,_⟩:=st.1;⟨o,ho⟩
 frame:=fun _ _ _ st hk=>⟨st.1.at fun o e=>hk it (by simp) o e,let ⟨o,e,r⟩:=st.2;⟨o,hk l (by simp) o e,r⟩⟩
 item:=fun i s Q E hi st hQ=>by
  refine Zkr st.1 st.2 (x:=items[i]) (by simp [hi]) fun h' hit' hs'=>?_
  exact hQ _ h' s.toks (by simp [hi]) ⟨hit',st.2.extBut hs'.extBut hne⟩ hs'
 done:=fun s Q E st hE=>Zpn hh st.1 st.2 (by simp) hE
theorem Ziy (l:Addr)(items:Array Value)(n:Nat)(dct:Option Addr)(sl:Array (Option Value)) :
  Meets (Builtin.«enumerate.__new__» ⟨[.type "enumerate",.ref l],[]⟩) (fun _ R s=>s.heap.get? l=some { cls:=.type "tuple",dict:=dct,data:=.seq items n,slots:=sl } /\
   R (.ok (.ret (.ref (s.heap.push { cls:=.type "tuple_iterator",data:=.fields #[.ref l,.int 0 0] }).objs.size)))
    { s with heap:=(s.heap.push { cls:=.type "tuple_iterator",data:=.fields #[.ref l,.int 0 0] }).push { cls:=.type "enumerate",data:=.fields #[.none,.bool false,.ref s.heap.objs.size,rawInt 0,.none,.none] } }) :=
 .of_wp fun prog w A R s h=>by
  obtain ⟨hp,g,d,tk,os⟩:=s;obtain ⟨hl,h⟩:=h
  have hsub:=sub_enumerate
  have hL:Heap.IsTuple (Shared.heap ⟨hp,g,d,tk,os⟩) l items:=⟨_,hl,rfl,n,rfl⟩
  wp_walk using Sy hl
  refine wpAny_stack_any fun st=>Om ?_
  split
  ·rename_i c _ _ _ _ _
   cases (c == Value.type "enumerate")
   ·wp_walk using Sy hl,Tq hL
    exact ⟨_,rfl,h⟩
   ·wp_walk using Sy hl,Tq hL
    exact ⟨_,rfl,h⟩
  ·wp_walk using Sy hl,Tq hL
   exact ⟨_,rfl,h⟩
section
variable {prog:Program}{w:World}{A:Around}{E:Value->Shared->Prop}{s:Shared}
theorem Zpk {l:Addr}{items:Array Value}{Q:Value->Shared->Prop}(hL:s.heap.IsTuple l items)
  (h:∀ h',IsEnum h' (s.heap.objs.size+1) s.heap.objs.size 0 .none->h'.IsTupleIter s.heap.objs.size l 0->h'.objs.size=s.heap.objs.size+2 ->
   (∀ b o,s.heap.get? b=some o->h'.get? b=some o)->Q (.ref (s.heap.objs.size+1)) { s with heap:=h' }) :
  wpAny (model prog w) A (call (.type "enumerate") [.ref l]) Q E s:=by
 obtain ⟨⟨c,dct,dt,sl⟩,hl,hc,n,hd⟩:=hL
 replace hc:c=.type "tuple" := hc
 replace hd:dt=.seq items n:=hd
 subst hc hd
 refine callType_new PySem.F.called_enumerate (by decide) (PySem.F.typeCall_enumerate_1 _) (PySem.F.newCall_enumerate_1 _) (fun obj=>PySem.F.args_object_init_2 obj _) PySem.F.entry_enumerate_new
  (Ziy l items n dct sl) ⟨hl,?_⟩
 have hz:(s.heap.push { cls:=.type "tuple_iterator",data:=.fields #[.ref l,.int 0 0] }).objs.size=s.heap.objs.size+1:=Q3 ..
 show _/\_
 rw [hz]
 have he:IsEnum ((s.heap.push { cls:=.type "tuple_iterator",data:=.fields #[.ref l,.int 0 0] }).push
   { cls:=.type "enumerate",data:=.fields #[.none,.bool false,.ref s.heap.objs.size,rawInt 0,.none,.none] }) (s.heap.objs.size+1) s.heap.objs.size 0 .none:=by
  unfold IsEnum
  rw [<- hz]
  exact O0 _ rfl
 refine ⟨⟨_,he,rfl⟩,h _ he ⟨_,Oq _ (O0 _ rfl),rfl,rfl⟩ (by rw [Q3,hz]) fun b o e=>Oq _ (Oq _ e)⟩
noncomputable def K4 (h:Heap)(e it:Addr)(i:Int):Prop:=∃(a:Addr)(oa:Obj)(f1 old:Value),h.get? e=some { cls:=.type "enumerate",dict:=none,data:=.fields #[rawInt a,f1,.ref it,rawInt i,.none,old],slots:=#[] }/\h.get? a=some oa/\a≠e/\a≠it
theorem Zgo {a:Addr}{Q:Option Obj->Shared->Prop}(h:Q (s.heap.get? a) s):wpAny (model prog w) A (loadIfAlive a) Q E s:=by
 intro Γ p hΓ
 show Sem.wp _ Γ (.loadIfAlive a .pure) _ _ p s
 rw [Sem.wp_loadIfAlive]
 exact h
theorem Zg8 {e it:Addr}{fp:List Addr}{n i:Nat}{P:Nat->Value->Prop}{St:Nat->Heap->Prop}{Q:Value->Shared->Prop}
  (D:Draws prog w A it fp n P St) (he0:K4 s.heap e it i) (hst:St i s.heap) (hlt:i < n) (hne:e≠it) (hef:e ∉ fp)
  (hQ:∀ x h' tk,P i x->K4 h' e it ((i:Int)+1)->St (i+1) h' ->
   h'.get? s.heap.objs.size=some { cls:=.type "tuple",data:=.seq #[.int i tk,x] }->h'.objs.size=s.heap.objs.size+1 ->
   (∀ b o,b≠e->b≠it->s.heap.get? b=some o->h'.get? b=some o)->Q (.ref s.heap.objs.size) { s with heap:=h',toks:=tk+1 }) :
  wpAny (model prog w) A (Builtin.«enumerate.__next__» ⟨[.ref e],[]⟩) (fun fin s'=>∃ v,fin=.done (.ret v)/\Q v s') E s:=by
 obtain ⟨a,oa,f1,old,he,hoa,hae,hai⟩:=he0
 obtain ⟨hp,g,d,tk₀,os⟩:=s
 show wpAny _ _ (field (.ref e) 2 >>= _) _ _ _
 refine Oh (Px he rfl (x:=.ref it) rfl ?_)
 refine Oh (D.item i _ _ _ hlt hst fun x h₁ tk hPx hit₁ hs₁=>?_)
 replace hs₁:Pe it hp h₁:=hs₁
 have he₁:=(hs₁.2 e hne).trans he
 have ha₁:=hs₁.extBut a oa hai hoa
 show wpAny _ _ (field (.ref e) 3 >>= _) _ _ ⟨h₁,g,d,tk,os⟩
 refine Oh (Px he₁ rfl (x:=rawInt i) rfl ?_)
 show wpAny _ _ (field (.ref e) 4 >>= _) _ _ ⟨h₁,g,d,tk,os⟩
 refine Oh (Px he₁ rfl (x:=.none) rfl ?_)
 show wpAny _ _ (mkInt i >>= _) _ _ ⟨h₁,g,d,tk,os⟩
 refine Oh (wpAny_mkInt ?_)
 show wpAny _ _ (setField (.ref e) 3 (rawInt ((i:Int)+1)) >>= _) _ _ ⟨h₁,g,d,tk+1,os⟩
 refine Oh (Uz he₁ (by simp) fun h₂ he₂ hs₂=>?_)
 replace hs₂:Pe e h₁ h₂:=hs₂
 have ha₂:=hs₂.extBut a oa hae ha₁
 replace he₂:h₂.get? e=some { cls:=.type "enumerate",dict:=none,data:=.fields #[rawInt a,f1,.ref it,rawInt ((i:Int)+1),.none,old],slots:=#[] }:=he₂
 show wpAny _ _ (setField (.ref e) 4 .none >>= _) _ _ ⟨h₂,g,d,tk+1,os⟩
 refine Oh (Uz he₂ (by simp) fun h₃ he₃ hs₃=>?_)
 replace hs₃:Pe e h₂ h₃:=hs₃
 have ha₃:=hs₃.extBut a oa hae ha₂
 replace he₃:h₃.get? e=some { cls:=.type "enumerate",dict:=none,data:=.fields #[rawInt a,f1,.ref it,rawInt ((i:Int)+1),.none,old],slots:=#[] }:=he₃
 show wpAny _ _ (newTuple [.int i tk,x] >>= _) _ _ ⟨h₃,g,d,tk+1,os⟩
 refine Oh (wpAny_newTuple ?_)
 have he₄:(h₃.push { cls:=.type "tuple",data:=.seq #[.int i tk,x] }).get? e=some { cls:=.type "enumerate",dict:=none,data:=.fields #[rawInt a,f1,.ref it,rawInt ((i:Int)+1),.none,old],slots:=#[] }:=Oq _ he₃
 have ha₄:(h₃.push { cls:=.type "tuple",data:=.seq #[.int i tk,x] }).get? a=some oa:=Oq _ ha₃
 generalize hh₄:h₃.push { cls:=.type "tuple",data:=.seq #[.int i tk,x] }=h₄ at he₄ ha₄
 have hsz:h₃.objs.size=hp.objs.size:=by rw [hs₃.1,hs₂.1,hs₁.1]
 have hel:e < hp.objs.size:=Os he
 have ht₄:h₄.get? hp.objs.size=some { cls:=.type "tuple",data:=.seq #[.int i tk,x] }:=by rw [<- hh₄,<- hsz];exact O0 _ rfl
 have hz₄:h₄.objs.size=hp.objs.size+1:=by rw [<- hh₄,Q3,hsz]
 have hk₄:∀ b o,b≠e->b≠it->hp.get? b=some o->h₄.get? b=some o:=fun b o hbe hbi hb=>by
  rw [<- hh₄];exact Oq _ (hs₃.extBut b o hbe (hs₂.extBut b o hbe (hs₁.extBut b o hbi hb)))
 have hit₄:St (i+1) h₄:=D.frame _ _ _ hit₁ fun b hb o y=>by
  have hbe:b≠e:=fun q=>hef (q ▸ hb)
  rw [<- hh₄];exact Oq _ (hs₃.extBut b o hbe (hs₂.extBut b o hbe y))
 show wpAny _ _ (Vl (.ref e) >>= _) _ _ ⟨h₄,g,d,tk+1,os⟩
 rw [hsz]
 clear hh₄ ha₃ ha₂ ha₁ he₃ hs₃ he₂ hs₂ he₁ hs₁ hit₁ hsz h₃ h₂ h₁
 refine Oh ?_
 unfold Vl
 refine Oh (Px he₄ rfl (x:=rawInt a) rfl ?_)
 show wpAny _ _ (loadIfAlive ((a:Int).toNat) >>= _) _ _ ⟨h₄,g,d,tk+1,os⟩
 refine Oh (Zgo ?_)
 rw [Ts]
 show wpAny _ _ (if (h₄.get? a).isNone=true then _ else _) _ _ ⟨h₄,g,d,tk+1,os⟩
 rw [ha₄]
 rw [if_neg (by simp)]
 refine Oh (Px he₄ rfl (x:=f1) rfl ?_)
 have fin:∀ h₅,K4 h₅ e it ((i:Int)+1)->Pe e h₄ h₅->Q (.ref hp.objs.size) ⟨h₅,g,d,tk+1,os⟩:=fun h₅ hl hs₅ =>
  hQ x h₅ tk hPx hl (D.frame _ _ _ hit₄ fun b hb o y=>hs₅.extBut b o (fun q=>hef (q ▸ hb)) y) (hs₅.extBut _ _ (R4 hel) ht₄) (by rw [hs₅.1,hz₄]) fun b o hbe hbi hb=>hs₅.extBut b o hbe (hk₄ b o hbe hbi hb)
 by_cases hf:(f1 != Value.bool true)=true
 ·simp only [hf,if_true]
  refine Oh (Uz he₄ (by simp) fun h₅ he₅ hs₅=>?_)
  replace hs₅:Pe e h₄ h₅:=hs₅
  refine Om ?_
  simp only [Sf,if_false]
  refine Om ⟨_,rfl,fin h₅ ⟨a,oa,.bool true,old,he₅,hs₅.extBut a oa hae ha₄,hae,hai⟩ hs₅⟩
 ·simp only [hf]
  refine Om ?_
  simp only [Sf,if_false]
  exact Om ⟨_,rfl,fin h₄ ⟨a,oa,f1,old,he₄,ha₄,hae,hai⟩ (Pe.refl ..)⟩
noncomputable def EnSt (h:Heap)(e it:Addr)(i:Nat):Prop:=(i=0/\∃ old,IsEnum h e it 0 old)\/(0 < i/\K4 h e it i)
theorem EnSt.obj {h:Heap}{e it:Addr}{i:Nat}(x:EnSt h e it i):∃ vs,h.get? e=some { cls:=.type "enumerate",dict:=none,data:=.fields vs,slots:=#[] }:=by
 rcases x with ⟨_,old,x⟩ | ⟨_,_,_,_,_,x,_⟩
 ·exact ⟨_,x⟩
 ·exact ⟨_,x⟩
theorem Zgv {e it:Addr}{fp:List Addr}{n i:Nat}{P:Nat->Value->Prop}{St:Nat->Heap->Prop}{Q:Option Value->Shared->Prop}
  (D:Draws prog w A.in1 it fp n P St) (he:EnSt s.heap e it i) (hst:St i s.heap) (hlt:i < n) (hne:e≠it) (hef:e ∉ fp)
  (hQ:∀ x h' tk,P i x->EnSt h' e it (i+1)->St (i+1) h' ->
   h'.get? s.heap.objs.size=some { cls:=.type "tuple",data:=.seq #[.int i tk,x] }->h'.objs.size=s.heap.objs.size+1 ->
   (∀ b o,b≠e->b≠it->s.heap.get? b=some o->h'.get? b=some o)->Q (some (.ref s.heap.objs.size)) { s with heap:=h',toks:=tk+1 }) :
  wpAny (model prog w) A (pyNext (.ref e)) Q E s:=by
 obtain ⟨vs,ho⟩:=he.obj
 have hT:s.TypeIs (.ref e) "enumerate" := ⟨_,ho,rfl⟩
 have hel:e < s.heap.objs.size:=Os ho
 have hil:it < s.heap.objs.size:=by obtain ⟨_,y⟩:=D.live _ _ hst;exact Os y
 rcases he with ⟨rfl,old,he⟩ | ⟨_,he⟩
 ·refine wpAny_pyNext_enum_itemD D he hst hlt hne hef fun x h' tk a b c z k q=>?_
  exact hQ x h' tk a (.inr ⟨Nat.succ_pos _,_,_,_,_,b,z,R4 hel,R4 hil⟩) c z k q
 ·unfold pyNext
  exact Oh (wpAny_attempt (Rl (name:=Pw "__next__") hT Sz
   (Rv Sz hT Vp
    (Zg8 D he hst hlt hne hef fun x h' tk a b c z k q=>Om (hQ x h' tk a (.inr ⟨Nat.succ_pos _,b⟩) c z k q)) (Vo _))))
theorem Zom {e it:Addr}{fp:List Addr}{n:Nat}{P:Nat->Value->Prop}{St:Nat->Heap->Prop}{Q:Option Value->Shared->Prop}
  (D:Draws prog w A.in1 it fp n P St) (he:EnSt s.heap e it n) (hst:St n s.heap)
  (hQ:∀ h',Uh it s.heap h'->Q none { s with heap:=h' }):wpAny (model prog w) A (pyNext (.ref e)) Q E s:=by
 obtain ⟨vs,ho⟩:=he.obj
 have hT:s.TypeIs (.ref e) "enumerate" := ⟨_,ho,rfl⟩
 have h2:vs[2]?=some (.ref it):=by
  rcases he with ⟨rfl,old,he⟩ | ⟨_,a,oa,f1,old,he,_⟩
  ·unfold IsEnum at he
   rw [ho] at he
   injection he with he
   injection he with _ _ he _
   injection he with he
   rw [he];rfl
  ·rw [ho] at he
   injection he with he
   injection he with _ _ he _
   injection he with he
   rw [he];rfl
 unfold pyNext
 refine Oh (wpAny_attempt (Rl (name:=Pw "__next__") hT Sz
  (Rv Sz hT Vp ?_ (Vo _))))
 show wpAny _ _ (field (.ref e) 2 >>= _) _ _ _
 refine Oh (Px ho rfl (x:=.ref it) h2 ?_)
 refine Oh (D.done _ _ _ hst fun h' x he' hx'=>?_)
 obtain ⟨o,ho',hc⟩:=hx'
 refine Oh (wpAny_isInstance (T := "StopIteration") (b:=true) ⟨o,ho',hc⟩ isSubtype_stop ?_)
 exact Om (hQ _ he')
end
theorem Zjq {prog:Program}{w:World}{A:Around}{E:Value->Shared->Prop}{s:Shared}{it:Addr}{T:String}{Q:Bool->Shared->Prop}(hT:s.TypeIs (.ref it) T)(n1:typeLookup (.type T) "__len__" = pure none)(n2:typeLookup (.type T) "__length_hint__" = pure none)(h:Q true s):wpAny (model prog w) A (Ui (.ref it)) Q E s:=by
 unfold Ui
 refine Oh (Sk hT n1 ?_)
 show wpAny _ A (specialOf (Value.ref it) (Pw "__length_hint__") >>= _) _ _ _
 refine Oh (Sk hT n2 ?_)
 exact Om h
structure Src (X:Cx)(pins:List (Addr×Obj))(σ:St)(it:Addr)(T:String)(n:Nat)(H0:Hp)(J:Nat->List V->Hp->Heap->Prop):Prop where
 ty:∀ i ys H h,J i ys H h->∃ o,h.get? it=some o/\o.cls=.type T
 nl:(Value.type T == Value.type "list")=false/\(Value.type T == Value.type "tuple")=false
 hint:∃ mr:Bool,∀(A:Around)(s:Shared)(Q:Bool->Shared->Prop)(E:Value->Shared->Prop),s.TypeIs (.ref it) T->Q mr s->wpAny (model X.prog X.w) A (Ui (.ref it)) Q E s
 self:∀(A:Around)(s:Shared)(ys:List V)(H:Hp)(Q:Value->Shared->Prop)(E:Value->Shared->Prop),J 0 ys H s.heap->Q (.ref it) s->wpAny (model X.prog X.w) A (pyIter (.ref it)) Q E s
 keep:∀ i ys H h h' S zs zs',H0 S=none->H S=some (.lst zs)->J i ys H h->(∀ b o,b≠S->h.get? b=some o->h'.get? b=some o)->(∃ o,h'.get? S=some o)->J i ys (upd H S (.lst zs')) h'
 fresh:∀ i ys H h,J i ys H h->H it=none
 item:∀(A:Around)(i:Nat)(s:Shared)(H:Hp)(ys:List V)(E:Value->Shared->Prop),A.handled=none->i < n->Inv X pins σ H s->J i ys H s.heap ->
  wpAny (model X.prog X.w) A (pyNext (.ref it)) (fun r s'=>∃ u x H',r=some u/\RelV x u/\Inv X pins σ H' s'/\J (i+1) (ys++[x]) H' s'.heap/\∀ S zs,H S=some (.lst zs)->H' S=some (.lst zs)) E s
 done:∀(A:Around)(s:Shared)(H:Hp)(ys:List V)(E:Value->Shared->Prop),A.handled=none->Inv X pins σ H s->J n ys H s.heap ->
  wpAny (model X.prog X.w) A (pyNext (.ref it)) (fun r s'=>r=none/\Inv X pins σ H s') E s
section
variable {X:Cx}{pins:List (Addr×Obj)}{σ:St}{it:Addr}{T:String}{n:Nat}{H0:Hp}{J:Nat->List V->Hp->Heap->Prop}
theorem Zey (C:Src X pins σ it T n H0 J)(hn:n<=sizeLine){A:Around}(hh:A.handled=none){R:Result->Shared->Prop}(S:Addr)(hS0:H0 S=none)(res:Value)
  (fin:∀ s' H' ys',Inv X pins σ H' s'->H' S=some (.lst ys')->ys'.length=n->(∃ h,J n ys' H' h)->R (.ok (.ret res)) s') :
  ∀(k i:Nat)(s:Shared)(H:Hp)(ys:List V),n - i=k->i<=n->Inv X pins σ H s->J i ys H s.heap->H S=some (.lst ys)->ys.length=i ->
  codeAny (model X.prog X.w) A (.builtin "list.extend.loop" ⟨[.ref S,.ref it,res],[]⟩) R s:=by
 intro k
 induction k with
 | zero =>
  intro i s H ys hk hi I j hS hl
  have hin:i=n:=by omega
  subst hin
  refine Sl PySem.F.entry_extend_loop ?_
  rw [Sc Sa _]
  show wpAny _ A.in1 (pyNext (.ref it) >>= _) _ _ s
  refine Oh (Ag (C.done A.in1 s H ys _ hh I j) fun r s' zq=>?_)
  obtain ⟨hr,I'⟩:=zq
  subst hr
  exact Om (fin s' H ys I' hS hl ⟨_,j⟩)
 | succ k ih =>
  intro i s H ys hk hi I j hS hl
  have hlt:i < n:=by omega
  refine Sl PySem.F.entry_extend_loop ?_
  rw [Sc Sa _]
  show wpAny _ A.in1 (pyNext (.ref it) >>= _) _ _ s
  refine Oh (Ag (C.item A.in1 i s H ys _ hh hlt I j) fun r s' zq=>?_)
  obtain ⟨u,x,H',hr,rx,I',j',kS⟩:=zq
  subst hr
  have hS':=kS S ys hS
  obtain ⟨z,its,m,rv,hl',e⟩:=I'.lstM hS'
  show wpAny _ A.in1 (updateSeq S (·.push u) >>= _) _ _ _
  refine Oh ?_
  have hu:(its.toArray.push u)=(its++[u]).toArray:=by simp
  have I2:=I'.lset (f:=(·.push u)) (its':=its++[u]) (ys:=ys++[x]) (t':=s'.toks) hS' e hu (rv.append (.cons rx .nil)) (by rw [Ou,Pz];omega)
  refine T2 e rfl (Om ⟨R3 Sa _,ih (i+1) _ _ (ys++[x]) (by omega) hlt I2 ?_ Ad (by simp [hl])⟩)
   (by rw [On];omega) (by show (its.toArray.push u).size<=sizeLine+1;rw [Array.size_push,On];omega)
  exact C.keep _ _ _ _ _ S ys (ys++[x]) hS0 hS' j' (fun b o hb eb=>(Rn _ _ (Pf hb)).trans eb) ⟨_,Ro _ e rfl⟩
theorem Zoo {H:Hp}(C:Src X pins σ it T n H J)(hn:n<=sizeLine){A:Around}(hh:A.handled=none){s:Shared}{Q:VK}{E:Value->Shared->Prop}(I:Inv X pins σ H s)(j:J 0 [] H s.heap)
  (jn:∀ S,s.heap.objs.size<=S->H S=none->∀ h',(∀ b o,s.heap.get? b=some o->h'.get? b=some o)->J 0 [] (upd H S (.lst [])) h')
  (q:∀ S H' ys,H S=none->H' S=some (.lst ys)->ys.length=n->(∃ h,J n ys H' h)->Q (.ref S) H') :
  wpAny (model X.prog X.w) A (call (.type "list") [.ref it]) (EP X pins σ Q) E s:=by
 have hf:H s.heap.objs.size=none:=I.hok.fresh (Ol _)
 have hne:s.heap.objs.size≠it:=by
  obtain ⟨o,e,_⟩:=C.ty _ _ _ _ j
  exact R4 (Os e)
 refine callType_codes (Q₁:=fun obj s₁=>obj=.ref s.heap.objs.size/\s₁={ s with heap:=s.heap.push { cls:=.type "list",data:=.seq #[] } }) PySem.F.called_list (PySem.F.typeCall_list_1 _) PySem.F.entry_list_init
  (code_list_new _ ⟨rfl,rfl⟩) fun obj s₁ h₁=>?_
 obtain ⟨rfl,rfl⟩:=h₁
 have hS:(s.heap.push { cls:=.type "list",data:=.seq #[] }).get? s.heap.objs.size=some { cls:=.type "list",data:=.seq #[] }:=O0 _ rfl
 have I1:Inv X pins σ (upd H s.heap.objs.size (.lst [])) { s with heap:=s.heap.push { cls:=.type "list",data:=.seq ([]:List Value).toArray } }:=I.lnew (ys:=[]) (its:=[]) (t':=s.toks) .nil (by simp)
 have j1:J 0 [] (upd H s.heap.objs.size (.lst [])) (s.heap.push { cls:=.type "list",data:=.seq ([]:List Value).toArray })   := jn _ (Ol _) hf _ fun b o e=>Oq _ e
 refine ⟨⟨_,hS,rfl⟩,PySem.F.args_list_init_2 _ _,?_⟩
 generalize hs1:({ s with heap:=s.heap.push { cls:=.type "list",data:=.seq ([]:List Value).toArray } }:Shared)=s1 at I1
 have hS1:s1.heap.get? s.heap.objs.size=some { cls:=.type "list",data:=.seq ([]:List Value).toArray }:=by rw [<- hs1];exact hS
 replace j1:J 0 [] (upd H s.heap.objs.size (.lst [])) s1.heap:=by rw [<- hs1];exact j1
 have hs1':({ s with heap:=s.heap.push { cls:=.type "list",data:=.seq #[] } }:Shared)=s1:=hs1
 first | rw [hs1'] | skip
 show wpAny _ A.in1.in1 (do let old <- Builtin.List.listItems (.ref s.heap.objs.size);Builtin.List.listUpdate (.ref s.heap.objs.size) (fun _=>#[]);letGo old.toList.reverse;Uj (.ref s.heap.objs.size) (.ref it) .none) _ _ s1
 generalize s.heap.objs.size=S at *
 refine Oh ?_
 unfold Builtin.List.listItems
 refine Oh (wpAny_seqItems hS1 rfl (Om ?_))
 show wpAny _ A.in1.in1 (updateSeq S (fun _=>#[]) >>= fun _=>letGo (#[]:Array Value).toList.reverse >>= fun _=>Uj (.ref S) (.ref it) .none) _ _ s1
 refine Oh (T2 hS1 rfl ?_)
 have I2:=I1.lset (f:=fun _=>#[]) (its':=[]) (ys:=[]) (t':=s1.toks) Ad hS1 rfl .nil (by simp)
 have hS2:=Ro (Pk (fun _=>(#[]:Array Value))) hS1 rfl
 have j2:=C.keep _ _ _ _ (s1.heap.update S (Pk fun _=>#[])) S [] [] hf Ad j1 (fun b o hb eb=>(Rn _ _ (Pf hb)).trans eb) ⟨_,hS2⟩
 rw [Nd] at I2 j2
 generalize hs2:({ s1 with heap:=s1.heap.update S (Pk fun _=>#[]),toks:=s1.toks }:Shared)=s2 at I2
 replace j2:J 0 [] (upd H S (.lst [])) s2.heap:=by rw [<- hs2];exact j2
 have hs2':({ s1 with heap:=s1.heap.update S (Pk fun _=>#[]) }:Shared)=s2:=hs2
 first | rw [hs2'] | skip
 refine Oh (wpAny_letGo ?_)
 obtain ⟨oi,ei,ci⟩:=C.ty _ _ _ _ j2
 have hT:s2.TypeIs (.ref it) T:=⟨oi,ei,ci⟩
 unfold Uj
 refine Oh (Uc hT ?_)
 have h1:Builtin.List.listSameRef (.ref S) (.ref it)=false:=by simp [Builtin.List.listSameRef,hne]
 have h2:=C.nl.1
 have h3:=C.nl.2
 simp only [h1,h2,h3,Bool.or_false,Sf,if_false]
 refine Oh (C.self _ s2 _ _ _ _ j2 ?_)
 refine Oh (Qb ?_)
 obtain ⟨mr,hmr⟩:=C.hint
 refine hmr _ _ _ _ hT ?_
 split
 ·show wpAny _ A.in1.in1 (rule "list.extend.makes-room" >>= fun _=>Builtin.List.listTouch (.ref S) >>= fun _ =>
   again (.builtin "list.extend.loop" ⟨[.ref S,.ref it,.none],[]⟩)) _ _ _
  refine Oh (Su ?_)
  refine Oh ?_
  show wpAny _ A.in1.in1 (updateSeq S (·.push .none) >>= fun _=>updateSeq S (·.pop)) _ _ _
  obtain ⟨_,its2,m2,rv2,_,e2⟩:=I2.lstM Ad
  cases rv2
  refine Oh (T2 e2 rfl ?_)
  have I3:=I2.lset (f:=(·.push Value.none)) (its':=[.none]) (ys:=[.non]) (t':=s2.toks) Ad e2 (by simp) (.cons rfl .nil) (by show 1<=sizeLine;decide)
  have hS3:=Ro (Pk (·.push Value.none)) e2 rfl
  have j3:=C.keep _ _ _ _ (s2.heap.update S (Pk (·.push Value.none))) S [] [.non] hf Ad j2 (fun b o hb eb=>(Rn _ _ (Pf hb)).trans eb) ⟨_,hS3⟩
  rw [Nd] at I3 j3
  generalize hs3:({ s2 with heap:=s2.heap.update S (Pk (·.push Value.none)),toks:=s2.toks }:Shared)=s3 at I3
  replace j3:J 0 [] (upd H S (.lst [.non])) s3.heap:=by rw [<- hs3];exact j3
  have hs3':({ s2 with heap:=s2.heap.update S (Pk (·.push Value.none)) }:Shared)=s3:=hs3
  first | rw [hs3'] | skip
  obtain ⟨_,its3,m3,rv3,hl3,e3⟩:=I3.lstM Ad
  have hl3':its3.length=1:=hl3.symm
  refine T2 e3 rfl ?_ (by rw [On,hl3'];decide) (by show its3.toArray.pop.size<=sizeLine+1;rw [Array.size_pop,On,hl3'];decide)
  have I4:=I3.lset (f:=(·.pop)) (its':=[]) (ys:=[]) (t':=s3.toks) Ad e3 (by
   cases its3 with
   | nil=>simp at hl3'
   | cons a r=>cases r with
    | nil=>simp
    | cons b r'=>simp at hl3') .nil (by simp)
  have hS4:=Ro (Pk (·.pop)) e3 rfl
  have j4:=C.keep _ _ _ _ (s3.heap.update S (Pk (·.pop))) S [.non] [] hf Ad j3 (fun b o hb eb=>(Rn _ _ (Pf hb)).trans eb) ⟨_,hS4⟩
  rw [Nd] at I4 j4
  refine Om ⟨R3 Sa _,Zey C hn (A:=A.in1) hh S hf .none ?_ n 0 _ _ [] rfl (Pj _) I4 j4 Ad rfl⟩
  intro s' H' ys' I' hS' hl' hj'
  exact ⟨rfl,.ref S,H',I',rfl,q S H' ys' hf hS' hl' hj'⟩
 ·refine Om ⟨R3 Sa _,Zey C hn (A:=A.in1) hh S hf .none ?_ n 0 _ _ [] rfl (Pj _) I2 j2 Ad rfl⟩
  intro s' H' ys' I' hS' hl' hj'
  exact ⟨rfl,.ref S,H',I',rfl,q S H' ys' hf hS' hl' hj'⟩
end
section
variable {X:Cx}{pins:List (Addr×Obj)}{σ:St}{H:Hp}{s:Shared}{h':Heap}
theorem Inv.turned2 {t':Nat}{i1 i2:Addr}(I:Inv X pins σ H s)(k:∀ b o,b≠i1->b≠i2->s.heap.get? b=some o->h'.get? b=some o)(f1:FpOk X pins H i1)(f2:FpOk X pins H i2):Inv X pins σ H { s with heap:=h',toks:=t' }:=by
 obtain ⟨n1,l1,_,e1,c1,p1⟩:=f1
 obtain ⟨n2,l2,_,e2,c2,p2⟩:=f2
 have nit:∀ b u,H b=some u->b≠i1/\b≠i2:=fun b u e=>⟨(fun z=>by rw [z,n1] at e;exact nomatch e),(fun z=>by rw [z,n2] at e;exact nomatch e)⟩
 refine I.step (g':=s.gens) (d':=s.drawn) (ch:=[i1,i2]) (fun b hb=>?_) (fun b o _ _ hc e _=>k b o (fun z=>hc (by simp [z])) (fun z=>hc (by simp [z])) e) (fun b o _ _ hc e _=>⟨o.slots,k b o (fun z=>hc (by simp [z])) (fun z=>hc (by simp [z])) e⟩) (fun _ _ _ _ n=>n)
  (fun b o hc e=>⟨o,k b o (fun z=>hc (by simp [z])) (fun z=>hc (by simp [z])) e⟩) (fun _ _ e=>e) (fun _ _ _ e=>e) (fun b ps e=>⟨#[],by rw [e];simp⟩) (fun m hm=>?_) (fun b u e=>?_) I.bare
 ·rcases Ow.mp hb with rfl | hb
  ·exact ⟨e1,l1,c1,p1⟩
  ·rw [Qo.mp hb]
   exact ⟨e2,l2,c2,p2⟩
 ·obtain ⟨o,es,ep,ho,r⟩:=hm
  exact ⟨o,es,ep,k _ o (Pf l1) (Pf l2) ho,r⟩
 ·refine (I.hok b u e).stay (fun c v hc q=>k c v ?_ ?_ q) (fun _ q=>q) fun _ _ q=>q
  ·rcases hc with z | z
   ·rw [z];exact (nit b u e).1
   ·exact (nit c _ z).1
  ·rcases hc with z | z
   ·rw [z];exact (nit b u e).2
   ·exact (nit c _ z).2
end
theorem FpOk.of {X:Cx}{pins:List (Addr×Obj)}{H H':Hp}{b:Addr}(f:FpOk X pins H b)(h:H' b=none):FpOk X pins H' b:=⟨h,f.2⟩
theorem SqT.kept {K:Og}{H:Hp}{S a:Addr}{zs zs' xs:List V}(hS:H S=some (.lst zs))(h:SqT K H a xs):SqT K (upd H S (.lst zs')) a xs:=by
 rcases h with (h | ⟨o,h⟩) | h
 ·exact .inl (.inl (by rw [Ah (Gu h hS (by intro z;cases z))];exact h))
 ·exact .inl (.inr ⟨o,by rw [Ah (Gu h hS (by intro z;cases z))];exact h⟩)
 ·exact .inr h
theorem SqT.same {K:Og}{H H':Hp}{a:Addr}{xs:List V}(h:SqT K H a xs)(e:Same H H'):SqT K H' a xs:=e.tup h
noncomputable def Pairs (H:Hp)(xs:List V)(ys:List V):Prop:=∀(j:Nat)(y:V),ys[j]?=some y->∃(t:Addr)(x:V),y=V.ref t/\xs[j]?=some x/\H t=some (.tup [.int j,x])
noncomputable def JEn (K:Og)(H0:Hp)(en it a:Addr)(xs:List V):Nat->List V->Hp->Heap->Prop:=fun i ys H h =>
 EnSt h en it i/\h.IsTupleIter it a i/\(H en=none/\H it=none)/\SqT K H a xs/\ys.length=i/\Pairs H xs ys/\Same H0 H
theorem Zmj:typeLookup (.type "enumerate") "__len__" = pure none:=by rw [typeLookup_type,builtinLookup_eq_fast];kernel_rfl
theorem Zhv:typeLookup (.type "enumerate") "__length_hint__" = pure none:=by rw [typeLookup_type,builtinLookup_eq_fast];kernel_rfl
theorem Zp8 {X:Cx}{pins:List (Addr×Obj)}{σ:St}{H0:Hp}{en it a:Addr}{xs:List V}(fe:FpOk X pins H0 en)(fi:FpOk X pins H0 it)(hne:en≠it)(hae:a≠en)(hai:a≠it):Src X pins σ en "enumerate" xs.length H0 (JEn X.K H0 en it a xs) where
 ty:=fun i ys H h j=>by
  obtain ⟨vs,e⟩:=j.1.obj
  exact ⟨_,e,rfl⟩
 nl:=by decide
 hint:=⟨_,fun A s Q E hT h=>Zjq hT Zmj Zhv h⟩
 self:=fun A s ys H Q E j q=>by
  rcases j.1 with ⟨_,old,e⟩ | ⟨z,_⟩
  ·exact wpAny_pyIter_enum e q
  ·exact absurd z (Qa _)
 keep:=fun i ys H h h' S zs zs' h0 hS j k al=>by
  obtain ⟨j1,j2,⟨j3,j4⟩,j5,j6,j7,j8⟩:=j
  have ne1:en≠S:=fun z=>by rw [z,hS] at j3;cases j3
  have ne2:it≠S:=fun z=>by rw [z,hS] at j4;cases j4
  refine ⟨?_,?_,⟨by rw [Ah ne1];exact j3,by rw [Ah ne2];exact j4⟩,j5.kept hS,j6,fun m y hy=>?_,fun b o e=>?_⟩
  ·rcases j1 with ⟨z,old,e⟩ | ⟨z,a0,oa,f1,old,e,ea,x1,x2⟩
   ·exact .inl ⟨z,old,k _ _ ne1 e⟩
   ·by_cases hs:a0=S
    ·subst hs
     obtain ⟨o,eo⟩:=al
     exact .inr ⟨z,a0,o,f1,old,k _ _ ne1 e,eo,x1,x2⟩
    ·exact .inr ⟨z,a0,oa,f1,old,k _ _ ne1 e,k _ _ hs ea,x1,x2⟩
  ·exact j2.at fun o e=>k _ _ ne2 e
  ·obtain ⟨t,x,e1,e2,e3⟩:=j7 m y hy
   exact ⟨t,x,e1,e2,by rw [Ah (Gu e3 hS (by intro z;cases z))];exact e3⟩
  ·have:b≠S:=fun z=>by rw [z,h0] at e;cases e
   rw [Ah this]
   exact j8 b o e
 fresh:=fun i ys H h j=>j.2.2.1.1
 item:=fun A i s H ys E hh hi I j=>by
  obtain ⟨j1,j2,⟨j3,j4⟩,j5,j6,j7,j8⟩:=j
  obtain ⟨its,rv,p,hz⟩:=I.tuple j5
  have hl:=rv.length
  have D:=Zb1 (prog:=X.prog) (w:=X.w) (A:=A.in1) hh it a hai its.toArray
  refine Zgv D j1 ⟨j2,p⟩ (by rw [On];omega) hne (by simp [hne,Pf hae]) fun x h' tk hx st' it' ht hsz kk=>?_
  have I1:Inv X pins σ H { s with heap:=h',toks:=tk+1 }:=I.turned2 (fun b o h1 h2 e=>kk b o h1 h2 e) (fe.of j3) (fi.of j4)
  have hx':its[i]?=some x:=by simpa using hx
  have hxs:i < xs.length:=hi
  obtain ⟨u,hu,ru⟩:=rv.get (Oi hxs)
  rw [hx'] at hu
  cases hu
  have hf:H s.heap.objs.size=none:=I.hok.fresh (Ol _)
  have I2:Inv X pins σ (upd H s.heap.objs.size (.tup [.int i,xs[i]])) { s with heap:=h',toks:=tk+1 }:=by
   have hokN:HOk X.prog X.w (upd H s.heap.objs.size (.tup [.int i,xs[i]])) h':=fun b o e=>by
    by_cases hb:b=s.heap.objs.size
    ·subst hb
     rw [Ad] at e
     cases e
     exact ⟨by show 2<=sizeLine;decide,[.int i tk,x],.cons ⟨tk,rfl⟩ (.cons ru .nil),⟨_,ht,rfl,_,rfl⟩⟩
    ·rw [Ah hb] at e
     refine (I1.hok b o e).stay (fun c v _ q=>q) (fun c q=>?_) fun c zs q=>?_
     ·rw [Ah (Bf q hf)];exact q
     ·rw [Ah (Bf q hf)];exact q
   have u:Un (Co X.stack) [en,it] H (upd H s.heap.objs.size (.tup [.int i,xs[i]])) s.heap h':={
    keep:=fun b o e n _ hx=>kk b o (fun z=>hx (by simp [z])) (fun z=>hx (by simp [z])) e
    slot:=fun b o e n _ hx=>⟨o.slots,kk b o (fun z=>hx (by simp [z])) (fun z=>hx (by simp [z])) e⟩
    free:=fun b o e n _=>by rw [Ah (Oy (Os e))];exact n
    there:=fun b o e hx=>⟨o,kk b o (fun z=>hx (by simp [z])) (fun z=>hx (by simp [z])) e⟩
    tups:=fun b zs e=>by rw [Ah (Bf e hf)];exact e
    frzs:=fun b o u e=>by rw [Ah (Bf e hf)];exact e
    tbls:=fun b ps e=>⟨#[],by rw [Ah (Bf e hf),e];simp⟩ }
   refine I.call (g':=s.gens) (d':=s.drawn) (t':=tk+1) u hokN I.bare fun b hb=>?_
   rcases Ow.mp hb with rfl | hb
   ·exact ⟨fe.2.2.2.1,fe.2.1,fe.2.2.2.2.1,fe.2.2.2.2.2⟩
   ·rw [Qo.mp hb]
    exact ⟨fi.2.2.2.1,fi.2.1,fi.2.2.2.2.1,fi.2.2.2.2.2⟩
  have sm:Same H (upd H s.heap.objs.size (.tup [.int i,xs[i]])):=Same.upd hf
  have ne1:en≠s.heap.objs.size:=by obtain ⟨_,e⟩:=j1.obj;exact Oy (Os e)
  have ne2:it≠s.heap.objs.size:=by obtain ⟨_,e,_⟩:=j2;exact Oy (Os e)
  refine ⟨_,.ref s.heap.objs.size,_,rfl,rfl,I2,⟨st',it'.1,⟨by rw [Ah ne1];exact j3,by rw [Ah ne2];exact j4⟩,j5.same sm,by simp [j6],fun m y hy=>?_,j8.trans sm⟩,fun S zs e=>sm S _ e⟩
  by_cases hm:m < i
  ·rw [Qj (by omega)] at hy
   obtain ⟨t,z,e1,e2,e3⟩:=j7 m y hy
   exact ⟨t,z,e1,e2,sm _ _ e3⟩
  ·have hlen:=(O6.mp hy).1
   rw [Ou,Pz] at hlen
   have:m=i:=by omega
   subst this
   rw [Qi (by omega),j6,Rh] at hy
   have hy:V.ref s.heap.objs.size=y:=by simpa using hy
   exact ⟨_,xs[m],hy.symm,Oi hxs,Ad⟩
 done:=fun A s H ys E hh I j=>by
  obtain ⟨j1,j2,⟨j3,j4⟩,j5,j6,j7,j8⟩:=j
  obtain ⟨its,rv,p,hz⟩:=I.tuple j5
  have hl:=rv.length
  have D:=Zb1 (prog:=X.prog) (w:=X.w) (A:=A.in1) hh it a hai its.toArray
  have e:xs.length=its.toArray.size:=by rw [On];omega
  rw [e] at j1 j2
  refine Zom D j1 ⟨j2,p⟩ fun h' eb=>⟨rfl,?_⟩
  obtain ⟨g0,g1,g2,g3,g4,g5⟩:=fi.of j4
  exact I.turned (t':=s.toks) (fun b o hb e=>eb b o hb e) g0 g1 g3 g4 g5
section
variable {X:Cx}
theorem Zoy:bootBuiltins "list" = some (.type "list"):=by decide +kernel
noncomputable def Md (K:Og)(ta:TA):TE:=fun σ H Q=>ta σ H fun vs H1=>∃ a xs,vs=[.ref a]/\SqT K H1 a xs /\
 ∀(S:Addr)(ys:List V)(H2:Hp),H1 S=none->Same H1 H2->ys.length=xs.length->Pairs H2 xs ys->H2 S=some (.lst ys)->Q (.ref S) H2
theorem Znn {e:Expr}{ta:TA}{p p2 pos pos2:Pos}(hg:Gl X "list")(hm:X.mg "list" = none)(hg2:Gl X "enumerate")(hm2:X.mg "enumerate" = none)(ha:QA X [e] ta)(hc:X.calm=true:=by rfl)
  (hs:starEach [.Call (.Name "enumerate" p2) [e] [] pos2] X.env=[(false,eval (.Call (.Name "enumerate" p2) [e] [] pos2) X.env)]:=by rfl) (hs2:starEach [e] X.env=[(false,eval e X.env)]:=by rfl) :
  QE X (.Call (.Name "list" p) [.Call (.Name "enumerate" p2) [e] [] pos2] [] pos) (Md X.K ta):=by
 refine ⟨fun pins s σ H Q I h=>?_⟩
 refine Call_ (D4 I hg hm Zoy (Qx ?_ hs rfl))
 rw [hs]
 show wpAny _ _ (spliced ((false,eval (.Call (.Name "enumerate" p2) [e] [] pos2) X.env)::[])) _ _ s
 refine Ux ?_
 refine Call_ (D4 I hg2 hm2 PyProof.Rows.boot_enumerate (Qx (Ag (ha.run pos2 pins s σ H _ I h) fun us s1 zq=>?_) hs2 rfl))
 obtain ⟨vs,H1,I1,r1,q1⟩:=zq
 obtain ⟨a,xs,e1,hq,q⟩:=q1
 subst e1
 cases r1 with
 | cons r rr =>
  cases rr
  cases r
  obtain ⟨its,rv,pt,hz⟩:=I1.tuple hq
  have hlt:a < s1.heap.objs.size:=by obtain ⟨o,e,_⟩:=id pt;exact Os e
  refine Zpk (show s1.heap.IsTuple a its.toArray from pt) fun h' hen hit hsz hk=>?_
  refine U7 ?_
  have I2:Inv X pins σ H1 { s1 with heap:=h' }:=I1.kept (t':=s1.toks) hk
  have fe:=I1.fpOk (b:=s1.heap.objs.size+1) (Ss _) (I1.hok.fresh (Ss _))
  have fi:=I1.fpOk (b:=s1.heap.objs.size) (Ol _) (I1.hok.fresh (Ol _))
  have C:=Zp8 (X:=X) (pins:=pins) (σ:=σ) (H0:=H1) (en:=s1.heap.objs.size+1) (it:=s1.heap.objs.size) (a:=a) (xs:=xs) fe fi (Nat.succ_ne_self _) (Oy (Nat.lt_succ_of_lt hlt)) (Oy hlt)
  refine Zoo C (by omega) (I1.ok.hd hc) I2 ⟨.inl ⟨rfl,_,hen⟩,hit,⟨fe.1,fi.1⟩,hq,rfl,fun j y hy=>by simp at hy,Same.refl _⟩ (fun S hge hS h2 k2=>?_) fun S H' ys hS hS' hl' hj=>?_
  ·have sm:Same H1 (upd H1 S (.lst [])):=Same.upd hS
   refine ⟨.inl ⟨rfl,_,k2 _ _ hen⟩,hit.at fun o e=>k2 _ _ e,⟨?_,?_⟩,hq.same sm,rfl,fun j y hy=>by simp at hy,sm⟩
   ·rw [Ah (show s1.heap.objs.size+1≠S from fun z=>?_)]
    ·exact fe.1
    ·have hge:h'.objs.size<=S:=hge
     omega
   ·rw [Ah (show s1.heap.objs.size≠S from fun z=>?_)]
    ·exact fi.1
    ·have hge:h'.objs.size<=S:=hge
     omega
  ·obtain ⟨h,j⟩:=hj
   exact q S ys H' hS j.2.2.2.2.2.2 hl' j.2.2.2.2.2.1 hS'
end
end L2
namespace L2
open PySem PySem.SeqAt
open PySem.AutoSeq1 (wpAny_loadPart')
open PySem.MeetsSeq PySem.MeetsSeq2 PySem.MeetsSeq3 PySem.SeqRoads2
theorem Zo7 (l b:Addr)(items items2:Array Value)(n n2:Nat)(dd dd2:Option Addr)(sl sl2:Array (Option Value))(hsz:items.size=items2.size)(e:Nat->Bool)(k:Nat) :
  ∀ i:Nat,items.size - i=k->Meets (Builtin.«list.__eq__.loop» ⟨[.ref l,.ref b,rawInt i,rawInt 3],[]⟩)
   (fun A R s=>s.heap.get? l=some { cls:=.type "list",dict:=dd,data:=.seq items n,slots:=sl }/\s.heap.get? b=some { cls:=.type "list",dict:=dd2,data:=.seq items2 n2,slots:=sl2 } /\
    (∀ j (h1:j < items.size) (h2:j < items2.size),EqAt A.in1 s items[j] items2[j] (e j)) /\
    R (.ok (.ret (.bool (!((O2 items.size).drop i).all e)))) s):=by
 induction k with
 | zero =>
  intro i hk prog w A R s h
  obtain ⟨hp,g,d,tk,os⟩:=s;obtain ⟨hl,hb,he,h⟩:=h
  wp_walk using wpAny_loadPart' hl,wpAny_loadPart' hb
  have hi1:items[((i:Nat):Int).toNat]?=none:=by simp;omega
  have hi2:items2[((i:Nat):Int).toNat]?=none:=by simp;omega
  have hd:(O2 items.size).drop i=[]:=by simp;omega
  rw [hd] at h
  rw [hi1,hi2]
  wp_walk using wpAny_loadPart' hl,wpAny_loadPart' hb
  show R (.ok (.ret (.bool (items.size != items2.size)))) _
  rw [hsz]
  simpa using h
 | succ k ih =>
  intro i hk prog w A R s h
  obtain ⟨hp,g,d,tk,os⟩:=s;obtain ⟨hl,hb,he,h⟩:=h
  wp_walk using wpAny_loadPart' hl,wpAny_loadPart' hb
  have hlt:i < items.size:=by omega
  have hlt2:i < items2.size:=by omega
  have hi1:items[((i:Nat):Int).toNat]?=some items[i]:=by simp [hlt]
  have hi2:items2[((i:Nat):Int).toNat]?=some items2[i]:=by simp [hlt2]
  have hd:(O2 items.size).drop i=i::(O2 items.size).drop (i+1):=by simp [Qk,hlt]
  have hc:((i:Int)+1)=((i+1:Nat):Int):=by push_cast;rfl
  rw [hd,Rg] at h
  rw [hi1,hi2]
  refine Oh (he i hlt hlt2 prog w _ _ ?_)
  cases hb':e i with
  | true =>
   rw [hb'] at h
   wp_walk
   rw [hc]
   exact ⟨R3 plain_eq_loop _,Sl entry_eq_loop (by
    rw [Sc plain_eq_loop _]
    exact ih (i+1) (by omega) prog w A R _ ⟨hl,hb,he,by simpa using h⟩)⟩
  | false =>
   rw [hb'] at h
   wp_walk using wpAny_loadPart' hl,wpAny_loadPart' hb
   rw [hi1,hi2]
   wp_walk
   simpa using h
theorem Zh3 (l b:Addr)(items items2:Array Value)(n n2:Nat)(dd dd2:Option Addr)(sl sl2:Array (Option Value))(hsz:items.size=items2.size)(e:Nat->Bool) :
  Meets (Builtin.«list.__ne__» ⟨[.ref l,.ref b],[]⟩)
   (fun A R s=>s.heap.get? l=some { cls:=.type "list",dict:=dd,data:=.seq items n,slots:=sl }/\s.heap.get? b=some { cls:=.type "list",dict:=dd2,data:=.seq items2 n2,slots:=sl2 } /\
    (∀ j (h1:j < items.size) (h2:j < items2.size),EqAt A.in1 s items[j] items2[j] (e j)) /\
    R (.ok (.ret (.bool (!(O2 items.size).all e)))) s):=by
 intro prog w A R s h
 obtain ⟨hp,g,d,tk,os⟩:=s;obtain ⟨hl,hb,he,h⟩:=h
 have f3:=PySem.AutoSeq1.sub_list_list
 have hne:¬ (items.size != items2.size)=true:=by simp [hsz]
 wp_walk using wpAny_loadPart' hl,wpAny_loadPart' hb
 exact ⟨R3 plain_eq_loop _,Sl entry_eq_loop (by
  rw [Sc plain_eq_loop _]
  exact Zo7 l b items items2 n n2 dd dd2 sl sl2 hsz e _ 0 rfl prog w A R _ ⟨hl,hb,he,by simpa using h⟩)⟩
theorem Zhh (l b:Addr)(items items2:Array Value)(n n2:Nat)(dd dd2:Option Addr)(sl sl2:Array (Option Value))(e:Nat->Bool) :
  Meets (Builtin.«tuple.__ne__» ⟨[.ref l,.ref b],[]⟩)
   (fun A R s=>s.heap.get? l=some { cls:=.type "tuple",dict:=dd,data:=.seq items n,slots:=sl }/\s.heap.get? b=some { cls:=.type "tuple",dict:=dd2,data:=.seq items2 n2,slots:=sl2 } /\
    (∀ j (h1:j < items.size) (h2:j < items2.size),EqAt A.in1 s items[j] items2[j] (e j)) /\
    R (.ok (.ret (.bool (!((O2 (min items.size items2.size)).all e && items.size == items2.size))))) s) :=
 .of_wp fun prog w A R s h=>by
  obtain ⟨hp,g,d,tk,os⟩:=s;obtain ⟨hl,hb,he,h⟩:=h
  have f2:=PySem.AutoSeq1.sub_tuple_tuple
  have hZ:(items.toList.zip items2.toList).length=min items.size items2.size:=by simp
  wp_walk using wpAny_loadPart' hl,wpAny_loadPart' hb,wpAny_forIn_list _ (fun rest b s'=>b.1=none/\s'=⟨hp,g,d,tk,os⟩/\∃ i,rest=(items.toList.zip items2.toList).drop i /\
   R (.ok (.ret (.bool (!(((O2 (min items.size items2.size)).drop i).all e && items.size == items2.size))))) ⟨hp,g,d,tk,os⟩) _
  case turn =>
   rintro ⟨y,x⟩ rest b s' ⟨hb',rfl,i,hz,hR⟩
   have hlt:i < (items.toList.zip items2.toList).length:=by
    rcases Nat.lt_or_ge i (items.toList.zip items2.toList).length with h' | h'
    ·exact h'
    ·rw [Q7 h'] at hz;cases hz
   have hm:i < min items.size items2.size:=hZ ▸ hlt
   have h1:i < items.size:=O3 hm (Nat.min_le_left _ _)
   have h2:i < items2.size:=O3 hm (Nat.min_le_right _ _)
   rw [Qk hlt] at hz
   injection hz with hyx hrest
   have hy:y=items[i]:=by have:=congrArg Prod.fst hyx;simpa using this
   have hx:x=items2[i]:=by have:=congrArg Prod.snd hyx;simpa using this
   subst hy hx
   have hd:(O2 (min items.size items2.size)).drop i=i::(O2 (min items.size items2.size)).drop (i+1):=by simp [Qk,hm]
   rw [hd,Rg] at hR
   refine Oh (he i h1 h2 prog w _ _ ?_)
   cases hy:e i with
   | true =>
    rw [hy] at hR
    wp_walk
    exact ⟨rfl,rfl,i+1,hrest,by simpa using hR⟩
   | false =>
    rw [hy] at hR
    wp_walk
    exact ⟨_,rfl,by simpa using hR⟩
  case fin =>
   rintro ⟨b1,b2⟩ s' ⟨hb',rfl,i,hz,hR⟩
   simp only at hb'
   subst hb'
   have hge:min items.size items2.size<=i:=by
    rcases Nat.lt_or_ge i (items.toList.zip items2.toList).length with h' | h'
    ·rw [Qk h'] at hz;cases hz
    ·exact hZ ▸ h'
   rw [Q7 (by simpa using hge)] at hR
   wp_walk
   exact ⟨_,rfl,by simpa [Builtin.Tuple.tupleCompareSizes,bne] using hR⟩
  case h =>
   exact ⟨rfl,rfl,0,rfl,by simpa using h⟩
section
variable {prog:Program}{w:World}{A:Around}{E:Value->Shared->Prop}{s:Shared}
theorem Zmr {l b:Addr}{items items2:Array Value}{e:Nat->Bool}{Q:Value->Shared->Prop}(hl:s.heap.IsList l items)(hb:s.heap.IsList b items2)(hsz:items.size=items2.size)(hu:A.units < cLine)
  (he:∀ j (h1:j < items.size) (h2:j < items2.size),EqAt A.in1 s items[j] items2[j] (e j)) (h:Q (.bool (!(O2 items.size).all e)) s):wpAny (model prog w) A (compareOp .NotEq (.ref l) (.ref b)) Q E s:=by
 obtain ⟨⟨cls,dd,data,sl⟩,ho,hc,n,hd⟩:=id hl
 obtain ⟨⟨cls2,dd2,data2,sl2⟩,ho2,hc2,n2,hd2⟩:=id hb
 simp only at hc hd hc2 hd2
 subst hc hd hc2 hd2
 exact richCompare_meets_room (op:=.NotEq) ⟨_,ho,rfl⟩ ⟨_,ho2,rfl⟩ F.slot_list_ne F.entry_list_ne (F.args_list_ne_2 _ _) (Zh3 l b items items2 n n2 dd dd2 sl sl2 hsz e)
  ⟨ho,ho2,he,show Value.bool (!(O2 items.size).all e)≠Value.notImplemented/\Q (.bool (!(O2 items.size).all e)) s from ⟨(fun x=>nomatch x),h⟩⟩ hu
theorem Znx {l b:Addr}{items items2:Array Value}{e:Nat->Bool}{Q:Value->Shared->Prop}(hl:s.heap.IsTuple l items)(hb:s.heap.IsTuple b items2)(hu:A.units < cLine)
  (he:∀ j (h1:j < items.size) (h2:j < items2.size),EqAt A.in1 s items[j] items2[j] (e j)) (h:Q (.bool (!((O2 (min items.size items2.size)).all e && items.size == items2.size))) s):wpAny (model prog w) A (compareOp .NotEq (.ref l) (.ref b)) Q E s:=by
 obtain ⟨⟨cls,dd,data,sl⟩,ho,hc,n,hd⟩:=id hl
 obtain ⟨⟨cls2,dd2,data2,sl2⟩,ho2,hc2,n2,hd2⟩:=id hb
 simp only at hc hd hc2 hd2
 subst hc hd hc2 hd2
 exact richCompare_meets_room (op:=.NotEq) ⟨_,ho,rfl⟩ ⟨_,ho2,rfl⟩ F.slot_tuple_ne F.entry_tuple_ne (F.args_tuple_ne_2 _ _) (Zhh l b items items2 n n2 dd dd2 sl sl2 e)
  ⟨ho,ho2,he,show Value.bool (!((O2 (min items.size items2.size)).all e && items.size == items2.size))≠Value.notImplemented/\Q (.bool (!((O2 (min items.size items2.size)).all e && items.size == items2.size))) s from ⟨(fun x=>nomatch x),h⟩⟩ hu
end
end L2
namespace L2
open PySem PySem.Spec PyProof.Rows
inductive Dt where
 | flat (v:V)
 | tup (ds:List Dt)
 | lst (ds:List Dt)
inductive Bl (K:Og)(H:Hp):Nat->V->Dt->Prop where
 | flat {n:Nat} {v:V} (h:Ca v=true):Bl K H n v (.flat v)
 | tup {n:Nat} {a:Addr} {vs:List V} {ds:List Dt} (q:SqT K H a vs) (l:vs.length=ds.length) (h:∀(j:Nat)(v:V)(d:Dt),vs[j]?=some v->ds[j]?=some d->Bl K H n v d):Bl K H (n+1) (.ref a) (.tup ds)
 | lst {n:Nat} {a:Addr} {vs:List V} {ds:List Dt} (q:SqL K H a vs) (l:vs.length=ds.length) (h:∀(j:Nat)(v:V)(d:Dt),vs[j]?=some v->ds[j]?=some d->Bl K H n v d):Bl K H (n+1) (.ref a) (.lst ds)
theorem Zes {v:V}(h:Ca v=true):De v v=true:=by
 cases v with
 | non=>rfl
 | bl b=>simp [De]
 | int i=>simp [De]
 | str x=>simp [De]
 | byt _=>cases h
 | flt _=>cases h
 | ref _=>cases h
 | ty _=>cases h
section
variable {X:Cx}{pins:List (Addr×Obj)}{σ:St}{H:Hp}{s:Shared}
theorem Zgq (I:Inv X pins σ H s):∀{n:Nat}{x y:V}{d:Dt},Bl X.K H n x d->Bl X.K H n y d->∀{A:Around}{u v:Value},RelV x u->RelV y v->A.units+n < cLine->Oj A s u v true:=by
 intro n
 induction n with
 | zero =>
  intro x y d hx hy A u v rx ry hu
  cases hx with
  | flat fx =>
   cases hy with
   | flat fy =>
    have:=Mn (A:=A) (s:=s) rx ry fx fy
    rw [Zes fx] at this
    exact this
 | succ n ih =>
  intro x y d hx hy A u v rx ry hu
  cases hx with
  | flat fx =>
   cases hy with
   | flat fy =>
    have:=Mn (A:=A) (s:=s) rx ry fx fy
    rw [Zes fx] at this
    exact this
  | @tup _ a vs ds q l h =>
   cases hy with
   | @tup _ b ws _ q' l' h' =>
    cases rx
    cases ry
    by_cases hab:a=b
    ·subst hab
     exact Rf _
    obtain ⟨its,r1,p1,_⟩:=I.tuple q
    obtain ⟨its2,r2,p2,_⟩:=I.tuple q'
    have l1:=r1.length
    have l2:=r2.length
    have:=Si (A:=A) (e:=fun _=>true) (show s.heap.IsTuple a its.toArray from p1) (show s.heap.IsTuple b its2.toArray from p2) (by omega) fun j h1 h2=>by
     have h1':j < vs.length:=by simp only [On] at h1;omega
     have h2':j < ws.length:=by simp only [On] at h2;omega
     obtain ⟨u1,g1,k1⟩:=r1.get (Oi h1')
     obtain ⟨u2,g2,k2⟩:=r2.get (Oi h2')
     have e1:its.toArray[j]=u1:=by
      have:its[j]?=some its[j]:=by simp
      rw [this] at g1
      simpa using g1
     have e2:its2.toArray[j]=u2:=by
      have:its2[j]?=some its2[j]:=by simp
      rw [this] at g2
      simpa using g2
     rw [e1,e2]
     have hd:j < ds.length:=by omega
     exact ih (h j _ _ (Oi h1') (Oi hd)) (h' j _ _ (Oi h2') (Oi hd)) k1 k2 (by show A.units+1+n < cLine;omega)
    have e:((O2 (min its.toArray.size its2.toArray.size)).all (fun _=>true) && its.toArray.size == its2.toArray.size)=true:=by
     have:its.toArray.size=its2.toArray.size:=by simp only [On];omega
     rw [this]
     simp
    rw [e] at this
    exact Sg hab this
  | @lst _ a vs ds q l h =>
   cases hy with
   | @lst _ b ws _ q' l' h' =>
    cases rx
    cases ry
    by_cases hab:a=b
    ·subst hab
     exact Rf _
    obtain ⟨its,r1,p1,_⟩:=I.list q
    obtain ⟨its2,r2,p2,_⟩:=I.list q'
    have l1:=r1.length
    have l2:=r2.length
    have:=Qu.lists (A:=A) (e:=fun _=>true) p1.isList p2.isList (by simp only [On];omega) (by omega) fun j h1 h2=>by
     have h1':j < vs.length:=by simp only [On] at h1;omega
     have h2':j < ws.length:=by simp only [On] at h2;omega
     obtain ⟨u1,g1,k1⟩:=r1.get (Oi h1')
     obtain ⟨u2,g2,k2⟩:=r2.get (Oi h2')
     have e1:its.toArray[j]=u1:=by
      have:its[j]?=some its[j]:=by simp
      rw [this] at g1
      simpa using g1
     have e2:its2.toArray[j]=u2:=by
      have:its2[j]?=some its2[j]:=by simp
      rw [this] at g2
      simpa using g2
     rw [e1,e2]
     have hd:j < ds.length:=by omega
     exact ih (h j _ _ (Oi h1') (Oi hd)) (h' j _ _ (Oi h2') (Oi hd)) k1 k2 (by show A.units+1+n < cLine;omega)
    have e:(O2 its.toArray.size).all (fun _=>true)=true:=by simp
    rw [e] at this
    exact Sg hab this
theorem K2 (I:Inv X pins σ H s){n:Nat}{A:Around}{vs ws:List V}{its its2:List Value}{ds:List Dt}(r1:Vals vs its)(r2:Vals ws its2)(l:vs.length=ds.length)(l':ws.length=ds.length)
  (h:∀(j:Nat)(v:V)(d:Dt),vs[j]?=some v->ds[j]?=some d->Bl X.K H n v d) (h':∀(j:Nat)(v:V)(d:Dt),ws[j]?=some v->ds[j]?=some d->Bl X.K H n v d) (hu:A.units+n < cLine) :
  ∀ j (h1:j < its.toArray.size) (h2:j < its2.toArray.size),Oj A s its.toArray[j] its2.toArray[j] ((fun _=>true) j):=fun j h1 h2=>by
 have l1:=r1.length
 have l2:=r2.length
 have h1':j < vs.length:=by simp only [On] at h1;omega
 have h2':j < ws.length:=by simp only [On] at h2;omega
 obtain ⟨u1,g1,k1⟩:=r1.get (Oi h1')
 obtain ⟨u2,g2,k2⟩:=r2.get (Oi h2')
 have e1:its.toArray[j]=u1:=by
  have:its[j]?=some its[j]:=by simp
  rw [this] at g1
  simpa using g1
 have e2:its2.toArray[j]=u2:=by
  have:its2[j]?=some its2[j]:=by simp
  rw [this] at g2
  simpa using g2
 rw [e1,e2]
 have hd:j < ds.length:=by omega
 exact Zgq I (h j _ _ (Oi h1') (Oi hd)) (h' j _ _ (Oi h2') (Oi hd)) k1 k2 hu
end
section
variable {X:Cx}
noncomputable def J5 (K:Og)(b:Bool):R2:=fun x y H Q=>∃(a c:Addr)(n:Nat)(d:Dt),x=.ref a/\y=.ref c/\n<=190/\Bl K H n x d/\Bl K H n y d/\Q (.bl b) H
theorem Zle (hu:X.A.units+200 < cLine):OpR X (compareOp .Eq) (J5 X.K true):=by
 intro pins s σ H x y v u Q I rx ry h
 obtain ⟨a,c,n,d,rfl,rfl,hn,hx,hy,q⟩:=h
 cases rx
 cases ry
 cases hx with
 | flat fx=>cases fx
 | @tup n _ vs ds qx l hd =>
  cases hy with
  | @tup _ _ ws _ qy l' hd' =>
   obtain ⟨its,r1,p1,_⟩:=I.tuple qx
   obtain ⟨its2,r2,p2,_⟩:=I.tuple qy
   have l1:=r1.length
   have l2:=r2.length
   refine SeqAt.eq_tupleAt (e:=fun _=>true) (show s.heap.IsTuple a its.toArray from p1) (show s.heap.IsTuple c its2.toArray from p2) (by omega) (K2 I r1 r2 l l' hd hd' (by show X.A.units+1+n < cLine;omega)) ?_
   have e:((O2 (min its.toArray.size its2.toArray.size)).all (fun _=>true) && its.toArray.size == its2.toArray.size)=true:=by
    have:its.toArray.size=its2.toArray.size:=by simp only [On];omega
    rw [this]
    simp
   rw [e]
   exact ⟨.bl true,H,I,rfl,q⟩
 | @lst n _ vs ds qx l hd =>
  cases hy with
  | @lst _ _ ws _ qy l' hd' =>
   obtain ⟨its,r1,p1,_⟩:=I.list qx
   obtain ⟨its2,r2,p2,_⟩:=I.list qy
   have l1:=r1.length
   have l2:=r2.length
   refine SeqAt.eq_listAt (e:=fun _=>true) p1.isList p2.isList (by simp only [On];omega) (by omega) (K2 I r1 r2 l l' hd hd' (by show X.A.units+1+n < cLine;omega)) ?_
   have e:(O2 its.toArray.size).all (fun _=>true)=true:=by simp
   rw [e]
   exact ⟨.bl true,H,I,rfl,q⟩
theorem Zl7 (hu:X.A.units+200 < cLine):OpR X (compareOp .NotEq) (J5 X.K false):=by
 intro pins s σ H x y v u Q I rx ry h
 obtain ⟨a,c,n,d,rfl,rfl,hn,hx,hy,q⟩:=h
 cases rx
 cases ry
 cases hx with
 | flat fx=>cases fx
 | @tup n _ vs ds qx l hd =>
  cases hy with
  | @tup _ _ ws _ qy l' hd' =>
   obtain ⟨its,r1,p1,_⟩:=I.tuple qx
   obtain ⟨its2,r2,p2,_⟩:=I.tuple qy
   have l1:=r1.length
   have l2:=r2.length
   refine Znx (e:=fun _=>true) (show s.heap.IsTuple a its.toArray from p1) (show s.heap.IsTuple c its2.toArray from p2) (by omega) (K2 I r1 r2 l l' hd hd' (by show X.A.units+1+n < cLine;omega)) ?_
   have e:(!((O2 (min its.toArray.size its2.toArray.size)).all (fun _=>true) && its.toArray.size == its2.toArray.size))=false:=by
    have:its.toArray.size=its2.toArray.size:=by simp only [On];omega
    rw [this]
    simp
   rw [e]
   exact ⟨.bl false,H,I,rfl,q⟩
 | @lst n _ vs ds qx l hd =>
  cases hy with
  | @lst _ _ ws _ qy l' hd' =>
   obtain ⟨its,r1,p1,_⟩:=I.list qx
   obtain ⟨its2,r2,p2,_⟩:=I.list qy
   have l1:=r1.length
   have l2:=r2.length
   refine Zmr (e:=fun _=>true) p1.isList p2.isList (by simp only [On];omega) (by omega) (K2 I r1 r2 l l' hd hd' (by show X.A.units+1+n < cLine;omega)) ?_
   have e:(!(O2 its.toArray.size).all (fun _=>true))=false:=by simp
   rw [e]
   exact ⟨.bl false,H,I,rfl,q⟩
noncomputable def Jp (K:Og):R2:=fun x y H Q=>rEq x y H Q\/J5 K true x y H Q
noncomputable def Ki (K:Og):R2:=fun x y H Q=>rNe x y H Q\/J5 K false x y H Q
theorem Zo6 (hu:X.A.units+200 < cLine):OpR X (compareOp .Eq) (Jp X.K):=op_eq.or (Zle hu)
theorem Zpj (hu:X.A.units+200 < cLine):OpR X (compareOp .NotEq) (Ki X.K):=op_ne.or (Zl7 hu)
theorem s_eq {K:Og}{x y:V}{H:Hp}{Q:VK}(hs:Ec x y=true)(h:Q (.bl (decide (x=y))) H):Jp K x y H Q:=.inl ⟨hs,h⟩
theorem s_ne {K:Og}{x y:V}{H:Hp}{Q:VK}(hs:Ec x y=true)(h:Q (.bl (!decide (x=y))) H):Ki K x y H Q:=.inl ⟨hs,h⟩
theorem Room.u200 {k:Nat}{A:Around}(r:Room k A):A.units+200 < cLine:=by have:=r.un;omega
end
section
variable {t u:TS}{c d:TT}{te ta tb tc:TE}{g:TG}{gs:Ct}{ts:TA}{D:Cp}{σ:St}{H:Hp}{Q:VK}{QB:Bool->Hp->Prop}{QA':List V->Hp->Prop}
theorem s_seq (h:t { D with nx:=u D } σ H):F8 t u D σ H:=h
theorem s_asg (h:te σ H fun x H1=>g x σ H1 D.nx):Em te g D σ H:=h
theorem s_ret (h:te σ H D.rt):D8 te D σ H:=h
theorem s_drop (h:te σ H fun _ H1=>D.nx σ H1):Mg te D σ H:=h
theorem s_next (h:D.nx σ H):Gp D σ H:=h
theorem s_ifS (h:c σ H fun b H1=>if b=true then t D σ H1 else u D σ H1):F6 c t u D σ H:=h
theorem s_var {i:Nat}{v:V}(e:σ[i]?=some (some v))(h:Q v H):Be i σ H Q:=⟨v,e,h⟩
theorem s_c {v:V}(h:Q v H):tC v σ H Q:=h
theorem s_op {r:R2}(h:ta σ H fun x H1=>tb σ H1 fun y H2=>r x y H2 Q):Bp r ta tb σ H Q:=h
theorem s_un {r:V->Hp->VK->Prop}(h:ta σ H fun x H1=>r x H1 Q):tUn r ta σ H Q:=h
theorem s_test (h:te σ H fun x H'=>∃ k,x=.bl k/\QB k H'):Dp te σ H QB:=h
theorem s_tB (h:te σ H fun x H'=>∃ k,x=.bl k/\QB k H'):tB te σ H QB:=h
theorem s_ex {b:Bool}{P:Bool->Prop}(h:P b):∃ k,V.bl b=V.bl k/\P k:=⟨b,rfl,h⟩
theorem s_exi {i:Int}{P:Int->Prop}(h:P i):∃ k,V.int i=V.int k/\P k:=⟨i,rfl,h⟩
theorem s_not (h:c σ H fun b H1=>QB (!b) H1):Mz c σ H QB:=h
theorem s_and (h:c σ H fun b H1=>if b=true then d σ H1 QB else QB false H1):Ir c d σ H QB:=h
theorem s_or (h:c σ H fun b H1=>if b=true then QB true H1 else d σ H1 QB):tOr c d σ H QB:=h
theorem s_andV (h:ta σ H fun x H1=>∃ k,x=.bl k/\if k=true then tb σ H1 Q else Q (.bl false) H1):Ie ta tb σ H Q:=h
theorem s_orV (h:ta σ H fun x H1=>∃ k,x=.bl k/\if k=true then Q (.bl true) H1 else tb σ H1 Q):N0 ta tb σ H Q:=h
theorem s_notV (h:ta σ H fun x H1=>∃ k,x=.bl k/\Q (.bl (!k)) H1):Nj ta σ H Q:=h
theorem s_nil (h:QA' [] H):Ce σ H QA':=h
theorem s_cons (h:te σ H fun x H1=>ts σ H1 fun xs H2=>QA' (x::xs) H2):Br te ts σ H QA':=h
theorem s_vals {xs:List V}(h:QA' xs H):Ig xs σ H QA':=h
theorem s_tup (h:ts σ H fun xs H1=>xs.length<=sizeLine/\∀ p,H1 p=none->Q (.ref p) (upd H1 p (.tup xs))):E8 ts σ H Q:=h
theorem s_lst (h:ts σ H fun xs H1=>xs.length<=sizeLine/\∀ p,H1 p=none->Q (.ref p) (upd H1 p (.lst xs))):Kg ts σ H Q:=h
theorem s_call {sp:Sp}{dvs:List V}{E:XK}(h:ts σ H fun vs H1=>sp (vs++dvs) H1 Q E):Es sp dvs E ts σ H Q:=h
theorem s_cb {r:List V->Hp->VK->Prop}(h:ts σ H fun vs H1=>r vs H1 Q):E5 r ts σ H Q:=h
theorem s_bm {K:Og}{T:String}{r:V->List V->Hp->VK->Prop}(h:te σ H fun x H1=>G5 K T x H1/\ts σ H1 fun xs H2=>r x xs H2 Q):tBM K T r te ts σ H Q:=h
theorem s_bm0 {K:Og}{T:String}{r:V->List V->Hp->VK->Prop}(h:te σ H fun x H1=>G5 K T x H1/\r x [] H1 Q):Hz K T r te σ H Q:=h
theorem s_sl {r:V->Option Int->Option Int->Hp->VK->Prop}{tl th:TO}(h:te σ H fun x H1=>tl σ H1 fun l H2=>th σ H2 fun u H3=>r x l u H3 Q):tSl r te tl th σ H Q:=h
theorem s_po {QO':Option Int->Hp->Prop}(h:te σ H fun x H1=>∃ i,x=.int i/\QO' (some i) H1):Mv te σ H QO':=h
theorem s_po0 {QO':Option Int->Hp->Prop}(h:QO' none H):Lj σ H QO':=h
theorem s_gname {i:Nat}{v:V}{QS':St->Hp->Prop}(h:QS' (σ.set i (some v)) H):D9 i v σ H QS':=h
theorem En {K:Og}{n:Nat}{a:Addr}{xs:List V}{QS':St->Hp->Prop}(q:SqT K H a xs)(l:xs.length=n)(h:gs xs σ H QS'):Kq K n gs (.ref a) σ H QS':=⟨a,xs,rfl,q,l,h⟩
theorem s_gcons {v:V}{r:List V}{QS':St->Hp->Prop}(h:g v σ H fun σ' H'=>gs r σ' H' QS'):L7 g gs (v::r) σ H QS':=⟨v,r,rfl,h⟩
theorem s_gnil {QS':St->Hp->Prop}(h:QS' σ H):M5 [] σ H QS':=⟨rfl,h⟩
theorem s_gsub {to ti:TE}{tt:Iq}{v:V}{QS':St->Hp->Prop}(h:to σ H fun o H1=>ti σ H1 fun i H2=>tt o i v H2 fun H3=>QS' σ H3):Nc to ti tt v σ H QS':=h
theorem s_isN (h:ta σ H fun x H1=>Q (.bl (decide (x=.non))) H1):Mc ta σ H Q:=h
end
section
variable {wi:TI}{σ0:St->St}{g:TG}{tt:TT}{te:TE}{ta:TA}{tb:TS}{D:Cp}{σ:St}{H:Hp}{Q:VK}{R:It->Hp->Prop}{K:Og}
theorem s_comp (h:wi σ H fun J H1=>∀ L,H1 L=none->G4 J g tt te (σ0 σ) H1 L Q):Jd wi σ0 g tt te σ H Q:=h
theorem s_for (h:wi σ H fun J H1=>∃ W:Nat->Nat->St->Hp->Prop,(∃ m,W 0 m σ H1)/\∀ i m σ H,W i m σ H ->
 (J.stop i H/\D.nx σ H)\/(J.go i H/\∃ N:St->Hp->Prop,(∀ σ' H',N σ' H'->∃ m',m' < m/\W (i+1) m' σ' H')/\∀ x H',J.yld i H x H'->g x σ H' fun σ2 H2=>tb { D with nx:=N,ct:=N,bk:=D.nx } σ2 H2)):Nw wi g tb D σ H:=h
theorem s_rng1 (h:ta σ H fun vs H1=>∃ j:Int,vs=[.int j]/\-(2 ^ 62)<=j/\j < 2 ^ 62/\R (Eh 0 j.toNat) H1):Zan ta σ H R:=h
theorem s_rng3 (h:ta σ H fun vs H1=>∃ i j:Int,vs=[.int i,.int j,.int (-1)]/\(-(2 ^ 62)<=i/\i < 2 ^ 62/\-(2 ^ 62)<=j/\j < 2 ^ 62)/\R (Fc i (i - j).toNat) H1):Ze6 ta σ H R:=h
theorem s_exr {i:Int}{P:Int->Prop}(h:P i):∃ j,([V.int i]:List V)=[.int j]/\P j:=⟨i,rfl,h⟩
theorem s_exr3 {i j k:Int}{P:Int->Int->Prop}(hk:k=-1)(h:P i j):∃ a b,([V.int i,V.int j,V.int k]:List V)=[.int a,.int b,.int (-1)]/\P a b:=⟨i,j,by rw [hk],h⟩
theorem s_iany (h:te σ H fun x H1=>(∃ a,x=.ref a/\(∃ xs,SqL K H1 a xs)/\R (Fy K a) H1)\/(∃ a,x=.ref a/\(∃ xs,SqT K H1 a xs)/\R (Ga K a) H1)\/∃ z,x=.str z/\R (F3 z) H1):Zai K te σ H R:=h
theorem s_irev (h:ta σ H fun vs H1=>∃ a xs,vs=[.ref a]/\SqL K H1 a xs/\R (Gf K a xs.length) H1):K7 K ta σ H R:=h
theorem s_listen (h:ta σ H fun vs H1=>∃ a xs,vs=[.ref a]/\SqT K H1 a xs/\∀(S:Addr)(ys:List V)(H2:Hp),H1 S=none->Same H1 H2->ys.length=xs.length->Pairs H2 xs ys->H2 S=some (.lst ys)->Q (.ref S) H2):Md K ta σ H Q:=h
theorem s_yes {QB:Bool->Hp->Prop}(h:QB true H):K1 σ H QB:=h
theorem s_turn {L:Addr}{Nx:List V->St->Hp->Prop}{x:V}(h:g x σ H fun σ2 H3=>tt σ2 H3 fun b H4=>if b=true then te σ2 H4 fun y H5=>∃ ys,H5 L=some (.lst ys)/\ys.length < sizeLine/\(∃ zs,upd H5 L (.lst (ys++[y])) L=some (.lst zs)/\Nx zs σ2 (upd H5 L (.lst (ys++[y])))) else ∃ zs,H4 L=some (.lst zs)/\Nx zs σ2 H4):J2 g tt te L Nx x σ H:=h
theorem Fk {l:Addr}{xs:List V}{y:V}(e:H l=some (.lst xs))(z:xs.length < sizeLine)(h:Q .non (upd H l (.lst (xs++[y])))):Zcy (.ref l) [y] H Q:=⟨l,xs,y,rfl,rfl,e,z,h⟩
theorem Gz {l:Addr}{xs:List V}{y:V}(e:H l=some (.lst (xs++[y])))(h:Q y (upd H l (.lst xs))):N7 (.ref l) [] H Q:=⟨l,xs++[y],y,rfl,rfl,e,by simp,by simpa using h⟩
theorem Zfg {sep:Str}{p:Addr}{ys:List Str}(hq:SqL K H p (ys.map V.str))(hz:(ys.map (·.length)).sum+ys.length * sep.length<=16777216)(h:Q (.str (Txt.join sep ys)) H):Np K (.str sep) [.ref p] H Q:=⟨sep,p,ys,rfl,rfl,hq,hz,h⟩
theorem Mq {p:Addr}{xs:List V}{k:Int}{j:Nat}{v:V}{QH:Hp->Prop}(e:H p=some (.lst xs))(hj:Da xs.length k=some j)(h:QH (upd H p (.lst (xs.set j v)))):Zfb (.ref p) (.int k) v H QH:=⟨p,xs,k,j,rfl,rfl,e,hj,h⟩
end
section
variable {X:Cx}(K:Og)
theorem Bk (hK:X.K=K:=by rfl):OpR X (binaryOp .Add) (Dg K):=by subst hK;exact op_addA
theorem Bv (hu:X.A.units+200 < cLine)(hK:X.K=K:=by rfl):OpR X (compareOp .Eq) (Jp K):=by subst hK;exact Zo6 hu
theorem Gh (hu:X.A.units+200 < cLine)(hK:X.K=K:=by rfl):OpR X (compareOp .NotEq) (Ki K):=by subst hK;exact Zpj hu
theorem Ex (hK:X.K=K:=by rfl):OpR X (compareOp .In) (Fu K false):=by subst hK;exact Zm9
theorem Ho (hK:X.K=K:=by rfl):OpR X (compareOp .NotIn) (Fu K true):=by subst hK;exact Zlq
theorem N4 (hK:X.K=K:=by rfl):IxR X (Ep K):=by subst hK;exact Zgg
theorem k_sl (hK:X.K=K:=by rfl):SlR X (Ls K):=by subst hK;exact Zm3
theorem Bs (hK:X.K=K:=by rfl):Bz X (.builtin "len") (E4 K):=by subst hK;exact Zji
theorem Za0 (hK:X.K=K:=by rfl):Fe X "str.join" (Np K):=by subst hK;exact Zjn
inductive TyQ (K:Og)(H:Hp):V->Value->Prop where
 | ty {x:V} {t:Value} (h:C5 K H x t):TyQ K H x t
 | tup {a:Addr} {xs:List V} (q:SqT K H a xs):TyQ K H (.ref a) (.type "tuple")
 | lst {a:Addr} {xs:List V} (q:SqL K H a xs):TyQ K H (.ref a) (.type "list")
noncomputable def K0 (K:Og)(T:String):List V->Hp->VK->Prop:=fun xs H Q=>∃ x t b,xs=[x,.ty T]/\TyQ K H x t/\Q4 K t (.type T)=some b/\Q (.bl b) H
theorem Zqd {T:String}:Bz X (.builtin "isinstance") (K0 X.K T):=by
 intro pins s σ H xs us Q I r h
 obtain ⟨x,t,b,rfl,ty,e,q⟩:=h
 obtain ⟨u,v,rfl,ru,rv⟩:=r.two
 obtain rfl:v=Value.type T:=rv
 cases ty with
 | ty ty=>exact Ziw I ru ty e fun tk=>⟨.bl b,H,I.tok tk,rfl,q⟩
 | tup hq =>
  cases ru
  obtain ⟨its,_,p,_⟩:=I.tuple hq
  obtain ⟨o,h1,h2,_⟩:=p
  exact Ps PySem.W.kitx_tuple I.kIn ⟨o,h1,h2⟩ e (fun z=>nomatch z) fun tk=>⟨.bl b,H,I.tok tk,rfl,q⟩
 | lst hq =>
  cases ru
  obtain ⟨its,_,p,_⟩:=I.list hq
  obtain ⟨o,n,h1,h2,_⟩:=p
  exact Ps U6 I.kIn ⟨o,h1,h2⟩ e (fun z=>nomatch z) fun tk=>⟨.bl b,H,I.tok tk,rfl,q⟩
theorem G0 (T:String)(hK:X.K=K:=by rfl):Bz X (.builtin "isinstance") (K0 K T):=by subst hK;exact Zqd
noncomputable def rAll (K:Og):List V->Hp->VK->Prop:=fun xs H Q=>∃(p:Addr)(bs:List Bool),xs=[.ref p]/\SqL K H p (bs.map V.bl)/\Q (.bl (bs.all id)) H
theorem Lz (hc:X.calm=true)(hK:X.K=K:=by rfl):Bz X (.builtin "all") (rAll K):=by subst hK;exact Zm4 hc
noncomputable def Znr (K:Og):List V->Hp->VK->Prop:=fun xs H Q=>∃ p ys,xs=[.ref p]/\(SqL K H p ys\/SqT K H p ys)/\∀ l,H l=none->Q (.ref l) (upd H l (.lst ys))
theorem Zog (hK:X.K=K:=by rfl):Bz X (.type "list") (Znr K):=by subst hK;exact Zo4
noncomputable def Zcf (K:Og):List V->Hp->VK->Prop:=fun xs H Q=>∃ p ys,xs=[.ref p]/\((SqL K H p ys/\∀ l,H l=none->Q (.ref l) (upd H l (.tup ys)))\/(SqT K H p ys/\Q (.ref p) H))
theorem J6 (hK:X.K=K:=by rfl):Bz X (.type "tuple") (Zcf K):=by subst hK;exact Zpx
noncomputable def rInt:List V->Hp->VK->Prop:=fun xs H Q=>(∃ i,xs=[.int i]/\Q (.int i) H)\/∃ k,xs=[.bl k]/\Q (.int (if k then 1 else 0)) H
theorem Mw:Bz X (.type "int") rInt:=Zlh
theorem s_intb {k:Bool}{H:Hp}{Q:VK}(h:Q (.int (if k=true then 1 else 0)) H):rInt [.bl k] H Q:=.inr ⟨k,rfl,h⟩
theorem D7 {tg l:Expr}{tl:TE}(hl:QE X l tl)(hK:X.K=K:=by rfl):QI X tg l (Zai K tl):=by subst hK;exact Zhe hl
theorem Lf {tg a:Expr}{ta:TA}{p pos:Pos}(hg:Gl X "reversed")(hm:X.mg "reversed" = none)(ha:QA X [a] ta)(hK:X.K=K:=by rfl)(hs:starEach [a] X.env=[(false,eval a X.env)]:=by rfl):QI X tg (.Call (.Name "reversed" p) [a] [] pos) (K7 K ta):=by subst hK;exact Zii hg hm ha hs
theorem Zkw {e:Expr}{ta:TA}{p p2 pos pos2:Pos}(hg:Gl X "list")(hm:X.mg "list" = none)(hg2:Gl X "enumerate")(hm2:X.mg "enumerate" = none)(ha:QA X [e] ta)(hK:X.K=K:=by rfl)(hc:X.calm=true:=by rfl)
  (hs:starEach [.Call (.Name "enumerate" p2) [e] [] pos2] X.env=[(false,eval (.Call (.Name "enumerate" p2) [e] [] pos2) X.env)]:=by rfl) (hs2:starEach [e] X.env=[(false,eval e X.env)]:=by rfl) :
  QE X (.Call (.Name "list" p) [.Call (.Name "enumerate" p2) [e] [] pos2] [] pos) (Md K ta):=by subst hK;exact Znn hg hm hg2 hm2 ha hc hs hs2
theorem Eg {es:List Expr}{k:Nat}{pos:Pos}{t:Ct}{n:Nat}(hc:X.calm=true)(h:Gv X es t)(hK:X.K=K:=by rfl)(hn:(assignEach es X.env).length=n:=by rfl)(hst:(assignEach es X.env).findIdx? (·.1)=none:=by rfl):QG X (.Tuple es k pos) (Kq K n t):=by subst hK;exact Zn6 hc h hn hst
noncomputable def Ze0 (K:Og)(ta:TE):TT:=fun σ H Q=>ta σ H fun x H'=>∃ k,Ij K x H' k/\Q k H'
theorem Zcv {a:Expr}{ta:TE}(ha:QE X a ta)(he:∀ whole,isTrue a X.env whole=(do let v <- whole;standAt a.pos;holding [v] (truthy v)))(hK:X.K=K:=by rfl):QT X a (Ze0 K ta):=by subst hK;exact ⟨Zlk ha.run he⟩
theorem Dr {o e:Expr}{es:List Expr}{to:TE}{t:TA}{name:Str}{apos cpos:Pos}{T id:String}{r:V->List V->Hp->VK->Prop}(pa:PlainAttrs T)(slot:Slot T name id)(hty:typeOf (.builtin id)=pure (.type "method_descriptor"))(hm:Fe X id r)(ho:QE X o to)(ha:QA X (e::es) t)(hK:X.K=K:=by rfl)
  (hbase:attributeBase o name X.env (eval o X.env)=eval o X.env:=by rfl) (hfew:((backTo cpos (starEach (e::es) X.env)).all (fun x=>!x.1) && (backToKw cpos (keywordEach [] X.env)).all (fun x=>x.1.isSome)
   && decide ((e::es).length+([]:List Keyword).length+(if ([]:List Keyword).isEmpty then 0 else 1) < 30))=true:=by rfl) (hline:(apos.endLine == cpos.line)=true:=by rfl) (hs:starEach (e::es) X.env=(false,eval e X.env)::starEach es X.env:=by rfl) (hplain:(backTo cpos (starEach es X.env)).any (·.1)=false:=by rfl):QE X (.Call (.Attribute o name apos) (e::es) [] cpos) (tBM K T r to t):=by subst hK;exact Zhi pa slot hty hm ho ha hbase hfew hline hs hplain
theorem Gm {o:Expr}{to:TE}{name:Str}{apos cpos:Pos}{T id:String}{r:V->List V->Hp->VK->Prop}(pa:PlainAttrs T)(slot:Slot T name id)(hty:typeOf (.builtin id)=pure (.type "method_descriptor"))(hm:Fe X id r)(ho:QE X o to)(hK:X.K=K:=by rfl)(hbase:attributeBase o name X.env (eval o X.env)=eval o X.env:=by rfl)(hline:(apos.endLine == cpos.line)=true:=by rfl):QE X (.Call (.Attribute o name apos) [] [] cpos) (Hz K T r to):=by subst hK;exact Zm8 pa slot hty hm ho hbase hline
end
section
variable {K:Og}{σ:St}{H:Hp}{Q:VK}{QB:Bool->Hp->Prop}{ta:TE}
theorem s_truth (h:ta σ H fun x H'=>∃ k,Ij K x H' k/\QB k H'):Ze0 K ta σ H QB:=h
theorem Zcu {a:Addr}{xs:List V}{P:Bool->Prop}(q:SqL K H a xs)(h:P (!xs.isEmpty)):∃ k,Ij K (.ref a) H k/\P k:=⟨_,.inl ⟨xs,q,rfl⟩,h⟩
theorem Ka {p:Addr}{ys:List V}(q:SqL K H p ys)(h:∀ l,H l=none->Q (.ref l) (upd H l (.tup ys))):Zcf K [.ref p] H Q:=⟨p,ys,rfl,.inl ⟨q,h⟩⟩
theorem Cq {a:Addr}{xs:List V}{P:Prop}(q:SqL K H a xs)(h:P):G5 K "list" (.ref a) H/\P:=⟨.inl ⟨rfl,_,q⟩,h⟩
end
theorem s_nt {A B:Prop}(h:B):if (!true)=true then A else B:=by simpa using h
theorem s_nf {A B:Prop}(h:A):if (!false)=true then A else B:=by simpa using h
end L2
namespace L2
open PySem
inductive Tr where
 | mk (wd:Str) (note:Dt) (ps:List Tr)
noncomputable def Tr.wd:Tr->Str
 | .mk w _ _=>w
noncomputable def Tr.ps:Tr->List Tr
 | .mk _ _ ps=>ps
mutual
noncomputable def Tr.size:Tr->Nat
 | .mk _ _ ps=>1+Am ps
noncomputable def Am:List Tr->Nat
 | []=>0
 | t::r=>t.size+Am r
end
theorem Tr.size_eq (t:Tr):t.size=1+Am t.ps:=by
 cases t with
 | mk w n ps=>rw [Tr.size];rfl
theorem F9 (a b:List Tr):Am (a++b)=Am a+Am b:=by
 induction a with
 | nil=>simp [Am]
 | cons t r ih=>rw [Tv,Am,Am,ih];omega
theorem Kk {ts:List Tr}{j:Nat}{t:Tr}(h:ts[j]?=some t):t.size<=Am ts:=by
 induction ts generalizing j with
 | nil=>simp at h
 | cons x r ih =>
  rw [Am]
  cases j with
  | zero=>simp at h;subst h;omega
  | succ j=>have:=ih (j:=j) (by simpa using h);omega
theorem Zfc (ts:List Tr):ts.length<=Am ts:=by
 induction ts with
 | nil=>simp [Am]
 | cons t r ih =>
  have:=t.size_eq
  rw [Am,Ox]
  omega
noncomputable def SameT (H H':Hp):Prop:=∀ b,(∀ xs,H b=some (.tup xs)->H' b=some (.tup xs))/\∀ o u,H b=some (.frz o u)->H' b=some (.frz o u)
theorem Same.t {H H':Hp}(e:Same H H'):SameT H H':=fun b=>⟨fun xs h=>e b _ h,fun o u h=>e b _ h⟩
theorem SameT.refl (H:Hp):SameT H H:=fun _=>⟨fun _ h=>h,fun _ _ h=>h⟩
theorem SameT.trans {H H1 H2:Hp}(a:SameT H H1)(b:SameT H1 H2):SameT H H2:=fun c=>⟨fun xs h=>(b c).1 xs ((a c).1 xs h),fun o u h=>(b c).2 o u ((a c).2 o u h)⟩
theorem SameT.set {H:Hp}{S:Addr}{zs:List V}{o:HO}(h:H S=some (.lst zs)):SameT H (upd H S o):=fun b =>
 ⟨fun xs e=>by rw [Ah (Gu e h (by intro z;cases z))];exact e,fun o' u e=>by rw [Ah (Gu e h (by intro z;cases z))];exact e⟩
theorem SameT.new {H:Hp}{S:Addr}{o:HO}(h:H S=none):SameT H (upd H S o):=(Same.upd h).t
theorem SameT.tup {K:Og}{H H':Hp}{a:Addr}{xs:List V}(e:SameT H H')(h:SqT K H a xs):SqT K H' a xs:=by
 rcases h with (h | ⟨o,h⟩) | h
 ·exact .inl (.inl ((e a).1 _ h))
 ·exact .inl (.inr ⟨o,(e a).2 _ _ h⟩)
 ·exact .inr h
noncomputable def IsN (K:Og)(H:Hp)(v:V)(n:Dt):Prop:=(Ca v=true/\n=.flat v)\/∃(a:Addr)(vs:List V),v=.ref a/\SqT K H a vs/\vs.all Ca=true/\n=.tup (vs.map .flat)
theorem IsN.same {K:Og}{H H':Hp}{v:V}{n:Dt}(h:IsN K H v n)(e:SameT H H'):IsN K H' v n:=by
 rcases h with h | ⟨a,vs,h1,h2,h3⟩
 ·exact .inl h
 ·exact .inr ⟨a,vs,h1,e.tup h2,h3⟩
theorem IsN.d {K:Og}{H:Hp}{v:V}{n:Dt}(h:IsN K H v n):Bl K H 1 v n:=by
 rcases h with ⟨h,rfl⟩ | ⟨a,vs,rfl,h2,h3,rfl⟩
 ·exact .flat h
 ·refine .tup h2 (by simp) fun j v d e1 e2=>?_
  rw [Qq,e1] at e2
  cases e2
  exact .flat (O4.mp h3 v (Oz e1))
inductive TrAt (K:Og)(H:Hp):V->Tr->Prop where
 | mk {a p:Addr} {wd:Str} {nv:V} {n:Dt} {vs:List V} {ts:List Tr} (q:SqT K H a [.str wd,nv,.ref p]) (hn:IsN K H nv n) (qp:SqT K H p vs) (l:vs.length=ts.length)
   (h:∀(j:Nat)(v:V)(t:Tr),vs[j]?=some v->ts[j]?=some t->TrAt K H v t):TrAt K H (.ref a) (.mk wd n ts)
theorem TrAt.sameT {K:Og}{H H':Hp}{v:V}{t:Tr}(h:TrAt K H v t)(e:SameT H H'):TrAt K H' v t:=by
 induction h with
 | mk q hn qp l _ ih=>exact .mk (e.tup q) (hn.same e) (e.tup qp) l ih
theorem TrAt.same {K:Og}{H H':Hp}{v:V}{t:Tr}(h:TrAt K H v t)(e:Same H H'):TrAt K H' v t:=h.sameT e.t
noncomputable def Al {α:Type}(R:V->α->Prop)(vs:List V)(xs:List α):Prop:=vs.length=xs.length/\∀(j:Nat)(v:V)(x:α),vs[j]?=some v->xs[j]?=some x->R v x
section
variable {α:Type}{R R':V->α->Prop}{vs:List V}{xs:List α}{v:V}{x:α}
theorem Al.mono (h:Al R vs xs)(f:∀ v x,R v x->R' v x):Al R' vs xs:=⟨h.1,fun j v x a b=>f v x (h.2 j v x a b)⟩
theorem Al.nil:Al R [] []:=⟨rfl,fun j v x a _=>by simp at a⟩
theorem Al.snoc (h:Al R vs xs)(a:R v x):Al R (vs++[v]) (xs++[x]):=by
 refine ⟨by simp [h.1],fun j y z e1 e2=>?_⟩
 by_cases hj:j < vs.length
 ·rw [Qj hj] at e1
  rw [Qj (by have:=h.1;omega)] at e2
  exact h.2 j y z e1 e2
 ·have hl:=(O6.mp e1).1
  rw [Ou,Pz] at hl
  have hj':j=vs.length:=by omega
  subst hj'
  rw [Qi (Ol _),Rh] at e1
  rw [h.1,Qi (Ol _),Rh] at e2
  have e1:v=y:=by simpa using e1
  have e2:x=z:=by simpa using e2
  rw [<- e1,<- e2]
  exact a
theorem Al.split (h:Al R (vs++[v]) xs):∃ ys x,xs=ys++[x]/\Al R vs ys/\R v x:=by
 have hl:xs.length=vs.length+1:=by have:=h.1;simp at this;omega
 have hne:xs≠[]:=fun z=>by rw [z] at hl;simp at hl
 refine ⟨xs.dropLast,xs.getLast hne,(Vq hne).symm,⟨by simp [hl],fun j y z e1 e2=>?_⟩,?_⟩
 ·have hj:=(O6.mp e1).1
  refine h.2 j y z (by rw [Qj hj];exact e1) ?_
  rw [List.getElem?_dropLast] at e2
  split at e2
  ·exact e2
  ·cases e2
 ·refine h.2 vs.length v _ (by simp) ?_
  rw [List.getLast_eq_getElem,Oi (by omega)]
  congr 1
  simp [hl]
theorem Al.last (h:Al R vs xs)(hn:vs≠[]):∃ vs' v xs' x,vs=vs'++[v]/\xs=xs'++[x]/\Al R vs' xs'/\R v x:=by
 have e:=(Vq hn).symm
 rw [e] at h
 obtain ⟨ys,x,e2,a,r⟩:=h.split
 exact ⟨_,_,ys,x,e,e2,a,r⟩
theorem Al.get {j:Nat}(h:Al R vs xs)(e:vs[j]?=some v):∃ x,xs[j]?=some x/\R v x:=by
 have hj:=(O6.mp e).1
 have hx:j < xs.length:=by have:=h.1;omega
 exact ⟨xs[j],Oi hx,h.2 j v _ e (Oi hx)⟩
theorem Al.get' {j:Nat}(h:Al R vs xs)(e:xs[j]?=some x):∃ v,vs[j]?=some v/\R v x:=by
 have hj:=(O6.mp e).1
 have hv:j < vs.length:=by have:=h.1;omega
 exact ⟨vs[j],Oi hv,h.2 j _ x (Oi hv) e⟩
end
noncomputable def gapT:Tr:=.mk "gap" (.flat .non) []
theorem TrAt.gap {K:Og}{H:Hp}{a p:Addr}(q:SqT K H a [.str "gap",.non,.ref p])(qp:SqT K H p []):TrAt K H (.ref a) gapT:=.mk q (.inl ⟨rfl,rfl⟩) qp rfl fun j v t e _=>by simp at e
theorem Nz:gapT.size=1:=by unfold gapT;rw [Tr.size,Am]
mutual
noncomputable def walk:List Nat->Tr->List (List Nat×Tr)
 | pl,.mk w n ps=>(pl,.mk w n ps)::Bh pl 0 ps
noncomputable def Bh:List Nat->Nat->List Tr->List (List Nat×Tr)
 | _,_,[]=>[]
 | pl,i,t::r=>walk (pl++[i]) t++Bh pl (i+1) r
end
theorem Lo (pl:List Nat)(t:Tr):walk pl t=(pl,t)::Bh pl 0 t.ps:=by
 cases t with
 | mk w n ps=>rw [walk];rfl
mutual
theorem D5:∀(pl:List Nat)(t:Tr),(walk pl t).length=t.size
 | pl,.mk w n ps=>by rw [walk,Tr.size,Ox,Zeh pl 0 ps];omega
theorem Zeh:∀(pl:List Nat)(i:Nat)(ts:List Tr),(Bh pl i ts).length=Am ts
 | _,_,[]=>by rw [Bh,Am];rfl
 | pl,i,t::r=>by rw [Bh,Am,Ou,D5,Zeh]
end
mutual
theorem M8:∀(pl:List Nat)(t:Tr)(x:List Nat×Tr),x∈walk pl t->x.1.length+1<=pl.length+t.size
 | pl,.mk w n ps,x,h=>by
  rw [walk] at h
  rw [Tr.size]
  rcases Ow.mp h with h | h
  ·subst h;show pl.length+1<=_;omega
  ·have:=Zax pl 0 ps x h;omega
theorem Zax:∀(pl:List Nat)(i:Nat)(ts:List Tr)(x:List Nat×Tr),x∈Bh pl i ts->x.1.length<=pl.length+Am ts
 | _,_,[],x,h=>by rw [Bh] at h;cases h
 | pl,i,t::r,x,h=>by
  rw [Bh] at h
  rw [Am]
  rcases Pr.mp h with h | h
  ·have:=M8 (pl++[i]) t x h
   rw [Ou,Pz] at this
   omega
  ·have:=Zax pl (i+1) r x h;omega
end
noncomputable def Ay (pl:List Nat):List V:=pl.map fun i=>V.int ((i:Nat):Int)
noncomputable def RowAt (K:Og)(H:Hp)(v:V)(x:List Nat×Tr):Prop:=∃(a p:Addr)(u:V),v=.ref a/\SqT K H a [.ref p,u]/\SqT K H p (Ay x.1)/\TrAt K H u x.2
theorem RowAt.same {K:Og}{H H':Hp}(e:SameT H H')(v:V)(x:List Nat×Tr)(h:RowAt K H v x):RowAt K H' v x:=by
 obtain ⟨a,p,u,r,q,qp,t⟩:=h
 exact ⟨a,p,u,r,e.tup q,e.tup qp,t.sameT e⟩
noncomputable def A9:List Nat->Nat->List Tr->List (List Nat×Tr)
 | _,_,[]=>[]
 | pl,i,t::r=>(pl++[i],t)::A9 pl (i+1) r
theorem Lp (pl:List Nat):∀(i:Nat)(ts:List Tr),(A9 pl i ts).length=ts.length
 | _,[]=>rfl
 | i,t::r=>by rw [A9,Ox,Ox,Lp pl (i+1) r]
theorem Nv (pl:List Nat):∀(i j:Nat)(ts:List Tr),(A9 pl i ts)[j]?=(ts[j]?).map fun t=>(pl++[i+j],t)
 | _,_,[]=>by simp [A9]
 | i,0,t::r=>by simp [A9]
 | i,j+1,t::r=>by
  rw [A9,Um,Um,Nv pl (i+1) j r]
  congr 1
  funext t
  rw [show i+1+j=i+(j+1) by omega]
theorem Zbc (pl:List Nat):∀(i:Nat)(ts:List Tr),(A9 pl i ts).flatMap (fun x=>walk x.1 x.2)=Bh pl i ts
 | _,[]=>by simp [A9,Bh]
 | i,t::r=>by rw [A9,U9,Bh,Zbc pl (i+1) r]
noncomputable def Dn (st:List (List Nat×Tr)):List (List Nat×Tr):=st.reverse.flatMap fun x=>walk x.1 x.2
theorem Zen:Dn []=[]:=rfl
theorem Jj (st:List (List Nat×Tr))(x:List Nat×Tr):Dn (st++[x])=x::Dn (st++(A9 x.1 0 x.2.ps).reverse):=by
 unfold Dn
 rw [Sd,Sd,List.reverse_reverse,Rs,Rs,Zbc]
 rw [Uq,Ti,Lo]
 rfl
noncomputable def load (st:List (List Nat×Tr)):Nat:=(Dn st).length
theorem Zbo (st:List (List Nat×Tr))(x:List Nat×Tr):load (st++(A9 x.1 0 x.2.ps).reverse) < load (st++[x]):=by
 unfold load
 rw [Jj]
 exact Ru _
theorem Zer (st:List (List Nat×Tr)):st.length<=load st:=by
 unfold load Dn
 have:∀ l:List (List Nat×Tr),l.length<=(l.flatMap fun x=>walk x.1 x.2).length:=fun l=>by
  induction l with
  | nil=>simp
  | cons x r ih =>
   rw [U9,Ou,D5,Ox]
   have:=x.2.size_eq
   omega
 have:=this st.reverse
 rw [Tk] at this
 exact this
theorem Zfw {α:Type}{l:List α}{n i:Nat}{x:α}(hl:l.length=n)(hi:i < n)(hx:l[n - 1 - i]?=some x):(l.drop (n - (i+1))).reverse=(l.drop (n - i)).reverse++[x]:=by
 have hk:n - 1 - i < l.length:=by omega
 have e:l.drop (n - (i+1))=x::l.drop (n - i):=by
  have h1:n - (i+1)=n - 1 - i:=by omega
  rw [h1,Qk hk,show n - 1 - i+1=n - i by omega]
  rw [Oi hk] at hx
  rw [Ov hx]
 rw [e,List.reverse_cons]
mutual
theorem Ks:∀(pl:List Nat)(t:Tr),walk pl t=(walk [] t).map fun x=>(pl++x.1,x.2)
 | pl,.mk w n ps=>by
  have e:=Ze9 pl [] 0 ps
  rw [Pt] at e
  rw [walk,walk,O9,e]
  simp
theorem Ze9:∀(pl q:List Nat)(i:Nat)(ts:List Tr),Bh (pl++q) i ts=(Bh q i ts).map fun x=>(pl++x.1,x.2)
 | _,_,_,[]=>by rw [Bh,Bh];rfl
 | pl,q,i,t::r=>by
  rw [Bh,Bh,Pm,<- Ze9 pl q (i+1) r,Ks (pl++q++[i]) t,Ks (q++[i]) t]
  simp
end
theorem Al.append {α:Type}{R:V->α->Prop}{vs ws:List V}{xs ys:List α}(h:Al R vs xs)(h':Al R ws ys):Al R (vs++ws) (xs++ys):=by
 refine ⟨by simp [h.1,h'.1],fun j v x e1 e2=>?_⟩
 by_cases hj:j < vs.length
 ·rw [Qj hj] at e1
  rw [Qj (by have:=h.1;omega)] at e2
  exact h.2 j v x e1 e2
 ·rw [Qi (by omega)] at e1
  rw [Qi (by have:=h.1;omega),<- h.1] at e2
  exact h'.2 _ v x e1 e2
end L2
namespace L2
open PySem PySem.Spec PyProof.Rows
section
open PySem.AutoSeq1
end
section
variable {X:Cx}
noncomputable def Fh (kvs:List (Str×V))(k:Str):Option V:=(kvs.find? fun kv=>kv.1=k).map (·.2)
inductive VPs:List (Str×V)->List (Str×Value)->Prop
 | nil:VPs [] []
 | cons {k:Str} {x:V} {v:Value} {r:List (Str×V)} {q:List (Str×Value)}:RelV x v->VPs r q->VPs ((k,x)::r) ((k,v)::q)
theorem VPs.look {kvs:List (Str×V)}{vs:List (Str×Value)}(h:VPs kvs vs)(k:Str):(valueAt vs k).isSome=(Fh kvs k).isSome/\∀ x,Fh kvs k=some x->∃ v,valueAt vs k=some v/\RelV x v:=by
 induction h with
 | nil=>exact ⟨rfl,fun x e=>nomatch e⟩
 | @cons k' x v r q rx _ ih =>
  unfold valueAt Fh at ih ⊢
  by_cases z:k'=k
  ·simp only [Qr,z,decide_true,Ry,Option.isSome_some]
   exact ⟨trivial,fun y e=>⟨v,rfl,by cases e;exact rx⟩⟩
  ·simp only [Qr,z,decide_false]
   exact ih
noncomputable def DkK (P:Program)(w:World)(K:Og)(a:Addr)(kvs:List (Str×V)):Prop :=
 ∃(o:Obj)(vs:List (Str×Value)),K.lookup a=some o/\o.IsDictOf (strKind P w) vs/\(a == sysModules)=false/\VPs kvs vs
noncomputable def rInD (P:Program)(w:World)(K:Og):R2:=fun x y H Q=>∃ s a kvs,x=.str s/\y=.ref a/\DkK P w K a kvs/\Q (.bl (Fh kvs s).isSome) H
theorem Zn7:OpR X (compareOp .In) (rInD X.prog X.w X.K):=by
 intro pins s σ H x y v u Q I rx ry h
 obtain ⟨z,a,kvs,rfl,rfl,⟨o,vs,hk,hd,lo,vp⟩,q⟩:=h
 obtain ⟨t,rfl⟩:=rx
 cases ry
 have D:s.heap.DictOf (strKind X.prog X.w) a vs:=Heap.dictOf_iff.mpr ⟨o,I.kIn a o hk,hd⟩
 exact wpAny_in_of (knd:=strKind X.prog X.w) (k:=z) (strKind_is _ _ _ _) lo D.mapOf (A7 (I.tok _) q (vp.look z).1.symm)
noncomputable def rIxD (P:Program)(w:World)(K:Og):R2:=fun x y H Q=>∃ a kvs s v,x=.ref a/\y=.str s/\DkK P w K a kvs/\Fh kvs s=some v/\Q v H
theorem ix_D:IxR X (rIxD X.prog X.w X.K):=by
 intro value slice pins s σ H x y v u Q I rx ry h hs
 obtain ⟨a,kvs,z,v',rfl,rfl,⟨o,vs,hk,hd,lo,vp⟩,hv,q⟩:=h
 cases rx
 obtain ⟨t,rfl⟩:=ry
 have D:s.heap.DictOf (strKind X.prog X.w) a vs:=Heap.dictOf_iff.mpr ⟨o,I.kIn a o hk,hd⟩
 obtain ⟨u',e,r⟩:=(vp.look z).2 _ hv
 exact tail_any D.typeIs slot_dict_getitem.lookup (wpAny_getItem_of (knd:=strKind X.prog X.w) (k:=z) (strKind_is _ _ _ _) D.mapOf e ⟨v',H,I.tok _,r,q⟩) hs
noncomputable def rIsB:R2:=fun x y H Q=>∃ b,y=.bl b/\Q (.bl (decide (x=.bl b))) H
theorem Zfv:OpR X (compareOp .Is) rIsB:=by
 intro pins s σ H x y v u Q I rx ry h
 obtain ⟨b,rfl,q⟩:=h
 cases ry
 refine wpAny_is_plain ?_ (A7 I q ?_)
 ·cases x <;> first | (cases rx;rfl) | (obtain ⟨t,rfl⟩:=rx;rfl)
 ·cases x <;> first
   | (cases rx;rfl)
   | (obtain ⟨t,rfl⟩:=rx;rfl)
   | (rename_i c;cases rx;cases c <;> cases b <;> rfl)
end
section
variable {X:Cx}(P:Program)(w:World)(K:Og)
theorem Zjf (hP:X.prog=P:=by rfl)(hw:X.w=w:=by rfl)(hK:X.K=K:=by rfl):OpR X (compareOp .In) (rInD P w K):=by subst hP hw hK;exact Zn7
theorem Zix (hP:X.prog=P:=by rfl)(hw:X.w=w:=by rfl)(hK:X.K=K:=by rfl):IxR X (rIxD P w K):=by subst hP hw hK;exact ix_D
end
theorem s_chain {r r':R2}{ta tb tc:TE}{σ:St}{H:Hp}{Q:VK}(h:ta σ H fun x H1=>tb σ H1 fun y H2=>r x y H2 fun z H3=>∃ k,z=.bl k/\(if k=true then tc σ H3 fun w' H4=>r' y w' H4 Q else Q (.bl false) H3)):Ix r r' ta tb tc σ H Q:=h
inductive Ents (p:Params):List DictEntry->List (Str×V)->Prop
 | nil:Ents p [] []
 | cons {k:Str} {t:Tok} {x:V} {v:Value} {r:List DictEntry} {q:List (Str×V)}:RelV x v->Ents p r q->Ents p (⟨PyData.keyHash p k,.str k t,v⟩::r) ((k,x)::q)
theorem Ents.pairs {P:Program}{w:World}{es:List DictEntry}{kvs:List (Str×V)}(h:Ents w.params es kvs):∃ vs,VPs kvs vs/\PySem.Pairs (PySem.strKind P w) es vs/\vs.map (·.1)=kvs.map (·.1)/\∀ e∈es,∃ k,(PySem.strKind P w).is k e.key=true/\e.hash=(PySem.strKind P w).hash k:=by
 induction h with
 | nil=>exact ⟨[],.nil,.nil,rfl,fun e he=>nomatch he⟩
 | @cons k t x v r q rx _ ih =>
  obtain ⟨vs,a,b,c,d⟩:=ih
  refine ⟨(k,v)::vs,.cons rx a,.cons (strKind_is _ _ _ _) rfl b,by simp [c],fun e he=>?_⟩
  rcases Ow.mp he with rfl | he
  ·exact ⟨k,strKind_is _ _ _ _,rfl⟩
  ·exact d e he
theorem Zj8 {P:Program}{w:World}{K:Og}{a:Addr}{es:Array DictEntry}{n:Nat}{kvs:List (Str×V)}(l:K.lookup a=some ⟨.type "dict",none,.dict es n,#[]⟩)(hs:(a == sysModules)=false)
  (e:Ents w.params es.toList kvs) (nd:(kvs.map (·.1)).Nodup):DkK P w K a kvs:=by
 obtain ⟨vs,a1,a2,a3,a4⟩:=e.pairs (P:=P)
 exact ⟨_,vs,l,⟨es,n,⟨rfl,rfl,rfl⟩,rfl,fun e he=>a4 e (by simpa using he),a2,by rw [a3];exact nd⟩,hs,a1⟩
section
variable {X:Cx}
theorem Zgn {l b:Addr}{xs zs:List V}{H:Hp}{Q:VK}(e:H l=some (.lst xs))(e2:H b=some (.lst zs))(hz:xs.length+zs.length<=sizeLine)(h:Q .non (upd H l (.lst (xs++zs)))):Zcs (.ref l) [.ref b] H Q:=⟨l,b,xs,zs,rfl,rfl,e,e2,hz,h⟩
end
section
variable {prog:Program}{w:World}{A:Around}{E:Value->Shared->Prop}{s:Shared}{z TI TO i1 i2:Addr}{fp1 fp2:List Addr}{n1 n2 i:Nat}{P1 P2:Nat->Value->Prop}{St1 St2:Nat->Heap->Prop}{a b:Value}
end
section
variable {prog:Program}{w:World}{A:Around}{E:Value->Shared->Prop}{s:Shared}
end
section
variable {X:Cx}{pins:List (Addr×Obj)}{σ:St}{H:Hp}{s:Shared}{h':Heap}
end
section
variable {X:Cx}
end
theorem Znd {prog:Program}{w:World}{A:Around}{E:Value->Shared->Prop}{s:Shared}{t sl:Addr}{items:Array Value}{vl vu:Value}{lo hi:Option Int}{Q:Value->Shared->Prop}(ht:IsTup s.heap t items)(hs:s.heap.IsSliceOf sl vl vu .none)(pl:IsPart vl lo)(pu:IsPart vu hi)
  (hw:HT.sIx items.size 0 lo=0/\HT.sIx items.size items.size hi=items.size) (h:Q (.ref t) s):wpAny (model prog w) A (getItem (.ref t) (.ref sl)) Q E s:=by
 obtain ⟨os,hos,hcs,hds⟩:=id hs
 have hTs:s.TypeIs (.ref sl) "slice" := ⟨os,hos,hcs⟩
 unfold getItem
 try with_reducible refine Qb ?_
 first | refine Oh (Om ?_) | skip
 refine Oh (wpAny_sequenceKey ht.typeIs (by decide) ?_)
 refine Oh (Rl (name:=Pw "__getitem__") ht.typeIs Rk
  (Rv Rk ht.typeIs PyProof.Rows.entry_tuple_getitem ?_ (PyProof.Rows.args_tuple_getitem _ _)))
 show wpAny _ _ (Builtin.Tuple.tupleItemsOf (.ref t) >>= _) _ _ s
 refine Oh (PyProof.Rows.tupleItemsOf_ ht ?_)
 refine Oh (Uc hTs ?_)
 rw [if_pos (by decide)]
 refine Oh (HT.sliceApplied_gen hs pl pu ?_)
 have hyes:(((HT.sIx items.size 0 lo:Nat):Int) == 0 && (1:Int) == 1 && (HT.sIx items.size items.size hi - HT.sIx items.size 0 lo) == items.size)=true:=by
  rw [hw.1,hw.2]
  simp
 show wpAny _ _ (if (((HT.sIx items.size 0 lo:Nat):Int) == 0 && (1:Int) == 1 && (HT.sIx items.size items.size hi - HT.sIx items.size 0 lo) == items.size)=true then _ else _) _ _ s
 rw [if_pos hyes]
 refine Oh (m:=Builtin.Tuple.tupleIsExact (.ref t)) ?_
 unfold Builtin.Tuple.tupleIsExact
 refine Oh (Uc ht.typeIs (Om ?_))
 rw [if_pos (by decide)]
 refine Oh (Su ?_)
 exact Om ⟨_,rfl,Om h⟩
noncomputable def rSlU (K:Og):V->Option Int->Option Int->Hp->VK->Prop:=fun x lo hi H Q=>∃ a xs,x=.ref a/\SqT K H a xs/\∀ r H',Same H H'->SqT K H' r (C4 xs lo hi)->Q (.ref r) H'
theorem Zf6 {X:Cx}:SlR X (rSlU X.K):=by
 intro pins s σ H x v vl vu lo hi sl Q I rx hs pl pu h
 obtain ⟨a,xs,rfl,hx,q⟩:=h
 by_cases hw:HT.sIx xs.length 0 lo=0/\HT.sIx xs.length xs.length hi=xs.length
 ·cases rx
  obtain ⟨its,r,ht,hz⟩:=I.tuple hx
  have hlen:its.toArray.size=xs.length:=by rw [On];exact r.length.symm
  refine ⟨"tuple",_,Rk.lookup,ht.typeIs,?_⟩
  refine Znd ht hs pl pu (by rw [hlen];exact hw) ⟨.ref a,H,I,rfl,q a H (Same.refl H) ?_⟩
  have e:C4 xs lo hi=xs:=by unfold C4;rw [hw.1,hw.2];simp
  rw [e]
  exact hx
 ·exact Zc4 pins s σ H _ v vl vu lo hi sl Q I rx hs pl pu ⟨a,xs,rfl,hx,hw,fun p hp=>q p _ (Same.upd hp) (.of Ad)⟩
noncomputable def rSlB (K:Og):V->Option Int->Option Int->Hp->VK->Prop:=fun x lo hi H Q=>K9 K x lo hi H Q\/L6 x lo hi H Q\/rSlU K x lo hi H Q
theorem Mi {X:Cx}(K:Og)(hK:X.K=K:=by rfl):SlR X (rSlB K):=by subst hK;exact sl_list.or (sl_str.or Zf6)
theorem Nl {K:Og}{a:Addr}{xs:List V}{lo hi:Option Int}{H:Hp}{Q:VK}(ha:SqT K H a xs)(h:∀ r H',Same H H'->SqT K H' r (C4 xs lo hi)->Q (.ref r) H'):rSlB K (.ref a) lo hi H Q:=.inr (.inr ⟨a,xs,rfl,ha,h⟩)
theorem Zfu (xs:List V)(k:Nat):C4 xs none (some (k:Int))=xs.take k:=by
 unfold C4
 rw [HT.sIx_none,HT.sIx_nat,R5,R0]
 by_cases h:k<=xs.length
 ·rw [Nat.min_eq_left h]
 ·rw [Nat.min_eq_right (by omega),Qd (Ol _),Qd (by omega)]
theorem Zi8 (xs:List V)(k:Nat):C4 xs (some (k:Int)) none=xs.drop k:=by
 unfold C4
 rw [HT.sIx_none,HT.sIx_nat]
 by_cases h:k<=xs.length
 ·rw [Nat.min_eq_left h,Qd (by simp)]
 ·rw [Nat.min_eq_right (by omega),Q7 (Ol _),Q7 (by omega)]
  simp
noncomputable def Zjz (h:Heap)(e T:Addr)(cls:Value)(od:Option Addr)(fl:Value):Prop :=
 ∃ oe vs oT ts,h.get? e=some oe/\oe.cls=cls/\oe.dict=od/\oe.data=.fields vs/\vs[1]?=some (.ref T)/\T≠e/\h.get? T=some oT/\oT.data=.fields ts/\ts[3]?=some fl/\vs[2]?=some .none
noncomputable abbrev Lies (h:Heap)(e T:Addr)(cls:Value)(od:Option Addr):Prop:=Zjz h e T cls od .none
section
variable {M:Model}{A:Around}{E:Value->Shared->Prop}{s:Shared}
end
theorem Nb {X:Cx}{st:Stmt}:QS X st (fun _ _ _=>False):=⟨fun _ _ _ _ _ _ h=>h.elim⟩
section
variable {prog:Program}{w:World}{A:Around}{E:Value->Shared->Prop}{s:Shared}{z TI TO i1 i2:Addr}{fp1 fp2:List Addr}{n1 n2 i:Nat}{P1 P2:Nat->Value->Prop}{St1 St2:Nat->Heap->Prop}{a b:Value}
end
section
variable {X:Cx}
end
section
variable {X:Cx}
end
noncomputable def CXR (P:Program)(w:World):Cg:=fun outer H s E ev s'=>∃(e T:Addr)(cls:Value)(od:Option Addr)(H':Hp),ev=.ref e/\s'.os=s.os/\AllBare s'.gens/\Un (Co outer) [] H H' s.heap s'.heap/\HOk P w H' s'.heap /\
 s.heap.get? e=none/\s.heap.get? T=none/\H' e=none/\H' T=none/\Lies s'.heap e T cls od/\E cls od H'
section
variable {X:Cx}{pins:List (Addr×Obj)}{σ:St}{H:Hp}{s:Shared}
end
section
variable {P:Program}{w:World}{K:Og}{mg:Str->Option Value}{base:Heap}{N:List Str}{qual:Str}{scope:Scope}{f:Addr}{cd:Value}{A:Around}{outer:List Env}{s0:Shared}{H0:Hp}{E:XK}
end
section
variable {P:Program}{w:World}{K:Og}{mg:Str->Option Value}{base:Heap}
end
section
variable {X:Cx}{k:Nat}{x:Str}{ps:List Str}{sp:Sp}{p pos np cpos:Pos}{e:Expr}{es:List Expr}{t:TA}{E:XK}
end
section
variable {X:Cx}{pins:List (Addr×Obj)}{σ:St}{H:Hp}{s:Shared}
end
section
variable {X:Cx}{k:Nat}{x:Str}{ps:List Str}{sp:Sp}{p pos np cpos:Pos}{e:Expr}{es:List Expr}{t:TA}
end
section
variable {X:Cx}{pins:List (Addr×Obj)}{σ:St}{H:Hp}{s:Shared}
end
section
variable {X:Cx}{c n:Str}{np hpos pos:Pos}{body hbody:List Stmt}{b₀:Stmt}{tb:TXS}{th:TS}{i:Nat}{C:Addr}
end
section
open PySem.W PySem.Builtin PySem.Builtin.ObjectAttr
variable {prog:Program}{w:World}{A:Around}{E:Value->Shared->Prop}{s:Shared}{K:Frag}{x C:Addr}{ox:Obj}{od:Option Obj}{name:Str}{R:Result->Shared->Prop}
end
section
variable {X:Cx}{pins:List (Addr×Obj)}{σ:St}{H:Hp}{s:Shared}
end
section
variable {X:Cx}{pins:List (Addr×Obj)}{σ:St}{H:Hp}{s:Shared}{a C:Addr}{f:Str}{A:Around}{E:Value->Shared->Prop}
open PySem.W PySem.Builtin PySem.Builtin.ObjectAttr
end
section
variable {X:Cx}{o e value:Expr}{f:Str}{pos pos':Pos}{ta tv:TE}
end
section
open PySem.W
end
section
variable {prog:Program}{w:World}{A:Around}{E:Value->Shared->Prop}{h:Heap}{g:Array GenState}{d:Drawn}{t:Nat}{os:OsState}
variable {nm q:Str}{C N:Addr}{bs bm bmB:List Value}{hdct:Bool}{sn:List Str}{sub:List Value}{ab:Bool}{col:Option Bool}{dd:Option Addr}{k0 k1 k2 k3 k5:Option Value}{B Bn newId nid initId inN:String}{bmN:List Value}
end
section
variable {X:Cx}{k:Nat}{x:Str}{sp:Sp}{ps:List Str}{C f:Addr}{fd:FuncData}{np cpos pos:Pos}{a:Expr}{t:TA}{E:XK}
end
section
variable {P:Program}{w:World}{K:Og}{mg:Str->Option Value}{base:Heap}
end
section
variable {X:Cx}{k:Nat}{x:Str}{ps:List Str}{sp:Sp}{p pos:Pos}{e:Expr}{es:List Expr}{t:TA}
end
section
open PySem.W PySem.Builtin PySem.Builtin.ObjectAttr
variable {prog:Program}{w:World}{A:Around}{E:Value->Shared->Prop}{s:Shared}{K:Frag}{x D:Addr}{ox:Obj}{od:Option Obj}
end
section
variable {X:Cx}{pins:List (Addr×Obj)}{σ:St}{H:Hp}{s:Shared}{a C':Addr}{od:Option Addr}
end
section
variable {X:Cx}
end
end L2
namespace L2
open PySem
section
variable {g:TG}{tt:TT}{te:TE}{σ0:St}{H1:Hp}{D:Addr}{Q:VK}
end
end L2
namespace L2
open PySem PySem.Spec PyProof.Rows
section
variable {X:Cx}
end
section
variable {prog:Program}{w:World}{A:Around}{E:Value->Shared->Prop}{s:Shared}
end
section
variable {X:Cx}
end
section
variable {g:TG}{tt:TT}{te:TE}{σ0:St}{H1:Hp}{D:Addr}{Q:VK}
end
section
variable {X:Cx}
end
theorem Zlj:fillsNumberSlot (.type "tuple") "mul" = pure false :=
 PySem.fillsNumberSlot_seq (id := "tuple.__mul__") (r:=some (.builtin "tuple.__rmul__")) Sb.lookup (by decide +kernel) PySem.F.slot_tuple_rmul.lookup (by decide +kernel)
theorem Zof:seqRepeat? (.type "tuple")=pure (some (.builtin "tuple.__mul__")):=by
 unfold seqRepeat?
 rw [PySem.seqSlot_of (T := "tuple") (name := "__mul__") (id := "tuple.__mul__") Sb.lookup (by decide +kernel),PySem.seqSlot_of (T := "tuple") (name := "__rmul__") (id := "tuple.__rmul__") PySem.F.slot_tuple_rmul.lookup (by decide +kernel)]
 rfl
theorem Zid (a:Int)(t:Tok)(l:Addr)(items:Array Value)(n:Nat)(dd:Option Addr)(sl:Array (Option Value)) :
  Meets (Builtin.«int.__rmul__» ⟨[.int a t,.ref l],[]⟩) (fun _ R s=>s.heap.get? l=some { cls:=.type "tuple",dict:=dd,data:=.seq items n,slots:=sl }/\R (.ok (.ret Value.notImplemented)) s) :=
 .of_wp fun prog w A R s h=>by obtain ⟨hp,g,d,tk,os⟩:=s;obtain ⟨hl,h⟩:=h;wp_walk;exact ⟨_,rfl,h⟩
theorem Zkp (l:Addr)(items:Array Value)(n:Nat)(dd:Option Addr)(sl:Array (Option Value))(u:Tok) :
  Meets (Builtin.«tuple.__mul__» ⟨[.ref l,.int 1 u],[]⟩) (fun _ R s=>s.heap.get? l=some { cls:=.type "tuple",dict:=dd,data:=.seq items n,slots:=sl }/\R (.ok (.ret (.ref l))) s) :=
 .of_wp fun prog w A R s h=>by obtain ⟨hp,g,d,tk,os⟩:=s;obtain ⟨hl,h⟩:=h;wp_walk;exact ⟨_,rfl,h⟩
theorem Zk4 (l:Addr)(items:Array Value)(n:Nat)(dd:Option Addr)(sl:Array (Option Value))(u:Tok)(hne:¬ items.isEmpty=true) :
  Meets (Builtin.«tuple.__mul__» ⟨[.ref l,.int 0 u],[]⟩) (fun _ R s=>s.heap.get? l=some { cls:=.type "tuple",dict:=dd,data:=.seq items n,slots:=sl }/\R (.ok (.ret (.ref s.heap.objs.size))) { s with heap:=s.heap.push { cls:=.type "tuple",data:=.seq #[] } }) :=
 .of_wp fun prog w A R s h=>by obtain ⟨hp,g,d,tk,os⟩:=s;obtain ⟨hl,h⟩:=h;wp_walk;exact ⟨_,rfl,h⟩
theorem Zoi (l:Addr)(items:Array Value)(n:Nat)(dd:Option Addr)(sl:Array (Option Value))(u:Tok)(x:Int)(h2:2<=x)(hx:x < 2 ^ 62)(hne:items.isEmpty=false)(hz:(items.size:Int) * x<=1000)(hs:¬ ((Oo x.toNat items).foldl (·++·) #[]).size > sizeLine) :
  Meets (Builtin.«tuple.__mul__» ⟨[.ref l,.int x u],[]⟩) (fun _ R s=>s.heap.get? l=some { cls:=.type "tuple",dict:=dd,data:=.seq items n,slots:=sl }/\R (.ok (.ret (.ref s.heap.objs.size))) { s with heap:=s.heap.push { cls:=.type "tuple",data:=.seq ((Oo x.toNat items).foldl (·++·) #[]) } }) :=
 .of_wp fun prog w A R s h=>by
  obtain ⟨hp,g,d,tk,os⟩:=s;obtain ⟨hl,h⟩:=h
  have c0:(decide (x < -2 ^ 63) || decide (x ≥ 2 ^ 63))=false:=by
   have a:¬ x < -2 ^ 63:=by omega
   have b:¬ x ≥ 2 ^ 63:=by omega
   rw [decide_eq_false a,decide_eq_false b];rfl
  have c1:(items.isEmpty || x == 1)=false:=by
   have b:¬ x=1:=by omega
   rw [hne]
   simp [b]
  have c2:(decide (x<=0) || items.isEmpty)=false:=by
   have b:¬ x<=0:=by omega
   rw [hne,decide_eq_false b];rfl
  have c3:¬ ((items.size:Int) * x > (2 ^ 63 - 1) / 8):=by omega
  have c4:Builtin.Tuple.tupleTooMany ((items.size:Int) * x)=false:=by
   unfold Builtin.Tuple.tupleTooMany
   have:(100000:Nat)<=sizeLine:=by decide
   exact decide_eq_false (by omega)
  wp_walk
  refine T3 (by rw [c0];rfl) ?_
  wp_walk
  refine T3 (by rw [c1];rfl) ?_
  wp_walk
  refine T3 (by rw [c2];rfl) ?_
  wp_walk
  refine T3 (decide_eq_false c3) ?_
  wp_walk
  exact ⟨_,rfl,h⟩
section
variable {X:Cx}
noncomputable def Zcc (K:Og):R2:=fun x y H Q=>∃ l k xs,x=.ref l/\y=.int k/\SqT K H l xs/\xs≠[]/\0<=k/\k < 2 ^ 62/\(xs.length:Int) * k<=1000/\∀ r H',Same H H'->SqT K H' r (Oo k.toNat xs).flatten->Q (.ref r) H'
theorem Zge (K:Og)(hK:X.K=K:=by rfl):OpR X (binaryOp .Mult) (Zcc K):=by
 subst hK
 intro pins s σ H x y v u Q I rx ry h
 obtain ⟨l,k,xs,rfl,rfl,hH,hne,h0,h1,hz,q⟩:=h
 cases rx
 obtain ⟨t,rfl⟩:=ry
 obtain ⟨its,r,p,_⟩:=I.tuple hH
 have hl:=r.length
 obtain ⟨⟨cls,dd,data,sl⟩,e,hc,n,hd⟩:=id p
 simp only at hc hd
 subst hc hd
 have hz':(its.toArray.size:Int) * k<=1000:=by rw [On,<- hl];exact hz
 have hem:its.toArray.isEmpty=false:=by
  cases its with
  | nil=>cases xs with | nil=>exact absurd rfl hne | cons a b=>simp at hl
  | cons a b=>simp
 have go:∀ Q':Value->Shared->Prop,wpAny (model X.prog X.w) X.A (call (.builtin "tuple.__mul__") [.ref l,.int k t]) Q' X.xe s->wpAny (model X.prog X.w) X.A (binaryOp .Mult (.ref l) (.int k t)) Q' X.xe s:=fun Q' hh =>
  wpAny_binaryOp_repeat_ref (T := "tuple") (U := "int") (by decide) ⟨_,e,rfl⟩ (fun s'=>Sv s' k t) Zlj PySem.F.fills_int_mul PySem.F.slot_int_rmul Zof PySem.F.slot_int_index.lookup
   (Qh PySem.F.slot_int_rmul (Sv s k t) PySem.F.entry_int_rmul (PySem.F.args_int_rmul_2 _ _) (Zid k t l its.toArray n dd sl) ⟨e,rfl,⟨_,e,rfl⟩,hh⟩)
 by_cases k1:k=1
 ·subst k1
  refine go _ (Qh Sb ⟨_,e,rfl⟩ Uo (Ul _ _) (Zkp l its.toArray n dd sl t) ⟨e,?_⟩)
  exact ⟨.ref l,H,I,rfl,q l H (Same.refl _) (by show SqT X.K H l (Oo 1 xs).flatten;simpa using hH)⟩
 by_cases k0:k=0
 ·subst k0
  refine go _ (Qh Sb ⟨_,e,rfl⟩ Uo (Ul _ _) (Zk4 l its.toArray n dd sl t (by rw [hem];exact Ot)) ⟨e,?_⟩)
  refine ⟨.ref _,_,I.laid (t':=s.toks) (o:=.tup []) (fun b ob q=>Oq _ q) (Ol _) ⟨by show 0<=sizeLine;decide,[],.nil,⟨_,O0 _ rfl,rfl,_,rfl⟩⟩,rfl,q _ _ (Same.upd I.fresh) (SqT.of Ad)⟩
 ·have hnew:Sw (fun x1 x2=>x1++x2) #[] (Oo k.toNat its.toArray)=(Oo k.toNat its).flatten.toArray:=by
   have:=M9 its k.toNat []
   rw [Q2] at this
   exact this
  have hlen:(Oo k.toNat xs).flatten.length<=sizeLine:=by
   rw [J8]
   have:(100000:Nat)<=sizeLine:=by decide
   have e:((k.toNat * xs.length:Nat):Int)=(xs.length:Int) * k:=by rw [Int.natCast_mul,Int.toNat_of_nonneg h0,Int.mul_comm]
   omega
  have hs:¬ ((Oo k.toNat its.toArray).foldl (·++·) #[]).size > sizeLine:=by
   have h':Sw (fun x1 x2=>x1++x2) #[] (Oo k.toNat its.toArray)=(Oo k.toNat its).flatten.toArray:=hnew
   rw [h',On,J8,<- hl]
   rw [J8] at hlen
   omega
  refine go _ (Qh Sb ⟨_,e,rfl⟩ Uo (Ul _ _) (Zoi l its.toArray n dd sl t k (by omega) h1 hem hz' hs) ⟨e,?_⟩)
  rw [hnew]
  exact ⟨.ref _,_,I.laid (t':=s.toks) (o:=.tup (Oo k.toNat xs).flatten) (fun b ob q=>Oq _ q) (Ol _) ⟨hlen,_,r.rep k.toNat,⟨_,O0 _ rfl,rfl,_,rfl⟩⟩,rfl,q _ _ (Same.upd I.fresh) (SqT.of Ad)⟩
theorem Znb {K:Og}{l:Addr}{k:Int}{xs:List V}{H:Hp}{Q:VK}(hq:SqT K H l xs)(hne:xs≠[])(h0:0<=k)(h1:k < 2 ^ 62)(hz:(xs.length:Int) * k<=1000)(h:∀ r H',Same H H'->SqT K H' r (Oo k.toNat xs).flatten->Q (.ref r) H'):Zcc K (.ref l) (.int k) H Q:=⟨l,k,xs,rfl,rfl,hq,hne,h0,h1,hz,h⟩
open PySem.Builtin PySem.Builtin.Str in
end
section
variable {prog:Program}{w:World}{A:Around}{E:Value->Shared->Prop}{s:Shared}
theorem Zc5 {it t:Addr}{items:Array Value}(hne:t≠it):∀(n i:Nat)(s:Shared)(Q:List Value->Shared->Prop),s.heap.IsListIter it t i->s.heap.IsList t items->i+n<=items.size ->
  (∀ h',h'.IsListIter it t (i+n)->Pe it s.heap h'->Q ((items.toList.drop i).take n) { s with heap:=h' })->wpAny (model prog w) A (draw (.ref it) n) Q E s
 | 0,i,s,Q,hit,_,_,hQ=>by
  show wpAny _ _ (pure []) Q E s
  exact Om (by simpa using hQ s.heap hit (Pe.refl ..))
 | n+1,i,s,Q,hit,ht,hle,hQ=>by
  have hlt:i < items.size:=by omega
  show wpAny _ _ (pyNext (.ref it) >>= _) Q E s
  refine Oh (wpAny_pyNext_list_item hit ht (x:=items[i]) (by simp [hlt]) fun h₁ hit₁ hs₁=>?_)
  refine Oh (Qb (Zc5 hne n (i+1) _ _ hit₁ (ht.at fun o e=>hs₁.extBut _ _ hne e) (by omega) fun h₂ hit₂ hs₂=>Om ?_))
  have hd:items.toList.drop i=items[i]::items.toList.drop (i+1):=by simp [Qk,hlt]
  have:=hQ h₂ (by rw [show i+(n+1)=i+1+n by omega];exact hit₂) (hs₁.trans hs₂)
  rw [hd,Rb] at this
  exact this
theorem Zis {t:Addr}{items:Array Value}{Q:List Value->Shared->Prop}(hh:A.handled=none)(ht:s.heap.IsList t items)
  (hQ:∀ h',Uh s.heap.objs.size s.heap h'->Q items.toList { s with heap:=h' }):wpAny (model prog w) A (unpackItems (.ref t) items.size none) Q E s:=by
 have hlt:t≠s.heap.objs.size:=by obtain ⟨o,ho,_⟩:=ht;exact Oy (Os ho)
 unfold unpackItems
 refine Oh ?_
 ·unfold notIterableAtAll
  refine Oh (Sk ht.typeIs PySem.F.slot_list_iter.lookup ?_)
  refine Om ?_
  simp only [Sf,if_false]
  refine Oh (Qb (U8 ht ?_))
  refine Oh (Qb (Zc5 hlt items.size 0 _ _ ⟨_,O0 _ rfl,rfl,rfl⟩ (Heap.IsList.push ht _) (by omega) fun h₁ hit₁ hs₁=>?_))
  have hall:List.take items.size (List.drop 0 items.toList)=items.toList:=by
   rw [R0];exact Qd (by simp)
  rw [hall]
  rw [if_neg (by simp)]
  have ht₁:h₁.IsList t items:=(Heap.IsList.push ht _).at fun o e=>hs₁.extBut _ _ hlt e
  refine Oh (Qb (wpAny_pyNext_list_end hh hit₁ ht₁ (by simp) fun h₂ he₂=>?_))
  simp only [Option.isSome_none,Sf,if_false]
  refine Om (hQ h₂ fun b o hb e=>he₂ b o hb (hs₁.extBut b o hb (Oq _ e)))
theorem Zh8 {env:Env}{elts:List Expr}{x1}{pos:Pos}{t:Addr}{items:Array Value}{Q:Unit->Shared->Prop}(hh:A.handled=none)(ht:s.heap.IsList t items)
  (hn:(assignEach elts env).length=items.size) (hstar:(assignEach elts env).findIdx? (·.1)=none)
  (h:∀ h',Uh s.heap.objs.size s.heap h'->wpAny (model prog w) A (assignInOrder ((assignEach elts env).map (·.2)) items.toList) Q E { s with heap:=h' }) :
  wpAny (model prog w) A (assign (.Tuple elts x1 pos) env (.ref t)) Q E s:=by
 rw [arm_assign_Tuple]
 refine Oh (Sm ?_)
 unfold unpack
 rw [hn,hstar]
 exact Oh (Qb (Zis hh ht h))
end
noncomputable def Ze8 (K:Og)(n:Nat)(t:Ct):TG:=fun v σ H Q=>∃ a xs,v=.ref a/\SqL K H a xs/\xs.length=n/\t xs σ H Q
section
variable {X:Cx}
theorem Zgf (K:Og){es:List Expr}{k:Nat}{pos:Pos}{t:Ct}{n:Nat}(hc:X.calm=true)(h:Gv X es t)(hK:X.K=K:=by rfl)(hn:(assignEach es X.env).length=n:=by rfl)(hst:(assignEach es X.env).findIdx? (·.1)=none:=by rfl):QG X (.Tuple es k pos) (Ze8 K n t):=by
 subst hK
 refine ⟨fun pins s σ H v u Q I r hw=>?_⟩
 obtain ⟨a,xs,e1,hq,hl,hw⟩:=hw
 subst e1
 cases r
 obtain ⟨its,rv,ht,hz⟩:=I.list hq
 refine Zh8 (I.ok.hd hc) ht.isList (by simp [hn,<- hl,rv.length]) hst fun h' hx=>?_
 have I1:Inv X pins σ H { s with heap:=h' }:=I.kept (t':=s.toks) fun b o e=>hx b o (Oy (Os e)) e
 exact h.run pins _ σ H xs _ Q I1 (by simpa using rv) hw
theorem Zqa {K:Og}{σ:St}{H:Hp}{gs:Ct}{n:Nat}{a:Addr}{xs:List V}{QS':St->Hp->Prop}(q:SqL K H a xs)(l:xs.length=n)(h:gs xs σ H QS'):Ze8 K n gs (.ref a) σ H QS':=⟨a,xs,rfl,q,l,h⟩
end
section
variable {X:Cx}{k:Nat}{x:Str}{ps:List Str}{sp:Sp}{p pos:Pos}
end
structure Nh (K:Og)(mg:Str->Option Value)(x:Str)(C:Addr):Prop where
 makes:Rx K C=true
 init:Ph K (.ref C) "__init__" = some (some (.builtin "object.__init__"))
 kp:P3 K (.ref C)=true
 at_:mg x=some (.ref C)
noncomputable def Zdh (C:Addr):TE:=fun σ H Q=>∀ x dx,H x=none->H dx=none->dx≠x->Q (.ref x) (upd (upd H dx (.own x)) x (.ins C dx []))
section
variable {X:Cx}{k:Nat}{x m:Str}{ps:List Str}{sp:Sp}{E:XK}{C:Addr}{p pos apos:Pos}{e o:Expr}{es:List Expr}{ta:TE}{t:TA}{CX:Cg}{P:Program}{w:World}{mg:Str->Option Value}{base:Heap}
theorem Zls (M:Nh X.K X.mg x C)(hg:Gl X x:=by rfl)(hdb:(x == ("__debug__" : Str))=false:=by decide):QE X (.Call (.Name x p) [] [] pos) (Zdh C):=by
 refine ⟨fun pins s σ H Q I h=>?_⟩
 refine Se (Kz I hg M.at_ ?_ hdb)
 refine PySem.W.callWith_K0 I.kIn M.kp ?_
 have hq:=h (s.heap.objs.size+1) s.heap.objs.size (I.hok.fresh (Ss _)) (I.hok.fresh (Ol _)) (Oy (Ru _))
 have I2:=Inv.made (C:=C) I
 have Y:=Vb (M:=model X.prog X.w) I.kIn M.makes
 refine wpAny_call (Zhw I.kIn M.makes M.init (fun self=>R1.of_pure (PySem.W.oi_bind self)) ?_)
 have t1:R1 (model X.prog X.w) ((s.heap.push Po).push (P0 C s.heap.objs.size)) (typeOf (.ref (s.heap.objs.size+1))) (.ref C):=(R1.ld (by have:=O0 (s.heap.push Po) (o:=P0 C s.heap.objs.size) rfl;rw [Q3] at this;exact this)).andThen .now
 have t2:R1 (model X.prog X.w) ((s.heap.push Po).push (P0 C s.heap.objs.size)) (isInstance (.ref (s.heap.objs.size+1)) (.type "object")) true:=t1.andThen (Y.top.keeps fun b o e=>Oq _ (Oq _ e))
 refine codeAny_call_builtin PySem.W.oi_plain PySem.W.entry_oi (@PySem.W.check_slot (model X.prog X.w) _ _ _ "object.__init__" "object" "__init__" (.ref (s.heap.objs.size+1)) [] [] _ PySem.W.oi_kind PySem.W.oi_split t2 (PySem.W.oi_args (.ref (s.heap.objs.size+1))) ?_)
 rw [PySem.W.oi_run]
 exact Om (And.intro rfl ⟨V.ref (s.heap.objs.size+1),_,I2,rfl,hq⟩)
end
section
variable {X:Cx}{e o value:Expr}{f:Str}{pos pos':Pos}{ta tv:TE}{pins:List (Addr×Obj)}{σ:St}{H:Hp}{s:Shared}
theorem Zp3 (K:Og)(ha:QE X o ta)(hv:QE X value tv)(hs:swapsWith value (some (.Attribute o f pos')) pos.line X.env=pure false:=by rfl)(hK:X.K=K:=by rfl):QS X (.Assign [.Attribute o f pos'] value pos) (Lq K ta tv f):=by subst hK;exact Zpl ha hv hs
end
section
variable {X:Cx}{pins:List (Addr×Obj)}{σ:St}{H:Hp}{s:Shared}
end
structure FunD (K:Og)(x qual:Str)(st:Stmt)(T f:Addr)(fd:FuncData):Prop where
 ex:∃ oc od kV doc pm an cdv ct osl,fd=Pn x qual (C2 st) (Cf st) (An st) (.ref T) kV doc pm an cdv ct/\K.lookup f=some ⟨oc,od,.func (Pn x qual (C2 st) (Cf st) (An st) (.ref T) kV doc pm an cdv ct),osl⟩/\Rz K cdv qual=true
 kp:P3 K (.ref f)=true
section
variable {P:Program}{w:World}{K:Og}{mg:Str->Option Value}{base:Heap}
theorem FunD.okx {x qual:Str}{st:Stmt}{T f:Addr}{fd:FuncData}{N ps:List Str}{k:Nat}{sp:Sp}(F:FunD K x qual st T f fd)(S:A1 N ps (An st))(len:∀ vs H Q E,sp vs H Q E->vs.length=ps.length)
  (hbody:∀(cdv:Value)(A:Around)(outer:List Env)(s:Shared)(H:Hp)(vs:List V)(Q:VK)(E:XK),Room k (A.deeper (envOfC qual (An st) s.heap.objs.size f cdv))->sp vs H Q E ->
   ∃ t,D1 (E6 (CXR P w) P w K mg base N qual (An st) f cdv A outer s H E) (Cf st) t/\t { nx:=fun _ H'=>Q .non H',rt:=Q } (start N vs) H):Ar P w K mg base (CXR P w) (k+1) f fd ps sp:=by
 obtain ⟨oc,od,kV,doc,pm,an,cdv,ct,osl,rfl,lk,hcd⟩:=F.ex
 refine Zd8 lk hcd S len fun A outer s H vs Q E hr hsp=>?_
 obtain ⟨t,h,q⟩:=hbody cdv A outer s H vs Q E hr hsp
 exact ⟨t,h.run,q⟩
theorem Zim {x qual:Str}{st:Stmt}{T f:Addr}{oc:Value}{od an:Option Addr}{osl:Array (Option Value)}{kV doc pm cdv ct:Value}(l:K.lookup f=some ⟨oc,od,.func (Pn x qual (C2 st) (Cf st) (An st) (.ref T) kV doc pm an cdv ct),osl⟩)
  (c:Rz K cdv qual=true) (k:P3 K (.ref f)=true):FunD K x qual st T f (Pn x qual (C2 st) (Cf st) (An st) (.ref T) kV doc pm an cdv ct):=⟨⟨oc,od,kV,doc,pm,an,cdv,ct,osl,rfl,l,c⟩,k⟩
end
structure QK (X:Cx)(kws:List Keyword)(t:TA):Prop where
 run:PK X kws t
structure Oe (CX:Cg)(P:Program)(w:World)(K:Og)(mg:Str->Option Value)(base:Heap)(k:Nat)(x:Str)(C:Addr)(ps ks:List Str)(gV:List V->List V->List V)(sp:Sp):Prop where
 ex:∃(f:Addr)(fd:FuncData)(g:List Value->List Value->List Value),Ar P w K mg base CX k f fd ps sp/\Mk K C f/\mg x=some (.ref C)/\Zaf K fd ps ks g gV
noncomputable def Zc0 (C:Addr)(gV:List V->List V->List V)(sp:Sp)(E:XK)(t tk:TA):TE:=fun σ H Q=>t σ H fun vs H1=>tk σ H1 fun zs H2=>∀ x dx,H2 x=none->H2 dx=none->dx≠x->sp (gV (.ref x::vs) zs) (upd (upd H2 dx (.own x)) x (.ins C dx [])) (fun v H3=>v=.non/\Q (.ref x) H3) E
section
variable {X:Cx}{k:Nat}{x:Str}{ps ks:List Str}{gV:List V->List V->List V}{sp:Sp}{E:XK}{C:Addr}{p pos kpos:Pos}{e:Expr}{es:List Expr}{kws:List Keyword}{te:TE}{t tk:TA}{CX:Cg}{nm:Option Str}{f:Addr}{fd:FuncData}{g:List Value->List Value->List Value}
theorem Zhn:QK X [] Ce:=⟨Zgp⟩
theorem Zl2 {pins:List (Addr×Obj)}{σ:St}{H:Hp}{s:Shared}{Q:VK}{us ws:List Value}{vs zs:List V}{XE:Value->Shared->Prop}(M:Mk X.K C f)(F:Ar X.prog X.w X.K X.mg X.base CX k f fd ps sp)(hr:Room (k+1) X.A)(hb:Zaf X.K fd ps ks g gV)
  (I:Inv X pins σ H s) (r:Vals vs us) (rz:Vals zs ws)
  (hx:∀ H0 s0 ev s',Inv X pins σ H0 s0->CX X.stack H0 s0 E ev s'->XE ev s')
  (h:∀ x dx,H x=none->H dx=none->dx≠x->sp (gV (.ref x::vs) zs) (upd (upd H dx (.own x)) x (.ins C dx [])) (fun v H2=>v=.non/\Q (.ref x) H2) E) :
  wpAny (model X.prog X.w) X.A (call (.ref C) us (ks.zip ws)) (EP X pins σ Q) XE s:=by
 have hq:=h (s.heap.objs.size+1) s.heap.objs.size (I.hok.fresh (Ss _)) (I.hok.fresh (Ol _)) (Oy (Ru _))
 have I2:=Inv.made (C:=C) I
 have r1:Vals (V.ref (s.heap.objs.size+1)::vs) (Value.ref (s.heap.objs.size+1)::us):=.cons rfl r
 have r2:=hb.rel r1 rz
 have hl:(g (Value.ref (s.heap.objs.size+1)::us) ws).length=ps.length:=by
  rw [<- r2.length]
  exact F.len _ _ _ _ hq
 have hb':=hb.to _ (Value.ref (s.heap.objs.size+1)::us) ws I2.kIn hl
 refine wpAny_call (Zi0 (f:=f) I.kIn M.makes M.init (beq_iff_eq.mp M.fn) (So (F.run _ X.stack _ _ ⟨Value.ref (s.heap.objs.size+1)::us,ks.zip ws⟩ (g (Value.ref (s.heap.objs.size+1)::us) ws) _ _ E (hr.make C us (ks.zip ws))
  (I2.env0.make C us (ks.zip ws)) hb' r2 hq) fun r s' hq'=>?_))
 cases r with
 | error e=>exact hx _ _ _ _ I2 hq'
 | ok fl =>
  cases fl with
  | ret u =>
   obtain ⟨v,H',I3,rv,ev,q3⟩:=I2.after hq'
   subst ev
   exact ⟨rv,⟨V.ref (s.heap.objs.size+1),H',I3,rfl,q3⟩⟩
  | next=>exact Py hq'
  | brk=>exact Py hq'
  | cont=>exact Py hq'
theorem Zkv (M:Oe CX X.prog X.w X.K X.mg X.base k x C ps ks gV sp)(hr:Room (k+1) X.A)(hx:K3 CX X E)(ha:QA X (e::es) t)(hkw:QK X kws tk)(hg:Gl X x:=by rfl)(hdb:(x == ("__debug__" : Str))=false:=by decide)
  (hall:(backToKw pos (keywordEach kws X.env)).all (·.1.isSome)=true:=by rfl) (hks:(backToKw pos (keywordEach kws X.env)).filterMap (·.1)=ks:=by rfl)
  (he:starEach (e::es) X.env=(false,eval e X.env)::starEach es X.env:=by rfl)
  (hpl:((backTo pos (starEach (e::es) X.env)).any (·.1) || (backToKw pos (keywordEach kws X.env)).any (·.1.isNone))=false:=by rfl):QE X (.Call (.Name x p) (e::es) kws pos) (Zc0 C gV sp E t tk):=by
 obtain ⟨f,fd,g,F,mk,hm,hb⟩:=M.ex
 refine ⟨fun pins s σ H Q I h=>?_⟩
 refine Se (Kz I hg hm ?_ hdb)
 refine PySem.W.callWith_KW (h₀:=X.base) I.ok.mod.kin mk.kp hall (Ag (ha.run pos pins s σ H _ I h) fun us s1 zq=>?_) hpl he
 obtain ⟨vs,H1,I1,r,q⟩:=zq
 refine Ag (hkw.run pos pins s1 σ H1 _ I1 q) fun ws s2 zq=>?_
 obtain ⟨zs,H2,I2,rz,q2⟩:=zq
 refine ⟨I2.kIn,?_⟩
 rw [hks]
 exact Zl2 mk F hr hb I2 r rz (fun H0 s0 ev s' I0 c=>hx pins σ H0 s0 ev s' I0 c) q2
end
section
variable {X:Cx}{pins:List (Addr×Obj)}{σ:St}{H:Hp}{s:Shared}
end
section
variable {κ:Type}[DecidableEq κ]
noncomputable def Bo (kvs:List (κ×V))(k:κ):Option V:=(kvs.find? fun kv=>decide (kv.1=k)).map (·.2)
noncomputable def Ck (kvs:List (κ×V))(k:κ)(v:V):List (κ×V) :=
 if (kvs.any fun kv=>decide (kv.1=k))=true then kvs.map (fun kv=>if kv.1=k then (kv.1,v) else kv) else kvs++[(k,v)]
theorem Dw {p:κ×V}{r:List (κ×V)}{k:κ}(e:p.1=k):Bo (p::r) k=some p.2:=by simp [Bo,Qr,e]
theorem Dq {p:κ×V}{r:List (κ×V)}{k:κ}(e:¬ p.1=k):Bo (p::r) k=Bo r k:=by simp [Bo,Qr,e]
theorem Kj (k:κ):∀ kvs:List (κ×V),(kvs.any fun kv=>decide (kv.1=k))=(Bo kvs k).isSome
 | []=>rfl
 | p::r=>by
  rw [Sn]
  by_cases e:p.1=k
  ·simp only [Dw e,decide_eq_true e,Bool.true_or,Option.isSome_some]
  ·rw [Dq e,decide_eq_false e,Bool.false_or];exact Kj k r
theorem Zb9 (k j:κ)(y:V):∀ kvs:List (κ×V),Bo (kvs.map fun kv=>if kv.1=k then (kv.1,y) else kv) j=(Bo kvs j).map fun x=>if j=k then y else x
 | []=>rfl
 | p::r=>by
  have ih:=Zb9 k j y r
  rw [O9]
  by_cases h:p.1=k
  ·rw [if_pos h]
   by_cases e:p.1=j
   ·rw [Dw (p:=(p.1,y)) e,Dw e,Ry,if_pos (e.symm.trans h)]
   ·rw [Dq (p:=(p.1,y)) e,Dq e,ih]
  ·rw [if_neg h]
   by_cases e:p.1=j
   ·rw [Dw (p:=p) e,Dw e,Ry,if_neg (fun z=>h (e.trans z))]
   ·rw [Dq (p:=p) e,Dq e,ih]
theorem Zfr (k j:κ)(y:V):∀ kvs:List (κ×V),Bo kvs k=none->Bo (kvs++[(k,y)]) j=if j=k then some y else Bo kvs j
 | [],_=>by
  by_cases e:k=j
  ·rw [if_pos e.symm];exact Dw (p:=(k,y)) e
  ·rw [if_neg (fun z=>e z.symm)];exact Dq (p:=(k,y)) e
 | p::r,hn=>by
  rw [Tv]
  have hk:¬ p.1=k:=fun z=>by rw [Dw z] at hn;cases hn
  rw [Dq hk] at hn
  have ih:=Zfr k j y r hn
  by_cases e:p.1=j
  ·rw [Dw e,Dw e,if_neg (fun z=>hk (e.trans z))]
  ·rw [Dq e,Dq e,ih]
theorem Zhm (kvs:List (κ×V))(k j:κ)(y:V):Bo (Ck kvs k y) j=if j=k then some y else Bo kvs j:=by
 unfold Ck
 by_cases a:(kvs.any fun kv=>decide (kv.1=k))=true
 ·rw [if_pos a,Zb9]
  rw [Kj] at a
  by_cases e:j=k
  ·obtain ⟨x,hx⟩:=Q6.mp a
   rw [if_pos e,e,hx,Ry,if_pos rfl]
  ·rw [if_neg e]
   cases Bo kvs j with
   | none=>rfl
   | some x=>rw [Ry,if_neg e]
 ·rw [if_neg a]
  refine Zfr k j y kvs ?_
  rw [Kj] at a
  cases q:Bo kvs k with
  | none=>rfl
  | some x=>rw [q] at a;exact (a rfl).elim
theorem Oa (kvs:List (κ×V))(k:κ)(v:V):(Ck kvs k v).length<=kvs.length+1:=by
 unfold Ck
 split
 ·rw [O1];omega
 ·rw [Ou,Ox,T4];omega
theorem RelO.isSome_eq {o:Option V}{u:Option Value}(r:RelO o u):o.isSome=u.isSome:=by
 cases o with
 | none=>cases u with
  | none=>rfl
  | some _=>exact (show False from r).elim
 | some _=>cases u with
  | none=>exact (show False from r).elim
  | some _=>rfl
theorem KV.val {kvs:List (κ×V)}{vs:List (κ×Value)}(r:KV kvs vs)(k:κ):RelO (Bo kvs k) (valueAt vs k):=by
 unfold KV at r
 induction r with
 | nil=>exact True.intro
 | @cons p q ps qs h t ih =>
  obtain ⟨h1,h2⟩:=h
  by_cases e:p.1=k
  ·have e':q.1=k:=h1.symm.trans e
   have b:valueAt (q::qs) k=some q.2:=by simp [valueAt,Qr,e']
   rw [Dw e,b];exact h2
  ·have e':¬ q.1=k:=fun z=>e (h1.trans z)
   have b:valueAt (q::qs) k=valueAt qs k:=by simp [valueAt,Qr,e']
   rw [Dq e,b];exact ih
theorem KV.any {kvs:List (κ×V)}{vs:List (κ×Value)}(r:KV kvs vs)(k:κ):(kvs.any fun kv=>decide (kv.1=k))=vs.any fun kv=>decide (kv.1=k):=by
 unfold KV at r
 induction r with
 | nil=>rfl
 | cons h t ih=>rw [Sn,Sn,ih,h.1]
theorem KV.repl {kvs:List (κ×V)}{vs:List (κ×Value)}(r:KV kvs vs)(k:κ){y:V}{u:Value}(ry:RelV y u) :
  KV (kvs.map fun kv=>if kv.1=k then (kv.1,y) else kv) (vs.map fun kv=>if kv.1=k then (kv.1,u) else kv):=by
 unfold KV at r ⊢
 induction r with
 | nil=>exact .nil
 | @cons p q ps qs h t ih =>
  rw [O9,O9]
  refine .cons ?_ ih
  obtain ⟨h1,h2⟩:=h
  by_cases e:p.1=k
  ·rw [if_pos e,if_pos (h1.symm.trans e)];exact ⟨h1,ry⟩
  ·rw [if_neg e,if_neg (fun z=>e (h1.trans z))];exact ⟨h1,h2⟩
theorem KV.put {kvs:List (κ×V)}{vs:List (κ×Value)}(r:KV kvs vs)(k:κ){y:V}{u:Value}(ry:RelV y u):KV (Ck kvs k y) (stored vs k u):=by
 unfold Ck stored
 rw [r.any k]
 by_cases e:(vs.any fun kv=>decide (kv.1=k))=true
 ·rw [if_pos e,if_pos e];exact r.repl k ry
 ·rw [if_neg e,if_neg e];exact Paired.snoc r ⟨rfl,ry⟩
theorem KV.length {kvs:List (κ×V)}{vs:List (κ×Value)}(r:KV kvs vs):kvs.length=vs.length:=T8 r
end
theorem Nn {P:Program}{w:World}{k:Ap}{u:Value}(r:RelV (kV k) u):(Cz P w).is k u=true:=by
 cases k with
 | inl i=>obtain ⟨t,e⟩:=(show ∃ t,u=Value.int i t from r);subst e;exact Zg3 P w i t
 | inr x=>obtain ⟨t,e⟩:=(show ∃ t,u=Value.str x t from r);subst e;exact Zhx P w x t
theorem Zda {P:Program}{w:World}:∀{ks:List Ap}{us:List Value},Vals (ks.map kV) us->ItemsAre (Cz P w) ks us
 | [],_,r=>by rw [Ud] at r;cases r;exact .nil
 | k::ks,_,r=>by
  rw [O9] at r
  cases r with
  | cons h t=>exact .cons (Nn h) (Zda t)
noncomputable abbrev KT (H:Hp):List (List Ap×V)->List (List Ap×Addr×Value)->Prop:=Paired fun p q=>p.1=q.1/\H q.2.1=some (.tup (p.1.map kV))/\RelV p.2 q.2.2
theorem KT.val {H:Hp}{kvs:List (List Ap×V)}{xs:List (List Ap×Addr×Value)}(r:KT H kvs xs)(k:List Ap):RelO (Bo kvs k) ((atKey xs k).map (·.2)):=by
 induction r with
 | nil=>exact True.intro
 | @cons p q ps qs h t ih =>
  obtain ⟨h1,_,h2⟩:=h
  by_cases e:p.1=k
  ·have e':q.1=k:=h1.symm.trans e
   have b:atKey (q::qs) k=some q.2:=by simp [atKey,Qr,e']
   rw [Dw e,b];exact h2
  ·have e':¬ q.1=k:=fun z=>e (h1.trans z)
   have b:atKey (q::qs) k=atKey qs k:=by simp [atKey,Qr,e']
   rw [Dq e,b];exact ih
theorem KT.repl {H:Hp}{kvs:List (List Ap×V)}{xs:List (List Ap×Addr×Value)}(r:KT H kvs xs)(k:List Ap){y:V}{u:Value}(ry:RelV y u) :
  KT H (kvs.map fun kv=>if kv.1=k then (kv.1,y) else kv) (xs.map (putAt k u)):=by
 induction r with
 | nil=>exact .nil
 | @cons p q ps qs h t ih =>
  rw [O9,O9]
  refine .cons ?_ ih
  obtain ⟨h1,h2,h3⟩:=h
  unfold putAt
  by_cases e:p.1=k
  ·rw [if_pos e,if_pos (h1.symm.trans e)];exact ⟨h1,h2,ry⟩
  ·rw [if_neg e,if_neg (fun z=>e (h1.trans z))];exact ⟨h1,h2,h3⟩
theorem KT.put {H:Hp}{kvs:List (List Ap×V)}{xs:List (List Ap×Addr×Value)}(r:KT H kvs xs)(k:List Ap){b:Addr}{y:V}{u:Value}(hb:H b=some (.tup (k.map kV)))(ry:RelV y u) :
  KT H (Ck kvs k y) (storedH xs k b u):=by
 have e:(kvs.any fun kv=>decide (kv.1=k))=(atKey xs k).isSome:=by
  rw [Kj,(r.val k).isSome_eq,Option.isSome_map]
 unfold Ck storedH
 rw [e]
 by_cases q:(atKey xs k).isSome=true
 ·rw [if_pos q,if_pos q];exact r.repl k ry
 ·rw [if_neg q,if_neg q];exact Paired.snoc r ⟨rfl,hb,ry⟩
theorem KT.keeps {H H':Hp}{kvs:List (List Ap×V)}{xs:List (List Ap×Addr×Value)}(r:KT H kvs xs)(ht:∀ b ys,H b=some (.tup ys)->H' b=some (.tup ys)):KT H' kvs xs :=
 Paired.mapP r fun _ _ z=>⟨z.1,ht _ _ z.2.1,z.2.2⟩
section
variable {P:Program}{w:World}{H:Hp}{h:Heap}{a:Addr}
theorem Ze5 {u:HO}(ok:HOk P w H h)(e:Rd H a u):ObjOk P w H h a u:=e.ok ok
theorem M0 {kvs:List (Ap×V)}(ok:HOk P w H h)(e:Rd H a (.dK kvs)):kvs.length<=sizeLine/\(a == sysModules)=false/\∃ vs,KV kvs vs/\h.DictOf (Cz P w) a vs :=
 show ObjOk P w H h a (.dK kvs) from Ze5 ok e
theorem Zhf {kvs:List (Ap×V)}(ok:HOk P w H h)(e:H a=some (.dK kvs)):kvs.length<=sizeLine/\(a == sysModules)=false/\∃ vs,KV kvs vs/\h.DictOf (Cz P w) a vs:=M0 ok (.inl e)
theorem Nm {ks:List Ap}(ok:HOk P w H h)(e:H a=some (.tup (ks.map kV))):(tupleKind (Cz P w)).is h ks a:=by
 obtain ⟨_,its,r,o,h1,h2,n,h3⟩:=(show ObjOk P w H h a (.tup (ks.map kV)) from ok a _ e)
 exact ⟨o,its.toArray,n,h1,h2,h3,by simpa using Zda r⟩
theorem N9 {kvs:List (List Ap×V)}(ok:HOk P w H h)(e:Rd H a (.dT kvs)):kvs.length<=sizeLine/\(a == sysModules)=false /\
  ∃ xs,KT H kvs xs/\h.DictOfH (tupleKind (Cz P w)) a xs:=by
 obtain ⟨z,y,xs,r,o,es,ep,h1,h2,h3,h4,h5⟩:=(show ObjOk P w H h a (.dT kvs) from Ze5 ok e)
 refine ⟨z,y,xs,r,o,es,ep,h1,h2,h3,h4,fun x hx=>?_,h5⟩
 have all:∀{l:List (List Ap×V)}{m:List (List Ap×Addr×Value)},KT H l m->∀ x∈m,(tupleKind (Cz P w)).is h x.1 x.2.1:=by
  intro l m q
  induction q with
  | nil=>intro x hx;exact nomatch hx
  | @cons p q ps qs hq t ih =>
   intro x hx
   rcases Ow.mp hx with e | hx
   ·subst e
    exact Nm ok (by rw [<- hq.1];exact hq.2.1)
   ·exact ih x hx
 exact all r x hx
theorem Zgz {kvs:List (List Ap×V)}(ok:HOk P w H h)(e:H a=some (.dT kvs)):kvs.length<=sizeLine/\(a == sysModules)=false /\
  ∃ xs,KT H kvs xs/\h.DictOfH (tupleKind (Cz P w)) a xs:=N9 ok (.inl e)
end
noncomputable def DGet (H:Hp)(a:Addr)(y:V)(r:Option V):Prop :=
 (∃ kvs k,Rd H a (.dK kvs)/\y=kV k/\r=Bo kvs k)\/∃ kvs k b,Rd H a (.dT kvs)/\y=.ref b/\H b=some (.tup (k.map kV))/\r=Bo kvs k
noncomputable def DPut (H:Hp)(a:Addr)(y v:V)(H':Hp):Prop :=
 (∃ kvs k,H a=some (.dK kvs)/\y=kV k/\kvs.length < sizeLine/\H'=upd H a (.dK (Ck kvs k v))) \/
 ∃ kvs k b,H a=some (.dT kvs)/\y=.ref b/\H b=some (.tup (k.map kV))/\kvs.length < sizeLine/\H'=upd H a (.dT (Ck kvs k v))
theorem DGet.t {H:Hp}{a b:Addr}{kvs:List (List Ap×V)}{k:List Ap}(e:H a=some (.dT kvs))(eb:H b=some (.tup (k.map kV))):DGet H a (.ref b) (Bo kvs k):=.inr ⟨kvs,k,b,.inl e,rfl,eb,rfl⟩
theorem DPut.t {H:Hp}{a b:Addr}{kvs:List (List Ap×V)}{k:List Ap}{v:V}(e:H a=some (.dT kvs))(eb:H b=some (.tup (k.map kV)))(hl:kvs.length < sizeLine) :
  DPut H a (.ref b) v (upd H a (.dT (Ck kvs k v))):=.inr ⟨kvs,k,b,e,rfl,eb,hl,rfl⟩
section
variable {X:Cx}{pins:List (Addr×Obj)}{σ:St}{H:Hp}{s:Shared}{a:Addr}{y v:V}{u r:Value}{o:Option V}{A:Around}{E:Value->Shared->Prop}
theorem Inv.big (I:Inv X pins σ H s):sysModules < s.heap.objs.size:=by
 have h:mainGlobals < s.heap.objs.size:=(I.mod.glob.keeps I.bk).lt
 exact Nat.lt_trans (by decide) h
theorem Zl8 {Q:Value->Shared->Prop}(hu:A.units+1 < cLine)(I:Inv X pins σ H s)(g:DGet H a y (some v))(ry:RelV y u)(h:∀ w' s',Inv X pins σ H s'->RelV v w'->Q w' s') :
  wpAny (model X.prog X.w) A (getItem (.ref a) u) Q E s:=by
 rcases g with ⟨kvs,k,e,ey,l⟩ | ⟨kvs,k,b,e,ey,eb,l⟩
 ·subst ey
  obtain ⟨z,hd,vs,rel,dd⟩:=M0 I.hok e
  obtain ⟨w',hw,rw'⟩:=RelO.some_of (v:=v) (o:=valueAt vs k) (by rw [l];exact rel.val k)
  exact wpAny_getItem_of (Nn ry) dd.mapOf hw (h w' _ (I.tok _) rw')
 ·subst ey
  cases (show u=Value.ref b from ry)
  obtain ⟨z,hd,xs,rel,dd⟩:=N9 I.hok e
  obtain ⟨w',hw,rw'⟩:=RelO.some_of (v:=v) (o:=(atKey xs k).map (·.2)) (by rw [l];exact rel.val k)
  obtain ⟨p,hp,hp2⟩:=Option.map_eq_some_iff.mp hw
  refine wpAny_getItem_heap (tupleKind_room_in1 hu) (Nm I.hok eb) dd hp ?_
  rw [hp2]
  exact h w' _ (I.tok _) rw'
theorem Zdf {h':Heap}{t':Nat}{ob:HO}(I:Inv X pins σ H s)(mu:Mut (H a))(hs:Pe a s.heap h')(he:∃ q,h'.get? a=some q)(new:ObjOk X.prog X.w (upd H a ob) h' a ob) :
  Inv X pins σ (upd H a ob) { s with heap:=h',toks:=t' } :=
 I.write (x:=a) (e:=a) mu (.inl rfl) (fun b q hb z=>(hs.2 b hb).trans z) he new
theorem Zg9 {P:Program}{w:World}{H':Hp}{h':Heap}{kvs:List (Ap×V)}{vs:List (Ap×Value)}(z:kvs.length<=sizeLine)(hd:(a == sysModules)=false)(rel:KV kvs vs)(dd:h'.DictOf (Cz P w) a vs) :
  ObjOk P w H' h' a (.dK kvs):=⟨z,hd,vs,rel,dd⟩
theorem Zke {H':Hp}{Q:Unit->Shared->Prop}(hu:A.units+1 < cLine)(I:Inv X pins σ H s)(g:DPut H a y v H')(ry:RelV y u)(rv:RelV v r)(h:∀ s',Inv X pins σ H' s'->Q () s') :
  wpAny (model X.prog X.w) A (setItem (.ref a) u r) Q E s:=by
 rcases g with ⟨kvs,k,e,ey,l,eH⟩ | ⟨kvs,k,b,e,ey,eb,l,eH⟩
 ·subst ey eH
  obtain ⟨z,hd,vs,rel,dd⟩:=Zhf I.hok e
  have hz:vs.length<=sizeLine:=by rw [<- rel.length];exact z
  have hl:(Ck kvs k v).length<=sizeLine:=by have:=Oa kvs k v;omega
  refine wpAny_setItem_pairs (hsz:=hz) (Nn ry) dd fun h' dd' hs=>h _ ?_
  have he:∃ q,h'.get? a=some q:=let ⟨q,_,_,hq,_⟩:=dd';⟨q,hq⟩
  exact Zdf I (by rw [e];exact True.intro) hs he (Zg9 hl hd (rel.put k rv) dd')
 ·subst ey eH
  cases (show u=Value.ref b from ry)
  obtain ⟨z,hd,xs,rel,dd⟩:=Zgz I.hok e
  have hz:xs.length<=sizeLine:=by rw [<- T8 rel];exact z
  have hl:(Ck kvs k v).length<=sizeLine:=by have:=Oa kvs k v;omega
  refine wpAny_setItem_heap (hsz:=hz) (tupleKind_room_in1 hu) (Nm I.hok eb) dd fun h' dd' hs=>h _ ?_
  obtain ⟨q,es,ep,hq,h2,h3,h4,_,h5⟩:=dd'
  refine Zdf I (by rw [e];exact True.intro) hs ⟨q,hq⟩ ⟨hl,hd,_,(rel.put k eb rv).keeps fun c ys ec=>?_,q,es,ep,hq,h2,h3,h4,h5⟩
  rw [Ah (Gu ec e (fun z=>nomatch z))]
  exact ec
end
section
variable {X:Cx}{pins:List (Addr×Obj)}{σ:St}{H:Hp}{s:Shared}{a:Addr}{kvs:List (Ap×V)}{k:Ap}{u:Value}{A:Around}{E:Value->Shared->Prop}
end
noncomputable def Lk (i:Expr):Prop:=∀ ov iv,subscripted i false ov iv=operate [ov,iv] (getItem ov iv)
theorem Zqc {prog:Program}{w:World}{A:Around}{E:Value->Shared->Prop}{s:Shared}{env:Env}{value slice:Expr}{pos:Pos}{T id:String}{Q:Value->Shared->Prop}
  (hl:typeLookup (.type T) "__getitem__" = pure (some (.builtin id))) (hs:Lk slice)
  (h:wpAny (model prog w) A (eval value env) (fun o s₁=>wpAny (model prog w) A (eval slice env) (fun i s₂=>s₂.TypeIs o T/\wpAny (model prog w) A (getItem o i) Q E s₂) E s₁) E s) :
  wpAny (model prog w) A (eval (.Subscript value slice pos) env) Q E s:=by
 refine Subscript_ (R9 h (fun o s₁ h₁=>R9 h₁ (fun i s₂ h₂=>?_) fun _ _ x=>x) fun _ _ x=>x)
 obtain ⟨hT,h₂⟩:=h₂
 unfold subscriptTail
 refine Oh ?_
 rw [getitemInPython_of_ne hT.not_modules]
 refine Oh (Sk hT hl ?_)
 have fin:wpAny (model prog w) A (subscripted slice false o i) (fun r s₃=>wpAny (model prog w) A (letTemporaryGo value o r >>= fun _=>pure r) Q E s₃) E s₂:=by
  rw [hs o i]
  exact wpAny_operating (R9 h₂ (fun r s₃ h₃=>Oh (wpAny_letTemporaryGo (Om h₃))) fun _ _ x=>x)
 first
  | exact Om (Oh fin)
  | exact Oh (Om (Oh fin))
  | exact Oh fin
theorem Zpp {X:Cx}{pins:List (Addr×Obj)}{σ:St}{H:Hp}{s:Shared}{a:Addr}{y:V}{o:Option V}(I:Inv X pins σ H s)(g:DGet H a y o):s.TypeIs (.ref a) "dict" := by
 rcases g with ⟨kvs,k,e,_,_⟩ | ⟨kvs,k,b,e,_,_,_⟩
 ·obtain ⟨_,_,vs,_,dd⟩:=M0 I.hok e
  exact dd.typeIs
 ·obtain ⟨_,_,xs,_,dd⟩:=N9 I.hok e
  exact dd.typeIs
noncomputable def M6 (td ty:TE):TE:=fun σ H Q=>td σ H fun x H1=>ty σ H1 fun y H2=>∃ a v,x=.ref a/\DGet H2 a y (some v)/\Q v H2
noncomputable def M4 (td ty tv:TE):TS:=fun D σ H=>tv σ H fun v H1=>td σ H1 fun x H2=>ty σ H2 fun y H3=>∃ a H4,x=.ref a/\DPut H3 a y v H4/\D.nx σ H4
section
variable {X:Cx}{o i e value:Expr}{pos pos' tpos:Pos}{td ty tv:TE}
theorem Zqf (hu:X.A.units+1 < cLine)(ho:PE X o td)(hi:PE X i ty)(hs:Lk i):PE X (.Subscript o i pos) (M6 td ty):=by
 intro pins s σ H Q I h
 refine Zqc PySem.F.slot_dict_getitem.lookup hs (Ag (ho pins s σ H _ I h) fun u s1 zq=>?_)
 obtain ⟨x,H1,I1,rx,q1⟩:=zq
 refine Ag (hi pins s1 σ H1 _ I1 q1) fun iv s2 zq=>?_
 obtain ⟨y,H2,I2,ry,a,v,ex,g,q2⟩:=zq
 subst ex
 obtain rfl:u=Value.ref a:=rx
 exact ⟨Zpp I2 g,Zl8 hu I2 g ry fun w' s3 I3 rw'=>⟨v,H2,I3,rw',q2⟩⟩
theorem Zm0 (hu:X.A.units+1 < cLine)(ho:PE X o td)(hi:PE X i ty)(hv:PE X value tv)(hs:swapsWith value (some (.Subscript o i pos')) pos.line X.env=pure false) :
  PS X (.Assign [.Subscript o i pos'] value pos) (M4 td ty tv):=by
 intro pins s σ H D I h
 refine wpAny_Assign_Subscript (Ag (hv pins s σ H _ I h) fun r s1 zq=>?_) hs
 obtain ⟨v,H1,I1,rv,q1⟩:=zq
 refine Ag (ho pins s1 σ H1 _ I1 q1) fun u s2 zq=>?_
 obtain ⟨x,H2,I2,rx,q2⟩:=zq
 refine Ag (hi pins s2 σ H2 _ I2 q2) fun iv s3 zq=>?_
 obtain ⟨y,H3,I3,ry,a,H4,ex,g,q3⟩:=zq
 subst ex
 obtain rfl:u=Value.ref a:=rx
 exact Zke hu I3 g ry rv fun s4 I4=>⟨σ,H4,I4,q3⟩
end
theorem Zi9 {P:Program}{w:World}{H:Hp}(h:Heap)(hb:sysModules < h.objs.size):ObjOk P w H (h.push { cls:=.type "dict",data:=.dict #[] }) h.objs.size (.dT []) :=
 ⟨Pj _,beq_eq_false_iff_ne.mpr (Pf (Oy hb)),[],.nil,_,#[],0,O0 _ rfl,⟨rfl,rfl,rfl⟩,rfl,rfl,List.nodup_nil⟩
noncomputable def Zbg:TE:=fun _ H Q=>∀ p,H p=none->Q (.ref p) (upd H p (.dT []))
section
variable {X:Cx}{pos:Pos}
theorem Zo5:PE X (.Dict [] [] pos) Zbg:=fun pins s σ H Q I h =>
 wpAny_Dict_empty ⟨.ref s.heap.objs.size,_,I.laid (a:=s.heap.objs.size) (o:=.dT []) (t':=s.toks) (fun _ _ q=>Oq _ q) (Ol _) (Zi9 s.heap I.big),rfl,h _ (I.hok.fresh (Ol _))⟩
end
section
variable {X:Cx}{pins:List (Addr×Obj)}{σ:St}{H:Hp}{s:Shared}{a:Addr}{y d:V}{u r:Value}{o:Option V}{A:Around}{E:Value->Shared->Prop}
end
section
variable {X:Cx}{o e f:Expr}{apos cpos:Pos}{td ty tx:TE}
end
section
variable {X:Cx}{pins:List (Addr×Obj)}{σ:St}{H:Hp}{s:Shared}{a:Addr}{kvs:List (Ap×V)}{A:Around}{E:Value->Shared->Prop}
end
section
variable {X:Cx}{pins:List (Addr×Obj)}{σ:St}{H:Hp}{s:Shared}{a:Addr}{y:V}{u:Value}{A:Around}{E:Value->Shared->Prop}
end
end L2
namespace PySem
namespace F
end F
end PySem
namespace L2
open PySem PySem.Spec PyProof.Rows
section
variable {X:Cx}{pins:List (Addr×Obj)}{σ:St}{H:Hp}{s:Shared}{a:Addr}{y v:V}{u r:Value}{A:Around}{E:Value->Shared->Prop}
end
theorem Room.u1 {k:Nat}{A:Around}(r:Room k A):A.units+1 < cLine:=by have:=r.u200;omega
section
variable {X:Cx}{k:Nat}{x m f:Str}{ps:List Str}{sp:Sp}{E:XK}{C:Addr}{p pos pos' tpos apos:Pos}{e o i value:Expr}{es:List Expr}{ta tv td ty:TE}{t:TA}{CX:Cg}{P:Program}{w:World}{mg:Str->Option Value}{base:Heap}{K:Og}
theorem Zc7 (hu:X.A.units+1 < cLine)(ho:QE X o td)(hi:QE X i ty)(hs:Lk i):QE X (.Subscript o i pos) (M6 td ty):=⟨Zqf hu ho.run hi.run hs⟩
noncomputable def Ny (K:Og):R2:=fun x y H Q=>Dg K x y H Q\/∃(a b:Addr)(xs ys:List V),x=.ref a/\y=.ref b/\H a=some (.tup xs)/\H b=some (.tup ys)/\xs.length+ys.length<=sizeLine/\∀ p H',Same H H'->H' p=some (.tup (xs++ys))->Q (.ref p) H'
theorem Zp4:OpR X (binaryOp .Add) (Ny X.K):=by
 refine op_addA.or ?_
 intro pins s σ H x y v u Q I rx ry h
 obtain ⟨a,b,xs,ys,rfl,rfl,ha,hb,hz,q⟩:=h
 have ha':SqT X.K H a xs:=SqT.of ha
 have hb':SqT X.K H b ys:=SqT.of hb
 by_cases hx:xs=[]
 ·subst hx
  cases rx
  cases ry
  obtain ⟨its,r1,p1,_⟩:=I.tuple ha'
  obtain ⟨its2,r2,p2,_⟩:=I.tuple hb'
  cases r1
  obtain ⟨⟨cls,dd,data,sl⟩,ho,hc,n,hd⟩:=id p1
  obtain ⟨⟨cls2,dd2,data2,sl2⟩,ho2,hc2,n2,hd2⟩:=id p2
  simp only at hc hd hc2 hd2
  subst hc hd hc2 hd2
  exact Ub ⟨_,ho,rfl⟩ ⟨_,ho2,rfl⟩ Tu T9 Th Tf (Tc _ _)
   (tuple_addW0 a b _ _ n n2 dd dd2 sl sl2 (by simp)) ⟨ho,ho2,⟨.ref b,H,I,rfl,q b H (Same.refl H) hb⟩⟩
 ·refine Zc9 pins s σ H _ _ v u Q I rx ry ⟨a,b,xs,ys,rfl,rfl,ha',hb',hx,hz,fun e=>?_,fun _ p hp=>q p _ (fun c o e=>by rw [Ah (Bf e hp)];exact e) Ad⟩
  subst e
  exact q a H (Same.refl H) (by rw [Pt];exact ha)
theorem Zam (K:Og)(hK:X.K=K:=by rfl):OpR X (binaryOp .Add) (Ny K):=by subst hK;exact Zp4
theorem L4 {a b:Addr}{xs ys:List V}{H:Hp}{Q:VK}(ha:H a=some (.tup xs))(hb:H b=some (.tup ys))(hz:xs.length+ys.length<=sizeLine)(h:∀ p H',Same H H'->H' p=some (.tup (xs++ys))->Q (.ref p) H'):Ny K (.ref a) (.ref b) H Q:=.inr ⟨a,b,xs,ys,rfl,rfl,ha,hb,hz,h⟩
theorem s_dget {td ty:TE}{σ:St}{H:Hp}{Q:VK}(h:td σ H fun x H1=>ty σ H1 fun y H2=>∃ a v,x=.ref a/\DGet H2 a y (some v)/\Q v H2):M6 td ty σ H Q:=h
end
end L2
namespace L2
open PySem
noncomputable def RowT (K:Og)(H:Hp)(v:V)(x:List Nat×Tr):Prop:=∃(a p:Addr)(u:V),v=.ref a/\SqT K H a [.ref p,u]/\H p=some (.tup (Ay x.1))/\TrAt K H u x.2
theorem RowT.same {K:Og}{H H':Hp}(e:SameT H H')(v:V)(x:List Nat×Tr)(h:RowT K H v x):RowT K H' v x:=by
 obtain ⟨a,p,u,r,q,qp,t⟩:=h
 exact ⟨a,p,u,r,e.tup q,(e p).1 _ qp,t.sameT e⟩
noncomputable def Cm (pl:List Nat):List Ap:=pl.map fun i:Nat=>Sum.inl ((i:Nat):Int)
theorem Zbv (pl:List Nat):(Cm pl).map kV=Ay pl:=by unfold Cm Ay;rw [Uf];rfl
section
variable {K:Og}{HB H H':Hp}{C:Addr}{kvs:List (List Ap×V)}{L:Ml}{S:MS}
end
section
variable {g:TG}{tt:TT}{te:TE}{σ0:St}{H1:Hp}{D:Addr}{Q:VK}
end
theorem Zh6 {a b:List Nat}(h:Cm a=Cm b):a=b:=by
 unfold Cm at h
 induction a generalizing b with
 | nil=>cases b with
  | nil=>rfl
  | cons y r=>simp at h
 | cons x l ih=>cases b with
  | nil=>simp at h
  | cons y r =>
   simp only [O9,List.cons.injEq] at h
   have h1:x=y:=by have:=Sum.inl.inj h.1;omega
   rw [h1,ih h.2]
end L2
namespace L2
open PySem PySem.Spec PyProof.Rows
section
variable {X:Cx}
end
end L2
namespace L2
open PySem PySem.Spec PySem.Calls PySem.W PyProof.Rows
section
variable {X:Cx}
end
end L2
namespace L2
open PySem PySem.Spec PyProof.Rows
section
variable {X:Cx}{c n:Str}{np hpos pos:Pos}{body hbody:List Stmt}{b₀:Stmt}{tb:TXS}{th:TS}{i:Nat}{C:Addr}
end
section
variable {X:Cx}{o i e f k v value:Expr}{pos pos' apos cpos:Pos}{td ty tx tk tv:TE}
theorem Zpr:QE X (.Dict [] [] pos) Zbg:=⟨Zo5⟩
theorem Zla (hu:X.A.units+1 < cLine)(ho:QE X o td)(hi:QE X i ty)(hv:QE X value tv)(hs:swapsWith value (some (.Subscript o i pos')) pos.line X.env=pure false:=by rfl):QS X (.Assign [.Subscript o i pos'] value pos) (M4 td ty tv):=⟨Zm0 hu ho.run hi.run hv.run hs⟩
end
section
variable {X:Cx}{c n:Str}{np hpos pos:Pos}{body hbody:List Stmt}{b₀:Stmt}{tb:TXS}{th:TS}{i:Nat}{C:Addr}{rest:List ExceptHandler}{tr:THd}
end
section
variable {X:Cx}
end
theorem Znv {X:Cx}{pos:Pos}{i j:Nat}{x y:Str}{a b:Expr}{ta:TA}{px py pt:Pos}{kt k2 pt2}(hc:X.calm=true)(hN:X.N.Nodup)(hi:X.N[i]?=some x)(hj:X.N[j]?=some y)(hij:i≠j)
  (hx:X.env.scope.names.lookup x=some .local) (hy:X.env.scope.names.lookup y=some .local) (ha:QA X [a,b] ta)
  (hw:swappedStores [.Tuple [.Name x px,.Name y py] kt pt] (.Tuple [a,b] k2 pt2) X.env=pure (some [x,y]):=by rfl)
  (hs:swapsWithSole [.Tuple [.Name x px,.Name y py] kt pt] (.Tuple [a,b] k2 pt2) pos.line X.env=pure false:=by rfl) :
  QS X (.Assign [.Tuple [.Name x px,.Name y py] kt pt] (.Tuple [a,b] k2 pt2) pos) (Zae i j ta):=⟨Zly hc hN hi hj hij hx hy ha.run hw hs⟩
theorem s_par {i j:Nat}{ta:TA}{D:Cp}{σ:St}{H:Hp}(h:ta σ H fun vs H1=>∃ v w,vs=[v,w]/\D.nx ((σ.set i (some v)).set j (some w)) H1):Zae i j ta D σ H:=h
theorem s_dput {td ty tv:TE}{D:Cp}{σ:St}{H:Hp}(h:tv σ H fun v H1=>td σ H1 fun x H2=>ty σ H2 fun y H3=>∃ a H4,x=.ref a/\DPut H3 a y v H4/\D.nx σ H4):M4 td ty tv D σ H:=h
section
variable {X:Cx}
end
section
variable {X:Cx}
end
section
variable {g:TG}{tt:TT}{te:TE}{σ0:St}{H1:Hp}{D:Addr}{Q:VK}
end
section
variable {X:Cx}
end
theorem s_isB {x:V}{b:Bool}{H:Hp}{Q:VK}(h:Q (.bl (decide (x=.bl b))) H):rIsB x (.bl b) H Q:=⟨b,rfl,h⟩
section
variable {X:Cx}
end
section
variable {prog:Program}{w:World}{A:Around}{E:Value->Shared->Prop}{s:Shared}
end
section
variable {X:Cx}{tg:Expr}
end
section
variable {X:Cx}{c n:Str}{np hpos pos:Pos}{body hbody:List Stmt}{b₀:Stmt}{tb:TXS}{th:Addr->TS}{i:Nat}{C:Addr}
end
section
variable {P:Program}{w:World}{K:Og}{mg:Str->Option Value}{base:Heap}
end
section
variable {X:Cx}{k:Nat}{x:Str}{ps:List Str}{sp:Addr->Sp}{p pos:Pos}{e:Expr}{es:List Expr}{t:TA}
end
section
variable {X:Cx}{tg:Expr}
end
section
variable {X:Cx}
end
section
variable {X:Cx}
end
section
variable {X:Cx}{pins:List (Addr×Obj)}{σ:St}{H:Hp}{s:Shared}
end
section
variable {X:Cx}
open Classical in
end
inductive Pu:Dt->Prop where
 | str (t:Str):Pu (.flat (.str t))
 | int (i:Int):Pu (.flat (.int i))
 | tup {ds:List Dt} (h:∀ d∈ds,Pu d):Pu (.tup ds)
section
variable {X:Cx}{pins:List (Addr×Obj)}{σ:St}{H:Hp}{s:Shared}
theorem Zem:∀{xs ys:List V}{us:List Value},Vals xs us->Vals ys us->xs=ys
 | _,_,_,.nil,.nil=>rfl
 | _,_,_,.cons r rr,.cons q qq=>by rw [RelV.inj r q,Zem rr qq]
theorem Jl (I:Inv X pins σ H s){a:Addr}{xs ys:List V}(hx:SqT X.K H a xs)(hy:SqT X.K H a ys):xs=ys:=by
 obtain ⟨its,r1,p1,_⟩:=I.tuple hx
 obtain ⟨its2,r2,p2,_⟩:=I.tuple hy
 have hh:its=its2:=by
  have q1:s.heap.IsTuple a its.toArray:=p1
  have q2:s.heap.IsTuple a its2.toArray:=p2
  obtain ⟨o,g1,c1,n1,d1⟩:=q1
  obtain ⟨o2,g2,c2,n2,d2⟩:=q2
  rw [g1] at g2
  cases g2
  rw [d1] at d2
  injection d2 with d3
  exact congrArg Array.toList d3
 subst hh
 exact Zem r1 r2
theorem Zgd (I:Inv X pins σ H s):∀{n m:Nat}{x:V}{d d':Dt},Bl X.K H n x d->Bl X.K H m x d'->Pu d->Pu d'->d=d':=by
 intro n
 induction n with
 | zero =>
  intro m x d d' h h' p p'
  cases h with
  | flat f=>cases h' with
   | flat _=>rfl
   | tup _ _ _=>cases f
   | lst _ _ _=>cases f
 | succ n ih =>
  intro m x d d' h h' p p'
  cases h with
  | flat f=>cases h' with
   | flat _=>rfl
   | tup _ _ _=>cases f
   | lst _ _ _=>cases f
  | tup q l g =>
   cases p with
   | tup p =>
   cases h' with
   | flat f=>cases f
   | lst _ _ _=>cases p'
   | tup q' l' g' =>
    cases p' with
    | tup p' =>
    have e:=Jl I q q'
    subst e
    congr 1
    refine Vd (by omega) fun j h1 h2=>?_
    exact ih (g j _ _ (Oi (by omega)) (Oi h1)) (g' j _ _ (Oi (by omega)) (Oi h2)) (p _ (Rc h1)) (p' _ (Rc h2))
  | lst q l g=>cases p
theorem Za3 (I:Inv X pins σ H s):∀{n:Nat}{x y:V}{d d':Dt},Bl X.K H n x d->Bl X.K H n y d'->Pu d->Pu d'->∀{A:Around}{u v:Value},RelV x u->RelV y v->A.units+n < cLine->∃ b:Bool,(b=true↔d=d')/\Oj A s u v b:=by
 have flats:∀{x y:V}{A:Around}{u v:Value},Pu (.flat x)->Pu (.flat y)->RelV x u->RelV y v->∃ b:Bool,(b=true↔Dt.flat x=Dt.flat y)/\Oj A s u v b:=by
  intro x y A u v p p' rx ry
  cases p with
  | str t =>
   obtain ⟨t1,rfl⟩:=rx
   cases p' with
   | str t'=>obtain ⟨t2,rfl⟩:=ry;exact ⟨t == t',by rw [beq_iff_eq];exact ⟨fun h=>by rw [h],fun h=>by injection h with h;injection h⟩,Tp _ _ _ _⟩
   | int i=>obtain ⟨t2,rfl⟩:=ry;exact ⟨false,⟨fun h=>(by cases h),fun h=>(by injection h with h;cases h)⟩,To _ _ _ _⟩
  | int i =>
   obtain ⟨t1,rfl⟩:=rx
   cases p' with
   | str t'=>obtain ⟨t2,rfl⟩:=ry;exact ⟨false,⟨fun h=>(by cases h),fun h=>(by injection h with h;cases h)⟩,Tl _ _ _ _⟩
   | int j=>obtain ⟨t2,rfl⟩:=ry;exact ⟨i == j,by rw [beq_iff_eq];exact ⟨fun h=>by rw [h],fun h=>by injection h with h;injection h⟩,Uy _ _ _ _⟩
 intro n
 induction n with
 | zero =>
  intro x y d d' hx hy p p' A u v rx ry hu
  cases hx with
  | flat fx =>
   cases hy with
   | flat fy=>exact flats p p' rx ry
 | succ n ih =>
  intro x y d d' hx hy p p' A u v rx ry hu
  cases hx with
  | lst _ _ _=>cases p
  | flat fx =>
   cases hy with
   | flat fy=>exact flats p p' rx ry
   | lst _ _ _=>cases p'
   | tup q l g =>
    cases ry
    obtain ⟨its,r,pl,_⟩:=I.tuple q
    cases p with
    | str t=>obtain ⟨t1,rfl⟩:=rx;exact ⟨false,⟨fun h=>(by cases h),fun h=>(by cases h)⟩,Oj.str_tuple _ _ pl (by omega)⟩
    | int i=>obtain ⟨t1,rfl⟩:=rx;exact ⟨false,⟨fun h=>(by cases h),fun h=>(by cases h)⟩,Oj.int_tuple _ _ pl (by omega)⟩
  | @tup _ a vs ds q l g =>
   cases rx
   obtain ⟨its,r,pl,_⟩:=I.tuple q
   cases hy with
   | lst _ _ _=>cases p'
   | flat fy =>
    cases p' with
    | str t=>obtain ⟨t1,rfl⟩:=ry;exact ⟨false,⟨fun h=>(by cases h),fun h=>(by cases h)⟩,Oj.tuple_str _ _ pl (by omega)⟩
    | int i=>obtain ⟨t1,rfl⟩:=ry;exact ⟨false,⟨fun h=>(by cases h),fun h=>(by cases h)⟩,Oj.tuple_int _ _ pl (by omega)⟩
   | @tup _ c vs' ds' q' l' g' =>
    cases ry
    by_cases z:a=c
    ·subst z
     refine ⟨true,⟨fun _=>Zgd I (.tup q l g) (.tup q' l' g') p p',fun _=>rfl⟩,Rf _⟩
    ·obtain ⟨its',r',pl',_⟩:=I.tuple q'
     cases p with
     | tup p =>
     cases p' with
     | tup p' =>
     have hi:∀ j:Nat,∃ b:Bool,∀(h1:j < its.length)(h2:j < its'.length),(b=true↔ds[j]?=ds'[j]?)/\Oj A.in1 s its[j] its'[j] b:=fun j=>by
      by_cases h1:j < its.length
      ·by_cases h2:j < its'.length
       ·have k1:=r.length
        have k2:=r'.length
        have ev:vs[j]?=some (vs[j]'(by omega)):=Oi _
        have ev':vs'[j]?=some (vs'[j]'(by omega)):=Oi _
        have ed:ds[j]?=some (ds[j]'(by omega)):=Oi _
        have ed':ds'[j]?=some (ds'[j]'(by omega)):=Oi _
        obtain ⟨w,hw,rw1⟩:=r.get ev
        obtain ⟨w',hw',rw2⟩:=r'.get ev'
        rw [Oi h1] at hw
        rw [Oi h2] at hw'
        cases hw
        cases hw'
        obtain ⟨b,b1,b2⟩:=ih (g j _ _ ev ed) (g' j _ _ ev' ed') (p _ (Rc _)) (p' _ (Rc _)) (A:=A.in1) rw1 rw2 (by show A.units+1+n < cLine;omega)
        refine ⟨b,fun _ _=>⟨?_,b2⟩⟩
        rw [b1,ed,ed']
        exact ⟨fun h=>by rw [h],fun h=>Ov h⟩
       ·exact ⟨false,fun _ h=>absurd h h2⟩
      ·exact ⟨false,fun h=>absurd h h1⟩
     have T:=Si (A:=A) (e:=fun j=>Ve (hi j)) (show s.heap.IsTuple a its.toArray from pl) (show s.heap.IsTuple c its'.toArray from pl') (by omega) (fun j h1 h2=>by
      have:=(Qn (hi j) (by simpa using h1) (by simpa using h2)).2
      simpa using this)
     refine ⟨_,?_,Sg z T⟩
     have k1:=r.length
     have k2:=r'.length
     simp only [On,Pa,O4,T6,beq_iff_eq]
     constructor
     ·rintro ⟨h1,h2⟩
      congr 1
      refine Va fun j=>?_
      by_cases hj:j < its.length
      ·exact ((Qn (hi j) hj (by omega)).1).mp (h1 j (by omega))
      ·rw [Q8 (by omega),Q8 (by omega)]
     ·intro h
      injection h with h
      have hl:its.length=its'.length:=by
       have:=congrArg R7 h
       omega
      refine ⟨fun j hj=>((Qn (hi j) (by omega) (by omega)).1).mpr (by rw [h]),hl⟩
theorem Zka (I:Inv X pins σ H s){n:Nat}{a c:Addr}{vs vs':List V}{ds ds':List Dt}{A:Around}(q:SqT X.K H a vs)(l:vs.length=ds.length)(g:∀(j:Nat)(v:V)(d:Dt),vs[j]?=some v->ds[j]?=some d->Bl X.K H n v d)(q':SqT X.K H c vs')(l':vs'.length=ds'.length)(g':∀(j:Nat)(v:V)(d:Dt),vs'[j]?=some v->ds'[j]?=some d->Bl X.K H n v d)(p:∀ d∈ds,Pu d)(p':∀ d∈ds',Pu d)(hu:A.units+(n+1) < cLine):∃ b:Bool,(b=true↔ds=ds')/\Qu A s (.ref a) (.ref c) b:=by
 obtain ⟨its,r,pl,_⟩:=I.tuple q
 obtain ⟨its',r',pl',_⟩:=I.tuple q'
 have hi:∀ j:Nat,∃ b:Bool,∀(h1:j < its.length)(h2:j < its'.length),(b=true↔ds[j]?=ds'[j]?)/\Oj A.in1 s its[j] its'[j] b:=fun j=>by
  by_cases h1:j < its.length
  ·by_cases h2:j < its'.length
   ·have k1:=r.length
    have k2:=r'.length
    have ev:vs[j]?=some (vs[j]'(by omega)):=Oi _
    have ev':vs'[j]?=some (vs'[j]'(by omega)):=Oi _
    have ed:ds[j]?=some (ds[j]'(by omega)):=Oi _
    have ed':ds'[j]?=some (ds'[j]'(by omega)):=Oi _
    obtain ⟨w,hw,rw1⟩:=r.get ev
    obtain ⟨w',hw',rw2⟩:=r'.get ev'
    rw [Oi h1] at hw
    rw [Oi h2] at hw'
    cases hw
    cases hw'
    obtain ⟨b,b1,b2⟩:=Za3 I (g j _ _ ev ed) (g' j _ _ ev' ed') (p _ (Rc _)) (p' _ (Rc _)) (A:=A.in1) rw1 rw2 (by show A.units+1+n < cLine;omega)
    refine ⟨b,fun _ _=>⟨?_,b2⟩⟩
    rw [b1,ed,ed']
    exact ⟨fun h=>by rw [h],fun h=>Ov h⟩
   ·exact ⟨false,fun _ h=>absurd h h2⟩
  ·exact ⟨false,fun h=>absurd h h1⟩
 have T:=Si (A:=A) (e:=fun j=>Ve (hi j)) (show s.heap.IsTuple a its.toArray from pl) (show s.heap.IsTuple c its'.toArray from pl') (by omega) (fun j h1 h2=>by
  have:=(Qn (hi j) (by simpa using h1) (by simpa using h2)).2
  simpa using this)
 refine ⟨_,?_,T⟩
 have k1:=r.length
 have k2:=r'.length
 simp only [On,Pa,O4,T6,beq_iff_eq]
 constructor
 ·rintro ⟨h1,h2⟩
  refine Va fun j=>?_
  by_cases hj:j < its.length
  ·exact ((Qn (hi j) hj (by omega)).1).mp (h1 j (by omega))
  ·rw [Q8 (by omega),Q8 (by omega)]
 ·intro h
  have hl:its.length=its'.length:=by
   have:=congrArg R7 h
   omega
  refine ⟨fun j hj=>((Qn (hi j) (by omega) (by omega)).1).mpr (by rw [h]),hl⟩
end
section
variable {X:Cx}
noncomputable def Lr (K:Og):R2:=fun x y H Q=>(Ec x y=true/\Q (.bl (decide (x=y))) H)\/∃(a c:Addr)(n:Nat)(d d':Dt),x=.ref a/\y=.ref c/\n<=190/\Bl K H n (.ref a) d/\Bl K H n (.ref c) d'/\Pu d/\Pu d'/\∀ b:Bool,(b=true↔d=d')->Q (.bl b) H
theorem Zny (hu:X.A.units+200 < cLine):OpR X (compareOp .Eq) (fun x y H Q=>∃(a c:Addr)(n:Nat)(d d':Dt),x=.ref a/\y=.ref c/\n<=190/\Bl X.K H n (.ref a) d/\Bl X.K H n (.ref c) d'/\Pu d/\Pu d'/\∀ b:Bool,(b=true↔d=d')->Q (.bl b) H):=by
 intro pins s σ H x y v u Q I rx ry h
 obtain ⟨a,c,n,d,d',rfl,rfl,hn,hx,hy,p,p',q⟩:=h
 cases rx
 cases ry
 cases hx with
 | flat fx=>cases fx
 | lst _ _ _=>cases p
 | tup q1 l1 g1 =>
  cases hy with
  | flat fy=>cases fy
  | lst _ _ _=>cases p'
  | tup q2 l2 g2 =>
   cases p with
   | tup p =>
   cases p' with
   | tup p' =>
   obtain ⟨b,b1,b2⟩:=Zka I (A:=X.A) q1 l1 g1 q2 l2 g2 p p' (by omega)
   exact b2 _ _ _ _ ⟨.bl b,H,I,rfl,q b (by rw [b1];exact ⟨fun h=>by rw [h],fun h=>by injection h⟩)⟩
theorem s_eqk {K:Og}{x y:V}{H:Hp}{Q:VK}(hs:Ec x y=true)(h:Q (.bl (decide (x=y))) H):Lr K x y H Q:=.inl ⟨hs,h⟩
theorem Zjv {K:Og}{a c:Addr}{H:Hp}{Q:VK}{n:Nat}{d d':Dt}(hn:n<=190)(hx:Bl K H n (.ref a) d)(hy:Bl K H n (.ref c) d')(p:Pu d)(p':Pu d')(h:∀ b:Bool,(b=true↔d=d')->Q (.bl b) H):Lr K (.ref a) (.ref c) H Q:=.inr ⟨a,c,n,d,d',rfl,rfl,hn,hx,hy,p,p',h⟩
theorem Za9 (K:Og)(hu:X.A.units+200 < cLine)(hK:X.K=K:=by rfl):OpR X (compareOp .Eq) (Lr K):=by subst hK;exact op_eq.or (Zny hu)
end
end L2
namespace PySem
open PyProof.Rows
section
variable {prog:Program}{w:World}{A:Around}{E:Value->Shared->Prop}{s:Shared}
theorem Zn4 (r:Addr)(a b c:Int)(t u v:Tok)(hc0:¬(!(O7 a && O7 b && O7 c && O7 (-c) && O7 (a - c) && O7 (P5 a b c)))=true) :
  Meets (Builtin.«range.__reversed__» ⟨[.ref r],[]⟩) (fun _ R s=>s.heap.get? r=some { cls:=.type "range",dict:=none,data:=.fields #[.int a t,.int b u,.int c v],slots:=#[] }/\R (.ok (.ret (Value.ref s.heap.objs.size))) { s with heap:=s.heap.push { cls:=Value.type (if (O7 a && O7 b && O7 c && O7 (-c) && O7 (a - c) && O7 (P5 a b c))=true then "range_iterator" else "longrange_iterator"),data:=Data.fields #[rawInt (a+(P5 a b c - 1) * c),rawInt (P5 a b c),rawInt (-c)] },toks:=s.toks }) :=
 .of_wp fun prog w A R s h=>by obtain ⟨hp,g,d,tk,os⟩:=s;obtain ⟨hl,h⟩:=h;wp_walk;exact ⟨_,rfl,h⟩
theorem Zdq (n:Nat):P5 0 (n:Nat) 1=(n:Nat):=by
 unfold P5
 rw [if_pos (by decide)]
 split <;> omega
theorem Zk9 (n:Nat)(hn:n<=1000000):(O7 0 && O7 (n:Nat) && O7 1 && O7 (-1) && O7 (0 - 1) && O7 (P5 0 (n:Nat) 1))=true:=by
 rw [Zdq]
 simp only [O7,Pa,decide_eq_true_eq]
 omega
theorem Zgb {r:Addr}{n:Nat}{Q:Value->Shared->Prop}{t u v:Tok}(hr:IsRange s.heap r 0 (n:Nat) 1 t u v)(hn:n<=1000000)
  (h:Q (.ref s.heap.objs.size) { s with heap:=s.heap.push { cls:=.type "range_iterator",data:=.fields #[rawInt ((n:Int) - 1),rawInt (n:Nat),rawInt (-1)] } }):wpAny (model prog w) A (call (.builtin "range.__reversed__") [.ref r]) Q E s:=by
 have f:=Zk9 n hn
 refine Qh Ur (show s.TypeIs (.ref r) "range" from ⟨_,hr,rfl⟩) F.entry_range_reversed (F.args_range_reversed_1 _) (Zn4 r 0 (n:Nat) 1 t u v (by rw [f];decide)) ⟨hr,?_⟩
 rw [f,if_pos rfl,Zdq,show (0:Int)+((n:Int) - 1) * 1=(n:Int) - 1 by omega]
 exact h
theorem Zkg:isSubtype (.type "range_iterator") (.type "reversed")=pure false:=by rw [isSubtype_type];kernel_rfl
theorem Znu {r:Addr}{n:Nat}{Q₁:Value->Shared->Prop}{t u v:Tok}(hr:IsRange s.heap r 0 (n:Nat) 1 t u v)(hn:n<=1000000)
  (h:Q₁ (.ref s.heap.objs.size) { s with heap:=s.heap.push { cls:=.type "range_iterator",data:=.fields #[rawInt ((n:Int) - 1),rawInt (n:Nat),rawInt (-1)] } }) :
  codeAny (model prog w) A (.call (.builtin "reversed.__new__") ⟨[.type "reversed",.ref r],[]⟩) (wants Q₁ E) s:=by
 refine codeAny_of_tree ?_
 show wpAny _ A.in1 (do checkBuiltinCall "reversed.__new__" ⟨[.type "reversed",.ref r],[]⟩;again (.builtin "reversed.__new__" ⟨[.type "reversed",.ref r],[]⟩)) _ _ s
 refine Oh (R8 (F.newCall_reversed_1 _) (Om ⟨R3 F.plain_reversed_new _,Sl F.entry_reversed_new ?_⟩))
 rw [Sc F.plain_reversed_new _]
 unfold Builtin.«reversed.__new__»
 refine Oh (R8 (newClass_reversed _) ?_)
 try dsimp only
 refine Oh (R8 (a:=()) (by first | rfl | kernel_rfl) ?_)
 refine Oh (R8 (a:=()) (by first | rfl | kernel_rfl) ?_)
 try dsimp only
 refine Oh (Sk (show s.TypeIs (.ref r) "range" from ⟨_,hr,rfl⟩) Ur.lookup ?_)
 try dsimp only
 refine Oh (R8 (Ur.bind _) ?_)
 try dsimp only
 first
 | rw [if_neg (show ¬ ((Value.builtin "range.__reversed__" == Value.none)=true) from Ot)]
 | (show wpAny _ _ (if (Value.builtin "range.__reversed__" == Value.none)=true then _ else _) _ _ _;rw [if_neg (show ¬ ((Value.builtin "range.__reversed__" == Value.none)=true) from Ot)])
 refine Oh (Su ?_)
 refine Oh (m:=runValue (.call (.builtin "range.__reversed__") ⟨[.ref r],[]⟩)) (show wpAny _ _ (call (.builtin "range.__reversed__") [.ref r]) _ _ _ from Zgb hr hn ?_)
 first
 | exact Om h
 | exact Oh (Om (Om h))
theorem Zf3 {r:Addr}{n:Nat}{Q:Value->Shared->Prop}{t u v:Tok}(hr:IsRange s.heap r 0 (n:Nat) 1 t u v)(hn:n<=1000000)
  (h:Q (.ref s.heap.objs.size) { s with heap:=s.heap.push { cls:=.type "range_iterator",data:=.fields #[rawInt ((n:Int) - 1),rawInt (n:Nat),rawInt (-1)] } }):wpAny (model prog w) A (call (.type "reversed") [.ref r]) Q E s:=by
 refine callType_other (U := "range_iterator") (Q₁:=fun obj s₁=>obj=.ref s.heap.objs.size/\s₁={ s with heap:=s.heap.push { cls:=.type "range_iterator",data:=.fields #[rawInt ((n:Int) - 1),rawInt (n:Nat),rawInt (-1)] } }) (by decide +kernel) F.create_reversed ⟨_,_,F.mro_reversed⟩ F.made_reversed Zkg (F.typeCall_reversed_1 _) (Znu hr hn ⟨rfl,rfl⟩) ?_
 rintro obj s₁ ⟨rfl,rfl⟩
 exact ⟨⟨_,O0 _ rfl,rfl⟩,h⟩
end
end PySem
namespace L2
open PySem PySem.Spec PyProof.Rows
section
variable {X:Cx}{tg:Expr}
noncomputable def Zd2 (ta:TA):TI:=fun σ H R=>ta σ H fun vs H1=>∃ n:Nat,vs=[.int (n:Nat)]/\n<=1000/\R (Fc ((n:Int) - 1) n) H1
theorem Zmv {e:Expr}{ta:TA}{p p2 pos pos2:Pos}(hg:Gl X "reversed")(hm:X.mg "reversed" = none)(hg2:Gl X "range")(hm2:X.mg "range" = none)(ha:QA X [e] ta)
  (hs:starEach [.Call (.Name "range" p2) [e] [] pos2] X.env=[(false,eval (.Call (.Name "range" p2) [e] [] pos2) X.env)]:=by rfl) (hs2:starEach [e] X.env=[(false,eval e X.env)]:=by rfl) :
  QI X tg (.Call (.Name "reversed" p) [.Call (.Name "range" p2) [e] [] pos2] [] pos) (Zd2 ta):=by
 refine ⟨fun pins s σ H R I h=>?_⟩
 refine Call_ (D4 I hg hm Zdv (Qx ?_ hs rfl))
 rw [hs]
 show wpAny _ _ (spliced ((false,eval (.Call (.Name "range" p2) [e] [] pos2) X.env)::[])) _ _ s
 refine Ux ?_
 refine Call_ (D4 I hg2 hm2 boot_range (Qx (Ag (ha.run pos2 pins s σ H _ I h) fun us s1 zq=>?_) hs2 rfl))
 obtain ⟨vs,H1,I1,r1,q1⟩:=zq
 obtain ⟨n,e1,hn,q⟩:=q1
 subst e1
 cases r1 with
 | cons r rr =>
  cases rr
  obtain ⟨t,rfl⟩:=r
  refine call_range_1 ?_
  refine U7 ?_
  have I2:Inv X pins σ H1 { s1 with heap:=s1.heap.push { cls:=.type "range",data:=.fields #[.int 0 s1.toks,.int (n:Nat) t,.int 1 (s1.toks+1)] },toks:=s1.toks+1+1 }:=I1.kept fun b o e=>Oq _ e
  refine Zf3 (n:=n) (IsRange.new ..) (by omega) ?_
  have st0:IsRangeIter ((s1.heap.push { cls:=.type "range",data:=.fields #[.int 0 s1.toks,.int (n:Nat) t,.int 1 (s1.toks+1)] }).push { cls:=.type "range_iterator",data:=.fields #[rawInt ((n:Int) - 1),rawInt (n:Nat),rawInt (-1)] }) (s1.heap.push { cls:=.type "range",data:=.fields #[.int 0 s1.toks,.int (n:Nat) t,.int 1 (s1.toks+1)] }).objs.size ((n:Int) - 1+((0:Nat):Int) * (-1)) ((n:Int) - ((0:Nat):Int)) (-1):=by
   have e1:(n:Int) - 1+((0:Nat):Int) * (-1)=(n:Int) - 1:=by simp
   have e2:(n:Int) - ((0:Nat):Int)=(n:Int):=by simp
   rw [e1,e2]
   exact O0 _ rfl
  refine Up st0 ?_
  refine ⟨(s1.heap.push { cls:=.type "range",data:=.fields #[.int 0 s1.toks,.int (n:Nat) t,.int 1 (s1.toks+1)] }).objs.size,[(s1.heap.push { cls:=.type "range",data:=.fields #[.int 0 s1.toks,.int (n:Nat) t,.int 1 (s1.toks+1)] }).objs.size],_,_,H1,rfl,I2.kept (t':=s1.toks+1+1) fun b o e=>Oq _ e,Zfi _ ((n:Int) - 1) n,st0,fun b hb=>?_,q⟩
  have e:b=(s1.heap.push { cls:=.type "range",data:=.fields #[.int 0 s1.toks,.int (n:Nat) t,.int 1 (s1.toks+1)] }).objs.size:=by simpa using hb
  subst e
  exact I2.fpOk (Ol _) (I2.hok.fresh (Ol _))
theorem Znc {ta:TA}{σ:St}{H:Hp}{R:It->Hp->Prop}(h:ta σ H fun vs H1=>∃ n:Nat,vs=[.int (n:Nat)]/\n<=1000/\R (Fc ((n:Int) - 1) n) H1):Zd2 ta σ H R:=h
end
section
variable {X:Cx}
noncomputable def Zms:List V->Hp->VK->Prop:=fun xs H Q=>∃ i j,xs=[.int i,.int j]/\(0:Int) < j/\j<=10 ^ 18/\∀ p,H p=none->Q (.ref p) (upd H p (.tup [.int (i / j),.int (i % j)]))
theorem Znk:Bz X (.builtin "divmod") Zms:=by
 intro pins s σ H xs us Q I r h
 obtain ⟨i,j,rfl,h1,h2,q⟩:=h
 obtain ⟨u,w',rfl,⟨t,rfl⟩,⟨t',rfl⟩⟩:=Zfx r
 have hl:j.natAbs.log2 < 9000:=by
  have h0:j.natAbs≠0:=by omega
  have hz:j.natAbs < 2 ^ 60:=by
   have:(10:Int) ^ 18 < 2 ^ 60:=by decide
   omega
  have:=(Nat.log2_lt h0).mpr hz
  omega
 refine divmod_int (by omega) ?_ (.inl (PyProof.noPylong_of_log2 hl))
 rw [Int.fdiv_eq_ediv_of_nonneg i (by omega),Int.fmod_eq_emod_of_nonneg i (by omega)]
 have hn:H s.heap.objs.size=none:=I.hok.fresh (Ol _)
 refine ⟨.ref s.heap.objs.size,_,?_,rfl,q _ hn⟩
 refine I.laid (fun b o e=>Oq _ e) (Ol _) ⟨by simp only [Ox,T4];rw [Sr];decide,[.int (i / j) s.toks,.int (i % j) (s.toks+1)],.cons ⟨_,rfl⟩ (.cons ⟨_,rfl⟩ .nil),?_⟩
 exact ⟨_,O0 s.heap rfl,rfl,0,rfl⟩
end
inductive Fg:Nat->Tr->Prop where
 | mk {n:Nat} {w:Str} {d:Dt} {ts:List Tr} (h:∀ t∈ts,Fg n t):Fg (n+1) (.mk w d ts)
noncomputable def Jt (w w':Str)(n n':Dt):Prop:=(∃ x y,n=.flat x/\n'=.flat y/\(w=w'->Ec x y=true))\/(Pu n/\Pu n'/\w=w')\/(w≠w'/\((∃ x,n=.flat x)\/∃ y,n'=.flat y))
inductive Ez:Tr->Tr->Prop where
 | mk {w w':Str} {n n':Dt} {ts ts':List Tr} (h:Jt w w' n n') (hs:∀ a∈ts,∀ b∈ts',Ez a b):Ez (.mk w n ts) (.mk w' n' ts')
section
variable {X:Cx}{pins:List (Addr×Obj)}{σ:St}{H:Hp}{s:Shared}
theorem Zcz {x y:V}(fx:Ca x=true)(fy:Ca y=true){A:Around}{u v:Value}(rx:RelV x u)(ry:RelV y v):∃ b,Oj A s u v b/\(Ec x y=true->(b=true↔x=y)):=by
 cases x with
 | non =>
  cases (show u=Value.none from rx)
  cases y with
  | non=>cases (show v=Value.none from ry);exact ⟨_,Rf _,fun _=>by simp⟩
  | bl b=>cases (show v=Value.bool b from ry);exact ⟨_,Oj.none_bool _,fun _=>by simp⟩
  | int i=>obtain ⟨t,rfl⟩:=(show ∃ t,v=Value.int i t from ry);exact ⟨_,Oj.none_int _ _,fun _=>by simp⟩
  | str z=>obtain ⟨t,rfl⟩:=(show ∃ t,v=Value.str z t from ry);exact ⟨_,Oj.none_str _ _,fun _=>by simp⟩
  | _=>cases fy
 | bl c =>
  cases (show u=Value.bool c from rx)
  cases y with
  | non=>cases (show v=Value.none from ry);exact ⟨_,Oj.bool_none _,fun _=>by simp⟩
  | bl b=>cases (show v=Value.bool b from ry);exact ⟨_,Oj.bool_bool _ _,fun _=>by simp⟩
  | int i=>obtain ⟨t,rfl⟩:=(show ∃ t,v=Value.int i t from ry);exact ⟨_,Oj.bool_int _ _ _,fun h=>by cases h⟩
  | str z=>obtain ⟨t,rfl⟩:=(show ∃ t,v=Value.str z t from ry);exact ⟨_,Oj.bool_str _ _ _,fun _=>by simp⟩
  | _=>cases fy
 | int c =>
  obtain ⟨t',rfl⟩:=(show ∃ t,u=Value.int c t from rx)
  cases y with
  | non=>cases (show v=Value.none from ry);exact ⟨_,Oj.int_none _ _,fun _=>by simp⟩
  | bl b=>cases (show v=Value.bool b from ry);exact ⟨_,Oj.int_bool _ _ _,fun h=>by cases h⟩
  | int i=>obtain ⟨t,rfl⟩:=(show ∃ t,v=Value.int i t from ry);exact ⟨_,Uy _ _ _ _,fun _=>by simp⟩
  | str z=>obtain ⟨t,rfl⟩:=(show ∃ t,v=Value.str z t from ry);exact ⟨_,Tl _ _ _ _,fun _=>by simp⟩
  | _=>cases fy
 | str c =>
  obtain ⟨t',rfl⟩:=(show ∃ t,u=Value.str c t from rx)
  cases y with
  | non=>cases (show v=Value.none from ry);exact ⟨_,Oj.str_none _ _,fun _=>by simp⟩
  | bl b=>cases (show v=Value.bool b from ry);exact ⟨_,Oj.str_bool _ _ _,fun _=>by simp⟩
  | int i=>obtain ⟨t,rfl⟩:=(show ∃ t,v=Value.int i t from ry);exact ⟨_,To _ _ _ _,fun _=>by simp⟩
  | str z=>obtain ⟨t,rfl⟩:=(show ∃ t,v=Value.str z t from ry);exact ⟨_,Tp _ _ _ _,fun _=>by simp⟩
  | _=>cases fy
 | _=>cases fx
theorem Zdk {x:V}(fx:Ca x=true){A:Around}{u:Value}(rx:RelV x u){a:Addr}{its:Array Value}(p:s.heap.IsTuple a its)(hu:A.units < cLine):(∃ b,Oj A s u (.ref a) b)/\∃ b,Oj A s (.ref a) u b:=by
 cases x with
 | non=>cases (show u=Value.none from rx);exact ⟨⟨_,Oj.none_tuple p hu⟩,⟨_,Oj.tuple_none p hu⟩⟩
 | bl b=>cases (show u=Value.bool b from rx);exact ⟨⟨_,Oj.bool_tuple _ p hu⟩,⟨_,Oj.tuple_bool _ p hu⟩⟩
 | int i=>obtain ⟨t,rfl⟩:=(show ∃ t,u=Value.int i t from rx);exact ⟨⟨_,Oj.int_tuple _ _ p hu⟩,⟨_,Oj.tuple_int _ _ p hu⟩⟩
 | str z=>obtain ⟨t,rfl⟩:=(show ∃ t,u=Value.str z t from rx);exact ⟨⟨_,Oj.str_tuple _ _ p hu⟩,⟨_,Oj.tuple_str _ _ p hu⟩⟩
 | _=>cases fx
theorem Zmu (I:Inv X pins σ H s){w w':Str}{x y:V}{n n':Dt}(hx:IsN X.K H x n)(hy:IsN X.K H y n')(c:Jt w w' n n'){A:Around}{u v:Value}(rx:RelV x u)(ry:RelV y v)(hu:A.units+1 < cLine):∃ b,Oj A s u v b/\(w=w'->(b=true↔n=n')):=by
 rcases c with ⟨x',y',rfl,rfl,hs⟩ | ⟨p,p',_⟩ | ⟨hw,h⟩
 ·rcases hx with ⟨fx,e⟩ | ⟨_,_,_,_,_,e⟩
  rotate_left
  ·cases e
  rcases hy with ⟨fy,e'⟩ | ⟨_,_,_,_,_,e'⟩
  rotate_left
  ·cases e'
  injection e with e
  injection e' with e'
  subst e e'
  obtain ⟨b,h1,h2⟩:=Zcz (s:=s) fx fy (A:=A) rx ry
  exact ⟨b,h1,fun w=>(h2 (hs w)).trans ⟨fun e=>by rw [e],fun e=>by injection e⟩⟩
 ·obtain ⟨b,h1,h2⟩:=Za3 I hx.d hy.d p p' (A:=A) rx ry hu
  exact ⟨b,h2,fun _=>h1⟩
 ·have u0:A.units < cLine:=by omega
  rcases hx with ⟨fx,e⟩ | ⟨a,vs,e1,q1,_,e⟩
  ·rcases hy with ⟨fy,e'⟩ | ⟨a',vs',e1',q1',_,e'⟩
   ·obtain ⟨b,h1,_⟩:=Zcz (s:=s) fx fy (A:=A) rx ry
    exact ⟨b,h1,fun z=>absurd z hw⟩
   ·subst e1'
    cases (show v=Value.ref a' from ry)
    obtain ⟨its,_,p,_⟩:=I.tuple q1'
    obtain ⟨⟨b,h1⟩,_⟩:=Zdk (s:=s) fx rx (show s.heap.IsTuple a' its.toArray from p) u0
    exact ⟨b,h1,fun z=>absurd z hw⟩
  ·rcases hy with ⟨fy,e'⟩ | ⟨a',vs',e1',q1',_,e'⟩
   ·subst e1
    cases (show u=Value.ref a from rx)
    obtain ⟨its,_,p,_⟩:=I.tuple q1
    obtain ⟨_,⟨b,h1⟩⟩:=Zdk (s:=s) fy ry (show s.heap.IsTuple a its.toArray from p) u0
    exact ⟨b,h1,fun z=>absurd z hw⟩
   ·subst e e'
    rcases h with ⟨_,h⟩ | ⟨_,h⟩ <;> cases h
theorem Zf9 (I:Inv X pins σ H s){x:V}{n n':Dt}(h:IsN X.K H x n)(h':IsN X.K H x n'):n=n':=by
 rcases h with ⟨f,rfl⟩ | ⟨a,vs,rfl,q,_,rfl⟩
 ·rcases h' with ⟨_,rfl⟩ | ⟨a',_,rfl,_,_,_⟩
  ·rfl
  ·cases f
 ·rcases h' with ⟨f,_⟩ | ⟨a',vs',e,q',_,rfl⟩
  ·cases f
  ·cases e
   rw [Jl I q q']
theorem Zcw (I:Inv X pins σ H s){x:V}{t:Tr}(h:TrAt X.K H x t):∀{t':Tr},TrAt X.K H x t'->t=t':=by
 induction h with
 | @mk a p wd nv n vs ts q hn qp l hc ih =>
  intro t' h'
  cases h' with
  | @mk _ p' wd' nv' n' vs' ts' q' hn' qp' l' hc' =>
   have e:=Jl I q q'
   injection e with e1 e2
   injection e1 with e1
   injection e2 with e2 e3
   injection e3 with e3
   injection e3 with e3
   subst e1 e2 e3
   have e4:=Jl I qp qp'
   subst e4
   rw [Zf9 I hn hn']
   congr 1
   refine Vd (by omega) fun j h1 h2=>?_
   exact ih j _ _ (Oi (by omega)) (Oi h1) (hc' j _ _ (Oi (by omega)) (Oi h2))
theorem Zkt (I:Inv X pins σ H s){p p':Addr}{vs vs':List V}{α:Type}{ts ts':List α}{A:Around}(q:SqT X.K H p vs)(q':SqT X.K H p' vs')(l:vs.length=ts.length)(l':vs'.length=ts'.length)(hu:A.units < cLine)
  (hi:∀(j:Nat)(x y:V)(a b:α),vs[j]?=some x->vs'[j]?=some y->ts[j]?=some a->ts'[j]?=some b->∀{u v:Value},RelV x u->RelV y v->∃ c:Bool,(c=true↔a=b)/\Oj A.in1 s u v c):∃ c:Bool,(c=true↔ts=ts')/\Qu A s (.ref p) (.ref p') c:=by
 obtain ⟨its,r,pl,_⟩:=I.tuple q
 obtain ⟨its',r',pl',_⟩:=I.tuple q'
 have k1:=r.length
 have k2:=r'.length
 have hi:∀ j:Nat,∃ b:Bool,∀(h1:j < its.length)(h2:j < its'.length),(b=true↔ts[j]?=ts'[j]?)/\Oj A.in1 s its[j] its'[j] b:=fun j=>by
  by_cases h1:j < its.length
  ·by_cases h2:j < its'.length
   ·have ev:vs[j]?=some (vs[j]'(by omega)):=Oi _
    have ev':vs'[j]?=some (vs'[j]'(by omega)):=Oi _
    have ed:ts[j]?=some (ts[j]'(by omega)):=Oi _
    have ed':ts'[j]?=some (ts'[j]'(by omega)):=Oi _
    obtain ⟨w,hw,rw1⟩:=r.get ev
    obtain ⟨w',hw',rw2⟩:=r'.get ev'
    rw [Oi h1] at hw
    rw [Oi h2] at hw'
    cases hw
    cases hw'
    obtain ⟨b,b1,b2⟩:=hi j _ _ _ _ ev ev' ed ed' rw1 rw2
    refine ⟨b,fun _ _=>⟨?_,b2⟩⟩
    rw [b1,ed,ed']
    exact ⟨fun h=>by rw [h],fun h=>Ov h⟩
   ·exact ⟨false,fun _ h=>absurd h h2⟩
  ·exact ⟨false,fun h=>absurd h h1⟩
 have T:=Si (A:=A) (e:=fun j=>Ve (hi j)) (show s.heap.IsTuple p its.toArray from pl) (show s.heap.IsTuple p' its'.toArray from pl') hu (fun j h1 h2=>by
  have:=(Qn (hi j) (by simpa using h1) (by simpa using h2)).2
  simpa using this)
 refine ⟨_,?_,T⟩
 simp only [On,Pa,O4,T6,beq_iff_eq]
 constructor
 ·rintro ⟨h1,h2⟩
  refine Va fun j=>?_
  by_cases hj:j < its.length
  ·exact ((Qn (hi j) hj (by omega)).1).mp (h1 j (by omega))
  ·rw [Q8 (by omega),Q8 (by omega)]
 ·intro h
  have hl:its.length=its'.length:=by
   have:=congrArg R7 h
   omega
  refine ⟨fun j hj=>((Qn (hi j) (by omega) (by omega)).1).mpr (by rw [h]),hl⟩
theorem Zmp (I:Inv X pins σ H s):∀{n:Nat}{a c:Addr}{t t':Tr},Fg n t->TrAt X.K H (.ref a) t->TrAt X.K H (.ref c) t'->Ez t t'->∀{A:Around},A.units+2 * n < cLine->∃ b:Bool,(b=true↔t=t')/\Qu A s (.ref a) (.ref c) b:=by
 intro n
 induction n with
 | zero=>intro a c t t' d;cases d
 | succ n ih =>
  intro a c t t' d h h' cm A hu
  cases h with
  | @mk _ p wd nv nt vs ts q hn qp l hc =>
  cases d with
  | mk hd =>
  cases h' with
  | @mk _ p' wd' nv' nt' vs' ts' q' hn' qp' l' hc' =>
  cases cm with
  | mk c1 c2 =>
  have parts:∀{u v:Value},RelV (.ref p) u->RelV (.ref p') v->∃ b:Bool,(b=true↔ts=ts')/\Oj A.in1 s u v b:=fun {u v} ru rv=>by
   cases (show u=Value.ref p from ru)
   cases (show v=Value.ref p' from rv)
   by_cases z:p=p'
   ·subst z
    refine ⟨true,⟨fun _=>?_,fun _=>rfl⟩,Rf _⟩
    have e:=Jl I qp qp'
    subst e
    refine Vd (by omega) fun j h1 h2=>?_
    exact Zcw I (hc j _ _ (Oi (by omega)) (Oi h1)) (hc' j _ _ (Oi (by omega)) (Oi h2))
   ·obtain ⟨b,b1,b2⟩:=Zkt I (A:=A.in1) qp qp' l l' (by show A.units+1 < cLine;omega) (fun j x y f g ex ey ef eg u v rx ry=>by
     have hf:=hc j x f ex ef
     have hg:=hc' j y g ey eg
     have mf:=Oz ef
     obtain ⟨xa,rfl⟩:∃ xa,x=.ref xa:=by cases hf;exact ⟨_,rfl⟩
     obtain ⟨ya,rfl⟩:∃ ya,y=.ref ya:=by cases hg;exact ⟨_,rfl⟩
     cases (show u=Value.ref xa from rx)
     cases (show v=Value.ref ya from ry)
     by_cases z:xa=ya
     ·subst z
      exact ⟨true,⟨fun _=>Zcw I hf hg,fun _=>rfl⟩,Rf _⟩
     ·obtain ⟨b,b1,b2⟩:=ih (hd f mf) hf hg (c2 f mf g (Oz eg)) (A:=A.in1.in1) (by show A.units+1+1+2 * n < cLine;omega)
      exact ⟨b,b1,Sg z b2⟩)
    exact ⟨b,b1,Sg z b2⟩
  obtain ⟨its,r1,p1,_⟩:=I.tuple q
  obtain ⟨its2,r2,p2,_⟩:=I.tuple q'
  have l1:its.length=3:=r1.length.symm
  have l2:its2.length=3:=r2.length.symm
  obtain ⟨u0,g0,k0⟩:=r1.get (i:=0) (x:=.str wd) rfl
  obtain ⟨u1,g1,k1⟩:=r1.get (i:=1) (x:=nv) rfl
  obtain ⟨u2,g2,k2⟩:=r1.get (i:=2) (x:=.ref p) rfl
  obtain ⟨y0,m0,j0⟩:=r2.get (i:=0) (x:=.str wd') rfl
  obtain ⟨y1,m1,j1⟩:=r2.get (i:=1) (x:=nv') rfl
  obtain ⟨y2,m2,j2⟩:=r2.get (i:=2) (x:=.ref p') rfl
  obtain ⟨t0,rfl⟩:=(show ∃ t,u0=Value.str wd t from k0)
  obtain ⟨t1,rfl⟩:=(show ∃ t,y0=Value.str wd' t from j0)
  obtain ⟨b1,E1,B1⟩:=Zmu I hn hn' c1 k1 j1 (A:=A.in1) (by show A.units+1+1 < cLine;omega)
  obtain ⟨b2,B2,E2⟩:=parts k2 j2
  refine ⟨_,?_,Si (e:=fun j=>if j=0 then wd == wd' else if j=1 then b1 else b2) (show s.heap.IsTuple a its.toArray from p1) (show s.heap.IsTuple c its2.toArray from p2) (by omega) (fun j h1 h2=>?_)⟩
  ·rw [On,On,l1,l2,show O2 (min 3 3)=[0,1,2] from rfl]
   by_cases hw:wd=wd'
   ·subst hw
    have:=B1 rfl
    simp [this,B2]
   ·simp [hw]
  ·simp only [On] at h1 h2
   have f1:its[j]?=some its[j]:=Oi h1
   have f2:its2[j]?=some its2[j]:=Oi h2
   simp only [List.getElem_toArray]
   match j,h1,h2,f1,f2 with
   | 0,h1,h2,f1,f2 =>
    rw [f1] at g0;rw [f2] at m0
    rw [Ov g0,Ov m0]
    exact Tp _ _ _ _
   | 1,h1,h2,f1,f2 =>
    rw [f1] at g1;rw [f2] at m1
    rw [Ov g1,Ov m1]
    exact E1
   | 2,h1,h2,f1,f2 =>
    rw [f1] at g2;rw [f2] at m2
    rw [Ov g2,Ov m2]
    exact E2
   | j+3,h1,_,_,_=>omega
end
section
variable {X:Cx}
noncomputable def Ng (K:Og):R2:=fun x y H Q=>(Ec x y=true/\Q (.bl (decide (x=y))) H)\/∃(n:Nat)(t t':Tr),n<=90/\Fg n t/\TrAt K H x t/\TrAt K H y t'/\Ez t t'/\∀ b:Bool,(b=true↔t=t')->Q (.bl b) H
theorem Zma (hu:X.A.units+200 < cLine):OpR X (compareOp .Eq) (fun x y H Q=>∃(n:Nat)(t t':Tr),n<=90/\Fg n t/\TrAt X.K H x t/\TrAt X.K H y t'/\Ez t t'/\∀ b:Bool,(b=true↔t=t')->Q (.bl b) H):=by
 intro pins s σ H x y v u Q I rx ry h
 obtain ⟨n,t,t',hn,d,hx,hy,c,q⟩:=h
 obtain ⟨xa,rfl⟩:∃ xa,x=.ref xa:=by cases hx;exact ⟨_,rfl⟩
 obtain ⟨ya,rfl⟩:∃ ya,y=.ref ya:=by cases hy;exact ⟨_,rfl⟩
 cases rx
 cases ry
 obtain ⟨b,b1,b2⟩:=Zmp I (A:=X.A) d hx hy c (by omega)
 exact b2 _ _ _ _ ⟨.bl b,H,I,rfl,q b b1⟩
theorem Zdc (K:Og)(hu:X.A.units+200 < cLine)(hK:X.K=K:=by rfl):OpR X (compareOp .Eq) (Ng K):=by subst hK;exact op_eq.or (Zma hu)
theorem Zjp {K:Og}{x y:V}{H:Hp}{Q:VK}(hs:Ec x y=true)(h:Q (.bl (decide (x=y))) H):Ng K x y H Q:=.inl ⟨hs,h⟩
theorem Zop {K:Og}{x y:V}{H:Hp}{Q:VK}{n:Nat}{t t':Tr}(hn:n<=90)(d:Fg n t)(hx:TrAt K H x t)(hy:TrAt K H y t')(c:Ez t t')(h:∀ b:Bool,(b=true↔t=t')->Q (.bl b) H):Ng K x y H Q:=.inr ⟨n,t,t',hn,d,hx,hy,c,h⟩
end
end L2
namespace K10
open PySem L2
noncomputable def LET:Str := "abcdefghijklmnopqrstuvwxyz_"
noncomputable def DIG:Str := "0123456789"
noncomputable def W9:List Str:=["let", "in", "if", "then", "else", "fn", "rec", "yes", "no"]
noncomputable def W10:List Str:=["let", "if", "fn", "rec", "yes", "no", "?", "+", "-", "<"]
noncomputable def S4:List Str:=["?", "+", "-", "<"]
noncomputable def W3:List Str:=["in", "then", "else"]
noncomputable def BR:Str := "()"
noncomputable def Bu (t:Str)(ws:List Str):Bool:=ws.any fun a=>a == t
noncomputable def Bg (t s:Str):Bool:=t.cps.toList.all fun c=>decide (c∈s.cps.toList)
noncomputable def F5 (t:Str):Bool:=t.cps.toList.head? == some 48
noncomputable def C8 (c:Nat):Bool:=decide (33<=c) && decide (c<=126) && !decide (c∈BR.cps.toList)
noncomputable def Bd (t:Str):Bool:=decide (1<=t.length) && decide (t.length<=8) && Bg t LET && !Bu t W9
noncomputable def Ey (t:Str):Bool:=decide (1<=t.length) && decide (t.length<=18) && Bg t DIG && (t == ("0" : Str) || !F5 t)
noncomputable def Fv (t:Str):Bool:=decide (1<=t.length) && decide (t.length<=60) && t.cps.toList.all C8 && !Bd t && !Bu t W10 && !Ey t
theorem Lg {t:Str}{ws:List Str}(h:Bu t ws=true):t∈ws:=by
 obtain ⟨a,ha,e⟩:=List.any_eq_true.mp h
 have e:a=t:=by simpa using e
 rw [<- e];exact ha
theorem Ik {t:Str}{ws:List Str}(h:¬ t∈ws):Bu t ws=false:=by
 cases e:Bu t ws
 ·rfl
 ·exact absurd (Lg e) h
theorem Zdl {t:Str}{ws:List Str}(h:t∈ws):Bu t ws=true:=List.any_eq_true.mpr ⟨t,h,by simp⟩
end K10
namespace K19
open PySem L2
noncomputable def Bc:Tr->List Nat->Tr->Tr
 | _,[],f=>f
 | .mk w n ps,k::r,f=>match ps[k]? with
  | some u=>.mk w n (ps.set k (Bc u r f))
  | none=>.mk w n ps
theorem Ed {w:Str}{n:Dt}{ts:List Tr}{j:Nat}{t f:Tr}{r:List Nat}(h:ts[j]?=some t):Bc (.mk w n ts) (j::r) f=.mk w n (ts.set j (Bc t r f)):=by rw [Bc,h]
theorem Dm (t f:Tr):Bc t [] f=f:=by cases t;rfl
theorem Zfy {ts:List Tr}{j:Nat}{t u:Tr}(h:ts[j]?=some t):(ts.set j u)[j]?=some u:=by
 rw [Rm (O6.mp h).1]
end K19
local macro_rules | `(tactic| walk_at "sc")=>`(tactic| exact ⟨rfl,rfl,rfl,by decide +kernel,rfl,by decide +kernel,by decide +kernel⟩)
namespace L2
open PySem PySem.Spec PyProof.Rows
theorem C1:0<=sizeLine:=by decide
theorem Dy:1<=sizeLine:=by decide
theorem sz12:12<=sizeLine:=by decide
theorem B4:2<=sizeLine:=by decide
theorem Cd:3<=sizeLine:=by decide
theorem sz4:4<=sizeLine:=by decide
theorem sz5:5<=sizeLine:=by decide
theorem sz9:9<=sizeLine:=by decide
theorem Room.m {j k:Nat}{A:Around}(r:Room k A)(h:j<=k:=by decide):Room j A:=r.mono h
section
variable {X:Cx}{a b:Expr}{ta tb:TE}{pos:Pos}{K:Og}
theorem Aw (i:Nat){ps:List Str}{sc:Scope}{x:Str}{e:Expr}{te:TE}{pos':Pos}(S:A1 X.N ps sc)(he:QE X e te)(hi:X.N[i]?=some x:=by rfl)(hx:Ew X.env.scope x:=by exact Or.inl rfl)(hs:swapsWith e (some (.Name x pos')) pos.line X.env=pure false:=by rfl)(hf:X.fn x=true\/X.env.scope.names.lookup x=some .local:=by first | exact .inl rfl | exact .inr rfl | assumption):QS X (.Assign [.Name x pos'] e pos) (Em te (D9 i)):=L5 S.nd hi hx he hs hf
theorem Ak (K:Og)(ha:QE X a ta)(hb:QE X b tb)(hs:Lw b:=by exact fun _ _=>rfl)(hK:X.K=K:=by rfl):QE X (.Subscript a b pos) (Bp (Ep K) ta tb):=Kd (N4 K hK) ha hb hs
end
end L2
namespace K28
theorem lz1 {α:Type}{vs:List α}(h:vs.length=1):∃ u,vs=[u]:=by
 cases vs with
 | nil=>cases h
 | cons u r=>cases Qw (Nat.succ.inj h);exact ⟨u,rfl⟩
theorem lz2 {α:Type}{vs:List α}(h:vs.length=2):∃ u v,vs=[u,v]:=by
 cases vs with
 | nil=>cases h
 | cons u r=>obtain ⟨v,rfl⟩:=lz1 (Nat.succ.inj h);exact ⟨u,v,rfl⟩
end K28
namespace K28
open PySem L2
noncomputable def top (i:Nat):Stmt:=Rj.main.body.getD i (.Pass ⟨0,0,0,0⟩)
noncomputable abbrev Hr:Stmt:=top 11
noncomputable abbrev Il:Stmt:=top 12
noncomputable abbrev Iu:Stmt:=top 13
noncomputable abbrev Hk:Stmt:=top 14
noncomputable abbrev Jm:Stmt:=top 15
noncomputable abbrev Ji:Stmt:=top 16
noncomputable abbrev Hh:Stmt:=top 17
noncomputable abbrev Hb:Stmt:=top 18
noncomputable abbrev Jn:Stmt:=top 19
noncomputable abbrev Jh:Stmt:=top 20
noncomputable abbrev Hc:Stmt:=top 22
noncomputable abbrev Df (i j:Nat):Stmt:=match top i with | .ClassDef _ _ _ b _ _ _ _ _ _ _=>b.getD j (.Pass ⟨0,0,0,0⟩) | s=>s
noncomputable abbrev C6:Stmt:=Df 25 0
noncomputable abbrev Jr:Stmt:=top 28
noncomputable abbrev Hx:Stmt:=top 29
noncomputable abbrev Ja:Stmt:=top 30
noncomputable abbrev Hu:Stmt:=top 31
noncomputable abbrev Im:Stmt:=top 32
noncomputable abbrev Hl:Stmt:=top 33
noncomputable abbrev Jq:Stmt:=top 35
noncomputable abbrev Hj:Stmt:=top 36
noncomputable abbrev Ia:Stmt:=top 37
noncomputable abbrev Ha:Stmt:=top 38
noncomputable abbrev Hd:Stmt:=top 39
noncomputable abbrev Hv:Stmt:=top 40
noncomputable abbrev Ib:Stmt:=top 41
noncomputable abbrev Hi:Stmt:=top 42
noncomputable abbrev Jg:Stmt:=top 43
noncomputable abbrev Iz:Stmt:=top 44
noncomputable abbrev Ii:Stmt:=top 45
noncomputable abbrev He:Stmt:=top 47
noncomputable abbrev Jf:Stmt:=top 48
noncomputable abbrev Ic:Stmt:=top 49
noncomputable abbrev Hw:Stmt:=top 50
noncomputable abbrev Hq:Stmt:=top 51
noncomputable abbrev Hn:Stmt:=top 52
noncomputable abbrev Hg:Stmt:=top 53
noncomputable abbrev Hm:Stmt:=top 54
structure Txt (K:Og)(mg:Str->Option Value):Prop where
 isinstance:mg "isinstance" = none
 int:mg "int" = none
 bool:mg "bool" = none
 str:mg "str" = none
 len:mg "len" = none
 all:mg "all" = none
 tuple:mg "tuple" = none
 reversed:mg "reversed" = none
 list:mg "list" = none
 enumerate:mg "enumerate" = none
 range:mg "range" = none
 divmod:mg "divmod" = none
 min:mg "min" = none
structure Script (K:Og)(H:Hp)(a:Addr):Prop where
 ex:∃ ns:List Int,SqL K H a (ns.map V.int)/\ns.length<=63
theorem Script.same {K:Og}{H H':Hp}{a:Addr}(S:Script K H a)(h:Same H H'):Script K H' a:=by
 obtain ⟨ns,q,l⟩:=S.ex
 exact ⟨ns,h.seq q,l⟩
end K28
namespace K28
open PySem L2 K10 K19
inductive TyN (K:Og)(H:Hp):V->String->Prop where
 | non:TyN K H .non "NoneType"
 | bl (x:Bool):TyN K H (.bl x) "bool"
 | int (i:Int):TyN K H (.int i) "int"
 | str (x:Str) (h:x.length<=1000):TyN K H (.str x) "str"
 | tup {a:Addr} {xs:List V} (q:SqT K H a xs):TyN K H (.ref a) "tuple"
 | lst {a:Addr} {xs:List V} (q:SqL K H a xs):TyN K H (.ref a) "list"
 | dK {a:Addr} {kvs:List (Ap×V)} (e:H a=some (.dK kvs)):TyN K H (.ref a) "dict"
noncomputable def Cy (t T:String):Bool:=t == T || (t == "bool" && T == "int")
theorem TyN.q {K:Og}{H:Hp}{v:V}{t:String}(h:TyN K H v t):TyQ K H v (.type t):=by
 cases h with
 | non=>exact .ty .non
 | bl x=>exact .ty (.bl x)
 | int x=>exact .ty (.int x)
 | str x=>exact .ty (.str x)
 | tup q=>exact .tup q
 | lst q=>exact .lst q
 | dK e=>exact .ty (.dK e)
theorem Zg6 {K:Og}{t T:String}(ht:t∈["NoneType", "bool", "int", "str", "tuple", "list", "dict"])(hT:T∈["str", "int", "bool", "tuple"]):Q4 K (.type t) (.type T)=some (Cy t T):=by
 have one:∀(t T:String),t≠T->(Vk T && (match fastBuiltinMro t with | some l=>l.contains (.type T) == Cy t T | none=>false))=true->Q4 K (.type t) (.type T)=some (Cy t T):=by
  intro t T hne h
  rw [Pa] at h
  obtain ⟨h1,h2⟩:=h
  split at h2
  ·rename_i l hl
   exact Zin h1 hne hl (by simpa using h2)
  ·cases h2
 simp only [Ow,P8,or_false] at ht hT
 rcases hT with rfl | rfl | rfl | rfl <;> rcases ht with rfl | rfl | rfl | rfl | rfl | rfl | rfl <;> first | (exact Zqe) | (exact one _ _ (by decide) (by decide +kernel))
theorem TyN.mem {K:Og}{H:Hp}{v:V}{t:String}(h:TyN K H v t):t∈["NoneType", "bool", "int", "str", "tuple", "list", "dict"]:=by
 cases h <;> simp
theorem Fz {K:Og}{H:Hp}{Q:VK}{v:V}{t T:String}(h:TyN K H v t)(hT:T∈["str", "int", "bool", "tuple"])(q:Q (.bl (Cy t T)) H):K0 K T [v,.ty T] H Q :=
 ⟨v,.type t,_,rfl,h.q,Zg6 h.mem hT,q⟩
theorem TyN.same {K:Og}{H H':Hp}{v:V}{t:String}(h:TyN K H v t)(e:Same H H'):TyN K H' v t:=by
 cases h with
 | non=>exact .non
 | bl x=>exact .bl x
 | int x=>exact .int x
 | str x h=>exact .str x h
 | tup q=>exact .tup (e.t.tup q)
 | lst q=>exact .lst (e.seq q)
 | dK h=>exact .dK (e _ _ h)
noncomputable def Has (K:Og)(H:Hp)(v:V):Prop:=∃ t,TyN K H v t
theorem Has.same {K:Og}{H H':Hp}{v:V}(h:Has K H v)(e:Same H H'):Has K H' v:=by
 obtain ⟨t,h⟩:=h
 exact ⟨t,h.same e⟩
noncomputable def Hf:List (Str×V):=[("gap",.int 0),("odd",.int 0),("num",.int 0),("truth",.int 0),("name",.int 0),("plus",.int 2),("minus",.int 2),("less",.int 2),("call",.int 2),("if",.int 3),("fn",.int 1),("rec",.int 1),("let",.int 2)]
noncomputable def PN:List (Str×Nat):=[("gap",0),("odd",0),("num",0),("truth",0),("name",0),("plus",2),("minus",2),("less",2),("call",2),("if",3),("fn",1),("rec",1),("let",2)]
noncomputable def B6 (wd:Str):Option Nat:=PN.lookup wd
theorem Zel (wd:Str):Fh Hf wd=(B6 wd).map (fun n:Nat=>V.int (n:Int)):=by
 have gen:∀ ps:List (Str×Nat),Fh (ps.map fun p=>(p.1,V.int (p.2:Int))) wd=(ps.lookup wd).map (fun n:Nat=>V.int (n:Int)):=by
  intro ps
  induction ps with
  | nil=>rfl
  | cons p r ih =>
   unfold Fh at ih ⊢
   rw [O9,Qr,P7]
   by_cases z:p.1=wd
   ·have e2:(wd == p.1)=true:=by rw [z];simp
    simp only [z,decide_true,Ry]
    simp
   ·have e2:(wd == p.1)=false:=by simpa using fun h=>z h.symm
    simp only [z,decide_false,e2]
    exact ih
 exact gen PN
noncomputable def Ff:V->Bool
 | .int _=>true
 | _=>false
noncomputable def Eb:V->Bool
 | .str s=>Bd s
 | _=>false
noncomputable def Jk:V->Bool
 | .str s=>Fv s
 | _=>false
noncomputable def Zav:V->Bool
 | .str s=>(B6 s).isSome
 | _=>false
structure Gs (P:Program)(w:World)(K:Og)(mg:Str->Option Value):Prop where
 ns:Et mg "NAME_SIGNS" (.str LET)
 fg:Et mg "FIGURES" (.str DIG)
 w9:∃ a,Et mg "WORDS_NO_NAMES" (.ref a)/\∀ H,SqT K H a (W9.map V.str)
 w10:∃ a,Et mg "WORDS_NOT_ODD" (.ref a)/\∀ H,SqT K H a (W10.map V.str)
 pw:∃ a,Et mg "PARTS_OF_WORDS" (.ref a)/\DkK P w K a Hf
 gp:∃ a e,Et mg "GAP" (.ref a)/\(∀ H,SqT K H a [.str "gap",.non,.ref e])/\∀ H,SqT K H e []
end K28
local macro_rules | `(tactic| walk_at "r1")=>`(tactic| (first | (with_reducible first | refine L2.s_seq ?_ | refine L2.s_asg ?_ | refine L2.s_ret ?_ | refine L2.s_ifS ?_ | refine L2.s_ifE ?_ | refine L2.s_dget ?_ | refine L2.s_din ?_ | refine L2.s_dput ?_ | refine L2.s_dget2 ?_ | refine L2.s_izipm ?_ | refine L2.s_dnotin ?_ | refine L2.s_listzt ?_ | refine L2.s_listr ?_ | refine L2.s_dget1 ?_ | refine L2.s_isB ?_ | refine L2.s_par ?_ | refine L2.s_test ?_ | refine L2.s_op ?_ | refine L2.s_c ?_ | refine L2.s_cons ?_ | refine L2.s_nil ?_ | refine L2.s_call ?_ | refine L2.s_cb ?_ | refine L2.s_gname ?_ | refine L2.s_ex ?_ | refine L2.s_exi ?_ | refine L2.s_drop ?_ | refine L2.s_next ?_ | refine L2.s_un ?_ | refine L2.s_tB ?_ | refine L2.s_not ?_ | refine L2.s_and ?_ | refine L2.s_or ?_ | refine L2.s_andV ?_ | refine L2.s_orV ?_ | refine L2.s_notV ?_ | refine L2.s_vals ?_ | refine L2.s_tup ?_ | refine L2.s_lst ?_ | refine L2.s_bm ?_ | refine L2.s_bm0 ?_ | refine L2.s_sl ?_ | refine L2.s_po ?_ | refine L2.s_po0 ?_ | refine L2.s_gcons ?_ | refine L2.s_gnil ?_ | refine L2.s_gsub ?_ | refine L2.s_isN ?_ | refine L2.s_notN ?_ | refine L2.s_rI0 ?_ | refine L2.s_rU ?_ | refine L2.s_add_int ?_ | refine L2.s_lt ?_ | refine L2.s_le ?_ | refine L2.iteT ?_ | refine L2.iteF ?_ | refine L2.s_comp ?_ | refine L2.s_for ?_ | refine L2.s_rng1 ?_ | refine L2.s_rng3 ?_ | refine L2.s_exr ?_ | refine L2.s_iany ?_ | refine L2.s_irev ?_ | refine L2.s_ienum ?_ | refine L2.s_listen ?_ | refine L2.s_listrev ?_ | refine L2.s_izip ?_ | refine L2.s_ienumT ?_ | refine L2.s_listzp ?_ | refine L2.s_ipI ?_ | refine L2.s_yes ?_ | refine L2.s_turn ?_ | refine L2.s_int_b ?_ | refine L2.s_intb ?_ | refine L2.s_truth ?_ | refine L2.s_chain ?_ | refine L2.s_nt ?_ | refine L2.s_nf ?_) | ((with_reducible refine' L2.s_var ?e ?_); (case e=>exact rfl)) | ((with_reducible refine' L2.s_aug ?e ?_); (case e=>exact rfl)) | ((with_reducible refine' L2.s_eq ?e ?_); (case e=>exact rfl)) | ((with_reducible refine' L2.s_ne ?e ?_); (case e=>exact rfl)) | ((with_reducible refine' L2.s_neb ?e ?_); (case e=>exact rfl)) | ((with_reducible refine' L2.s_eqy ?e ?_); (case e=>exact rfl)) | ((with_reducible refine' L2.s_eqk ?e ?_); (case e=>exact rfl)) | ((with_reducible refine' L2.s_rI ?c ?_); (case c=>first | decide | exact ⟨by decide,by decide⟩ | exact ⟨by decide,by decide,by decide⟩)) | ((with_reducible refine' L2.s_mul_r ?a ?b ?_); (case a=>decide); (case b=>decide)) | ((with_reducible refine' L2.s_mul_l ?a ?b ?_); (case a=>decide); (case b=>decide)) | ((with_reducible refine' L2.s_exr3 ?e ?_); (case e=>decide))))
local macro_rules | `(tactic| walk_at "r")=>`(tactic| (repeat walk_at "r1"))
local macro_rules | `(tactic| walk_at "q")=>`(tactic| (repeat (first | (with_reducible first | refine L2.s_gcons ?_ | refine L2.s_gname ?_ | refine L2.s_gnil ?_ | refine L2.s_seq ?_ | refine L2.s_asg ?_ | refine L2.s_c ?_ | refine L2.s_lst ?_ | refine L2.s_tup ?_ | refine L2.s_cons ?_ | refine L2.s_nil ?_) | ((with_reducible refine' L2.s_var ?e ?_); (case e=>exact rfl)))))
namespace K28
open PySem L2 K10 K19
section
variable {P:Program}{w:World}{K:Og}{mg:Str->Option Value}{base:Heap}
noncomputable def Za7 (K:Og):Sp:=fun vs H Q _=>∃ v,vs=[v]/\Has K H v/\Q (.bl (Ff v)) H
theorem Zpg:A1 ["thing"] ["thing"] (An Hr):=by walk_at "sc"
theorem Zmi {f:Addr}{fd:FuncData}(F:Fun K "is_whole" "is_whole" Hr f fd)(T:Txt K mg):Ar P w K mg base As 1 f fd ["thing"] (Za7 K):=by
 refine F.okq Zpg (fun vs H Q E h=>?_) (fun cdv A outer s H vs Q E hr h=>?_)
 ·obtain ⟨v,rfl,_⟩:=h
  rfl
 ·obtain ⟨v,rfl,⟨t,ht⟩,q⟩:=h
  refine ⟨_,Af (Aj (Dl (Ba (G0 K "int") (by rfl) T.isinstance (by decide +kernel) (Aa (qv 0) (Aa (Gb (v:=.ty "int") (by rfl) T.int (by decide +kernel) rfl) Ab))) (D0 (Zab (Ba (G0 K "bool") (by rfl) T.isinstance (by decide +kernel) (Aa (qv 0) (Aa (Gb (v:=.ty "bool") (by rfl) T.bool (by decide +kernel) rfl) Ab))))))),?_⟩
  walk_at "r"
  refine Fz ht (by simp) ?_
  have e:Ff v=(Cy t "int" && !Cy t "bool"):=by cases ht <;> rfl
  rw [e] at q
  refine ⟨_,rfl,?_⟩
  cases h1:Cy t "int" with
  | false =>
   rw [h1] at q
   exact q
  | true =>
   rw [h1] at q
   walk_at "r"
   refine Fz ht (by simp) ?_
   walk_at "r"
   exact q
theorem big:100000<=sizeLine:=by decide
theorem Of {α:Type}{l:List α}{i:Nat}{c:α}(h:l[i]?=some c):l.take (i+1)=l.take i++[c]:=by
 rw [List.take_succ,h]
 rfl
theorem Ma {z:Str}{i:Nat}{c:Nat}(h:z.cps.toList[i]?=some c):i < z.length:=by
 have:=(O6.mp h).1
 simpa [Str.length] using this
theorem M1 {z:Str}{p:Nat->Bool}:(((z.cps.toList.take z.cps.size).map p).all id)=z.cps.toList.all p:=by
 rw [Qd (by simp),List.all_map]
 rfl
noncomputable def Gy (K:Og):Sp:=fun vs H Q _=>∃ v,vs=[v]/\Has K H v/\∀ H',Same H H'->Q (.bl (Eb v)) H'
theorem Zob:(["sign"]:List Str).Nodup:=by decide +kernel
theorem Zpv:A1 ["thing"] ["thing"] (An Il):=by walk_at "sc"
theorem Fw {t:Str}{ws:List Str}:Cv (.str t) (ws.map V.str)=Bu t ws:=by
 unfold Cv Bu
 rw [List.any_map]
 rfl
theorem Zcq {ws:List Str}:(ws.map V.str).all Ca=true:=by
 rw [List.all_map]
 exact O4.mpr fun _ _=>rfl
theorem Zmb {f:Addr}{fd:FuncData}(F:Fun K "is_name" "is_name" Il f fd)(T:Txt K mg)(G:Gs P w K mg):Ar P w K mg base As 1 f fd ["thing"] (Gy K):=by
 refine F.okq Zpv (fun vs H Q E h=>?_) (fun cdv A outer s H vs Q E hr h=>?_)
 ·obtain ⟨v,rfl,_⟩:=h
  rfl
 ·obtain ⟨v,rfl,⟨t,ht⟩,q⟩:=h
  obtain ⟨a9,G_WORDS_NO_NAMES,h9⟩:=G.w9
  have G_NAME_SIGNS:=G.ns
  refine ⟨_,Ae (A2 (QW.qt (Iy (Ei (Dz (Ba (G0 K "str") (by rfl) T.isinstance (by decide +kernel) (Aa (qv 0) (Aa (Gb (v:=.ty "str") (by rfl) T.str (by decide +kernel) rfl) Ab))))) (Jo (Ei (Ld Db Db Ac (Ba (Bs K) (by rfl) T.len (by decide +kernel) (Aa (qv 0) Ab)) Ac))))) (Af (Aj Di)) A3)
   (Af (Aj (Dl (Ba (Lz K rfl) (by rfl) T.all (by decide +kernel) (Aa (Dv (N:=["sign"]) (σ0:=B8 1 []) rfl (C3 rfl (by decide +kernel) (by decide +kernel) (by decide +kernel)) (D7 K (qv 0)) (C0 rfl (by rfl)) (fun _ _ _ _=>Ax (i:=0) Zob rfl (Or.inl rfl)) (fun _ _ _ _=>C9) (fun _ _ _ _=>Bx (Ex K) (qv 0) (Ft G_NAME_SIGNS) (by rfl))) Ab)) (D0 (Bx (Ho K) (qv 0) (Ft G_WORDS_NO_NAMES) (by rfl)))))),?_⟩
  have bg:=big
  walk_at "r"
  refine Fz ht (by simp) ?_
  walk_at "r"
  cases h1:Cy t "str" with
  | false =>
   have e:Eb v=false:=by cases ht <;> first | rfl | (cases h1)
   walk_at "r"
   rw [e] at q
   exact q H (Same.refl H)
  | true =>
   obtain ⟨z,rfl,hz⟩:∃ z,v=.str z/\z.length<=1000:=by
    cases ht <;> first | exact ⟨_,rfl,by assumption⟩ | (cases h1)
   walk_at "r"
   refine Ht (by omega) ?_
   walk_at "r"
   have e:Eb (.str z)=(decide (1<=z.length) && decide (z.length<=8) && Bg z LET && !Bu z W9):=rfl
   rw [e] at q
   refine A4 (fun h=>?_) (fun h=>?_)
   ·have l1:1<=z.length:=by have:=of_decide_eq_true h;omega
    walk_at "r"
    refine A4 (fun h'=>?_) (fun h'=>?_)
    ·have l2:¬ z.length<=8:=fun x=>by simp at h';omega
     walk_at "r"
     have:=q H (Same.refl H)
     rw [decide_eq_false l2,T7,Pb,Pb] at this
     exact this
    ·have l2:z.length<=8:=by simp at h';omega
     walk_at "r"
     refine .inr (.inr ⟨z,rfl,fun D hD=>?_⟩)
     refine Nf (z:=z) (Pv:=fun i ys σ' H'=>∃ sv,σ'=[sv]/\ys=((z.cps.toList.take i).map fun c=>decide (c∈LET.cps.toList)).map V.bl/\Same H H') ⟨none,rfl,rfl,Same.upd hD⟩ ?_ ?_
     ·rintro i c ys σ' H' hc hys ⟨sv,rfl,rfl,hH⟩
      walk_at "r"
      have hi:=Ma hc
      refine .inr ⟨c,LET,rfl,rfl,?_⟩
      refine ⟨_,hys,by rw [O1,O1,Pq];omega,_,Ad,_,rfl,?_,hH.over hD⟩
      rw [Of hc,Pm,Pm]
      rfl
     ·rintro ys σ' H' hys ⟨sv,rfl,rfl,hH⟩
      walk_at "r"
      refine ⟨D,_,rfl,SqL.of hys,?_⟩
      rw [M1]
      have en:Bg z LET=(z.cps.toList.all fun c=>decide (c∈LET.cps.toList)):=rfl
      rw [<- en]
      have q':=q H' hH
      rw [decide_eq_true l1,decide_eq_true l2,Pi,Pi] at q'
      walk_at "r"
      refine A4 (fun hA=>?_) (fun hA=>?_)
      ·walk_at "r"
       refine D3 (.inr (h9 _)) rfl Zcq ?_
       rw [hA,Pi] at q'
       rw [if_pos rfl,Fw]
       exact q'
      ·have hA:Bg z LET=false:=by simpa using hA
       rw [hA,Pb] at q'
       exact q'
   ·have l1:¬ 1<=z.length:=fun x=>h (decide_eq_true (by omega))
    walk_at "r"
    have:=q H (Same.refl H)
    rw [decide_eq_false l1,Pb,Pb,Pb] at this
    exact this
theorem Zjb (t:Str):t.cps.toList.length=t.length:=by simp [Str.length]
theorem Zks {t:Str}{c:Nat}(h:Bm t.cps.toList 0=some c):t.cps.toList.head?=some c:=by
 obtain ⟨j,h1,h2,h3,_⟩:=Km h
 have:j=0:=by
  unfold Bm Da at h
  rw [Ug (by decide) (by omega)] at h1
  have:=Ov h1
  omega
 subst this
 rw [List.head?_eq_getElem?]
 exact h2
theorem Zpu {t:Str}(h:1<=t.length):∃ c,Bm t.cps.toList 0=some c:=by
 obtain ⟨c,h1,_⟩:=Fs (xs:=t.cps.toList) (i:=0) (by decide) (by rw [Zjb];omega)
 exact ⟨c,h1⟩
theorem Zj3 (c:Nat):decide (V.str ⟨#[c]⟩=V.str ("0" : Str))=(some c == some 48):=by
 have e:("0" : Str)=⟨#[48]⟩:=by decide +kernel
 rw [e,P9]
 simp
theorem Zmt (t u:Str):decide (V.str t=V.str u)=(t == u):=by
 rw [P9]
 simp
noncomputable def Zb6:Sp:=fun vs H Q _=>∃ z:Str,vs=[.str z]/\z.length<=1000/\∀ H',Same H H'->Q (.bl (Ey z)) H'
theorem Zp9:(["sign"]:List Str).Nodup:=by decide +kernel
theorem Zh9:A1 ["text"] ["text"] (An Iu):=by walk_at "sc"
theorem Zpw {f:Addr}{fd:FuncData}(F:Fun K "is_figures" "is_figures" Iu f fd)(T:Txt K mg)(G:Gs P w K mg):Ar P w K mg base As 1 f fd ["text"] Zb6:=by
 refine F.okq Zh9 (fun vs H Q E h=>?_) (fun cdv A outer s H vs Q E hr h=>?_)
 ·obtain ⟨v,rfl,_⟩:=h
  rfl
 ·obtain ⟨z,rfl,hz,q⟩:=h
  have G_FIGURES:=G.fg
  refine ⟨_,Ae (A2 (QW.qt (Iy (Ei (Ld Db Db Ac (Ba (Bs K) (by rfl) T.len (by decide +kernel) (Aa (qv 0) Ab)) Ac)) (Jo (Ei (Dz (Ba (Lz K rfl) (by rfl) T.all (by decide +kernel) (Aa (Dv (N:=["sign"]) (σ0:=B8 1 []) rfl (C3 rfl (by decide +kernel) (by decide +kernel) (by decide +kernel)) (D7 K (qv 0)) (C0 rfl (by rfl)) (fun _ _ _ _=>Ax (i:=0) Zp9 rfl (Or.inl rfl)) (fun _ _ _ _=>C9) (fun _ _ _ _=>Bx (Ex K) (qv 0) (Ft G_FIGURES) (by rfl))) Ab))))))) (Af (Aj Di)) A3)
   (Af (Aj (Zfa (Bx (Bv K hr.u200) (qv 0) Au (Av _)) (D0 (Bx (Gh K hr.u200) (Ak K (qv 0) Ac) Au (Av _)))))),?_⟩
  have bg:=big
  have e:Ey z=(decide (1<=z.length) && decide (z.length<=18) && Bg z DIG && (z == ("0" : Str) || !F5 z)):=rfl
  rw [e] at q
  walk_at "r"
  refine Ht (by omega) ?_
  walk_at "r"
  refine A4 (fun h=>?_) (fun h=>?_)
  ·have l1:1<=z.length:=by have:=of_decide_eq_true h;omega
   walk_at "r"
   refine A4 (fun h'=>?_) (fun h'=>?_)
   ·have l2:¬ z.length<=18:=fun x=>by simp at h';omega
    walk_at "r"
    have:=q H (Same.refl H)
    rw [decide_eq_false l2,T7,Pb,Pb] at this
    exact this
   ·have l2:z.length<=18:=by simp at h';omega
    walk_at "r"
    refine .inr (.inr ⟨z,rfl,fun D hD=>?_⟩)
    refine Nf (z:=z) (Pv:=fun i ys σ' H'=>∃ sv,σ'=[sv]/\ys=((z.cps.toList.take i).map fun c=>decide (c∈DIG.cps.toList)).map V.bl/\Same H H') ⟨none,rfl,rfl,Same.upd hD⟩ ?_ ?_
    ·rintro i c ys σ' H' hc hys ⟨sv,rfl,rfl,hH⟩
     walk_at "r"
     have hi:=Ma hc
     refine .inr ⟨c,DIG,rfl,rfl,?_⟩
     refine ⟨_,hys,by rw [O1,O1,Pq];omega,_,Ad,_,rfl,?_,hH.over hD⟩
     rw [Of hc,Pm,Pm]
     rfl
    ·rintro ys σ' H' hys ⟨sv,rfl,rfl,hH⟩
     walk_at "r"
     refine ⟨D,_,rfl,SqL.of hys,?_⟩
     rw [M1]
     have en:Bg z DIG=(z.cps.toList.all fun c=>decide (c∈DIG.cps.toList)):=rfl
     rw [<- en]
     have q':=q H' hH
     rw [decide_eq_true l1,decide_eq_true l2,Pi,Pi] at q'
     walk_at "r"
     refine A4 (fun hA=>?_) (fun hA=>?_)
     ·have hA:Bg z DIG=false:=by simpa using hA
      rw [hA,Pb] at q'
      walk_at "r"
      exact q'
     ·have hA:Bg z DIG=true:=by simpa using hA
      rw [hA,Pi] at q'
      walk_at "r"
      rw [Zmt]
      refine A4 (fun hz=>?_) (fun hz=>?_)
      ·rw [hz,Bool.true_or] at q'
       exact q'
      ·have hz:(z == ("0" : Str))=false:=by simpa using hz
       rw [hz,Bool.false_or] at q'
       walk_at "r"
       obtain ⟨c,hc⟩:=Zpu l1
       refine Kc (by omega) hc ?_
       refine s_ne rfl ?_
       rw [Zj3]
       have:F5 z=(some c == some 48):=by
        unfold F5
        rw [Zks hc]
       rw [<- this]
       exact q'
  ·have l1:¬ 1<=z.length:=fun x=>h (decide_eq_true (by omega))
   walk_at "r"
   have:=q H (Same.refl H)
   rw [decide_eq_false l1,Pb,Pb,Pb] at this
   exact this
noncomputable def Zee:Sp:=fun vs H Q _=>∃ c:Nat,vs=[.str ⟨#[c]⟩]/\Q (.bl (C8 c)) H
theorem Zh4:A1 ["sign"] ["sign"] (An Hk):=by walk_at "sc"
theorem ll1 (a b:Nat):decide ([a] < [b])=decide (a < b):=by
 by_cases h:a < b
 ·rw [decide_eq_true h]
  exact decide_eq_true (List.Lex.rel h)
 ·rw [decide_eq_false h]
  refine decide_eq_false fun e=>?_
  cases e with
  | rel e=>exact h e
  | cons e=>cases e
theorem Zlx (c:Nat):(!decide ((⟨#[c]⟩:Str).cps.toList < ("!" : Str).cps.toList))=decide (33<=c):=by
 have e:("!" : Str).cps.toList=[33]:=by decide +kernel
 have e2:(⟨#[c]⟩:Str).cps.toList=[c]:=rfl
 rw [e,e2,ll1,P9]
 simp
theorem Zlb (c:Nat):(!decide (("~" : Str).cps.toList < (⟨#[c]⟩:Str).cps.toList))=decide (c<=126):=by
 have e:("~" : Str).cps.toList=[126]:=by decide +kernel
 have e2:(⟨#[c]⟩:Str).cps.toList=[c]:=rfl
 rw [e,e2,ll1,P9]
 simp
theorem Zie {f:Addr}{fd:FuncData}(F:Fun K "is_odd_sign" "is_odd_sign" Hk f fd)(T:Txt K mg):Ar P w K mg base As 1 f fd ["sign"] Zee:=by
 refine F.okq Zh4 (fun vs H Q E h=>?_) (fun cdv A outer s H vs Q E hr h=>?_)
 ·obtain ⟨v,rfl,_⟩:=h
  rfl
 ·obtain ⟨c,rfl,q⟩:=h
  refine ⟨_,Af (Aj (Dl (Zed Db Db Au (qv 0) Au) (D0 (Bx (Ho K) (qv 0) Au (by rfl))))),?_⟩
  walk_at "r"
  have e:C8 c=(decide (33<=c) && decide (c<=126) && !decide (c∈BR.cps.toList)):=rfl
  rw [e] at q
  refine .inr ⟨_,_,rfl,rfl,_,rfl,?_⟩
  rw [Zlx]
  refine A4 (fun h=>?_) (fun h=>?_)
  ·rw [h,Pi] at q
   walk_at "r"
   refine .inr ⟨_,_,rfl,rfl,_,rfl,?_⟩
   rw [Zlb]
   refine A4 (fun h=>?_) (fun h=>?_)
   ·rw [h,Pi] at q
    walk_at "r"
    exact .inr ⟨c,BR,rfl,rfl,q⟩
   ·have h:decide (c<=126)=false:=by simpa using h
    rw [h,Pb] at q
    exact q
  ·have h:decide (33<=c)=false:=by simpa using h
   rw [h,Pb,Pb] at q
   exact ⟨_,rfl,iteF q⟩
noncomputable def Zcp (K:Og):Sp:=fun vs H Q _=>∃ v,vs=[v]/\Has K H v/\∀ H',Same H H'->Q (.bl (Jk v)) H'
theorem Zg1:(["sign"]:List Str).Nodup:=by decide +kernel
theorem Zlu:A1 ["thing"] ["thing"] (An Jm):=by walk_at "sc"
theorem Zow {f:Addr}{fd:FuncData}(F:Fun K "is_odd" "is_odd" Jm f fd)(T:Txt K mg)(G:Gs P w K mg)(C_is_odd_sign:Ao P w K mg base 1 "is_odd_sign" ["sign"] Zee)(C_is_name:Ao P w K mg base 1 "is_name" ["thing"] (Gy K))(C_is_figures:Ao P w K mg base 1 "is_figures" ["text"] Zb6):Ar P w K mg base As 2 f fd ["thing"] (Zcp K):=by
 refine F.okq Zlu (fun vs H Q E h=>?_) (fun cdv A outer s H vs Q E hr h=>?_)
 ·obtain ⟨v,rfl,_⟩:=h
  rfl
 ·obtain ⟨v,rfl,⟨t,ht⟩,q⟩:=h
  obtain ⟨a10,G_WORDS_NOT_ODD,h10⟩:=G.w10
  refine ⟨_,Ae (A2 (QW.qt (Iy (Ei (Dz (Ba (G0 K "str") (by rfl) T.isinstance (by decide +kernel) (Aa (qv 0) (Aa (Gb (v:=.ty "str") (by rfl) T.str (by decide +kernel) rfl) Ab))))) (Jo (Ei (Ld Db Db Ac (Ba (Bs K) (by rfl) T.len (by decide +kernel) (Aa (qv 0) Ab)) Ac))))) (Af (Aj Di)) A3)
   (Ae (A2 (Ei (Dz (Ba (Lz K rfl) (by rfl) T.all (by decide +kernel) (Aa (Dv (N:=["sign"]) (σ0:=B8 1 []) rfl (C3 rfl (by decide +kernel) (by decide +kernel) (by decide +kernel)) (D7 K (qv 0)) (C0 rfl (by rfl)) (fun _ _ _ _=>Ax (i:=0) Zg1 rfl (Or.inl rfl)) (fun _ _ _ _=>C9) (fun _ _ _ _=>Ai C_is_odd_sign hr.m (Aa (qv 0) Ab))) Ab)))) (Af (Aj Di)) A3)
   (Af (Aj (Dl (Zab (Ai C_is_name hr.m (Aa (qv 0) Ab))) (Dl (Bx (Ho K) (qv 0) (Ft G_WORDS_NOT_ODD) (by rfl)) (D0 (Zab (Ai C_is_figures hr.m (Aa (qv 0) Ab))))))))),?_⟩
  have bg:=big
  walk_at "r"
  refine Fz ht (by simp) ?_
  walk_at "r"
  cases h1:Cy t "str" with
  | false =>
   have e:Jk v=false:=by cases ht <;> first | rfl | (cases h1)
   walk_at "r"
   rw [e] at q
   exact q H (Same.refl H)
  | true =>
   obtain ⟨z,rfl,hz⟩:∃ z,v=.str z/\z.length<=1000:=by
    cases ht <;> first | exact ⟨_,rfl,by assumption⟩ | (cases h1)
   walk_at "r"
   refine Ht (by omega) ?_
   walk_at "r"
   have e:Jk (.str z)=(decide (1<=z.length) && decide (z.length<=60) && z.cps.toList.all C8 && !Bd z && !Bu z W10 && !Ey z):=rfl
   rw [e] at q
   refine A4 (fun h=>?_) (fun h=>?_)
   ·have l1:1<=z.length:=by have:=of_decide_eq_true h;omega
    walk_at "r"
    refine A4 (fun h'=>?_) (fun h'=>?_)
    ·have l2:¬ z.length<=60:=fun x=>by simp at h';omega
     walk_at "r"
     have:=q H (Same.refl H)
     rw [decide_eq_false l2,T7] at this
     exact this
    ·have l2:z.length<=60:=by simp at h';omega
     walk_at "r"
     refine .inr (.inr ⟨z,rfl,fun D hD=>?_⟩)
     refine Nf (z:=z) (Pv:=fun i ys σ' H'=>∃ sv,σ'=[sv]/\ys=((z.cps.toList.take i).map C8).map V.bl/\Same H H') ⟨none,rfl,rfl,Same.upd hD⟩ ?_ ?_
     ·rintro i c ys σ' H' hc hys ⟨sv,rfl,rfl,hH⟩
      walk_at "r"
      have hi:=Ma hc
      refine ⟨c,rfl,?_⟩
      refine ⟨_,hys,by rw [O1,O1,Pq];omega,_,Ad,_,rfl,?_,hH.over hD⟩
      rw [Of hc,Pm,Pm]
      rfl
     ·rintro ys σ' H' hys ⟨sv,rfl,rfl,hH⟩
      walk_at "r"
      refine ⟨D,_,rfl,SqL.of hys,?_⟩
      rw [M1]
      rw [decide_eq_true l1,decide_eq_true l2,Pi,Pi] at q
      walk_at "r"
      refine A4 (fun hA=>?_) (fun hA=>?_)
      ·have hA:z.cps.toList.all C8=false:=by simpa using hA
       rw [hA] at q
       walk_at "r"
       exact q H' hH
      ·have hA:z.cps.toList.all C8=true:=by simpa using hA
       rw [hA,Pi] at q
       walk_at "r"
       refine ⟨_,rfl,⟨_,.str z hz⟩,fun H2 s2=>?_⟩
       walk_at "r"
       show if (!Bd z)=true then _ else _
       refine A4 (fun hN=>?_) (fun hN=>?_)
       ·rw [hN,Pi] at q
        walk_at "r"
        refine D3 (.inr (h10 _)) rfl Zcq ?_
        rw [if_pos rfl,Fw]
        walk_at "r"
        refine A4 (fun hW=>?_) (fun hW=>?_)
        ·rw [hW,Pi] at q
         walk_at "r"
         refine ⟨_,rfl,hz,fun H3 s3=>?_⟩
         walk_at "r"
         exact q H3 ((hH.trans s2).trans s3)
        ·have hW:(!Bu z W10)=false:=by simpa using hW
         rw [hW] at q
         exact q H2 (hH.trans s2)
       ·have hN:(!Bd z)=false:=by simpa using hN
        rw [hN] at q
        exact q H2 (hH.trans s2)
   ·have l1:¬ 1<=z.length:=fun x=>h (decide_eq_true (by omega))
    walk_at "r"
    have:=q H (Same.refl H)
    rw [decide_eq_false l1] at this
    exact this
noncomputable def Ze4 (K:Og):Sp:=fun vs H Q _=>∃ v,vs=[v]/\Has K H v/\Q (.bl (Zav v)) H
theorem Zk3:A1 ["thing"] ["thing"] (An Ji):=by walk_at "sc"
theorem Zha {f:Addr}{fd:FuncData}(F:Fun K "is_word" "is_word" Ji f fd)(T:Txt K mg)(G:Gs P w K mg):Ar P w K mg base As 1 f fd ["thing"] (Ze4 K):=by
 refine F.okq Zk3 (fun vs H Q E h=>?_) (fun cdv A outer s H vs Q E hr h=>?_)
 ·obtain ⟨v,rfl,_⟩:=h
  rfl
 ·obtain ⟨v,rfl,⟨t,ht⟩,q⟩:=h
  obtain ⟨ap,G_PARTS_OF_WORDS,hp⟩:=G.pw
  refine ⟨_,Af (Aj (Dl (Ba (G0 K "str") (by rfl) T.isinstance (by decide +kernel) (Aa (qv 0) (Aa (Gb (v:=.ty "str") (by rfl) T.str (by decide +kernel) rfl) Ab))) (D0 (Bx (Zjf P w K) (qv 0) (Ft G_PARTS_OF_WORDS) (by rfl))))),?_⟩
  walk_at "r"
  refine Fz ht (by simp) ?_
  walk_at "r"
  cases h1:Cy t "str" with
  | false =>
   have e:Zav v=false:=by cases ht <;> first | rfl | (cases h1)
   rw [e] at q
   exact iteF q
  | true =>
   obtain ⟨z,rfl,hz⟩:∃ z,v=.str z/\z.length<=1000:=by
    cases ht <;> first | exact ⟨_,rfl,by assumption⟩ | (cases h1)
   walk_at "r"
   refine ⟨z,ap,Hf,rfl,rfl,hp,?_⟩
   rw [Zel,Option.isSome_map]
   exact q
inductive Nt where
 | fl (v:V)
 | tp (xs:List V)
 | ot
noncomputable def NtAt (K:Og)(H:Hp)(v:V):Nt->Prop
 | .fl u=>v=u/\∃ t,TyN K H u t/\Cy t "tuple" = false
 | .tp xs=>∃ a,v=.ref a/\SqT K H a xs/\∀ x∈xs,Has K H x
 | .ot=>∃ a t,v=.ref a/\TyN K H v t/\Cy t "tuple" = false
theorem NtAt.same {K:Og}{H H':Hp}{v:V}{n:Nt}(h:NtAt K H v n)(e:Same H H'):NtAt K H' v n:=by
 cases n with
 | fl u=>obtain ⟨h1,t,h2,h3⟩:=h;exact ⟨h1,t,h2.same e,h3⟩
 | tp xs=>obtain ⟨a,h1,h2,h3⟩:=h;exact ⟨a,h1,e.t.tup h2,fun x hx=>(h3 x hx).same e⟩
 | ot=>obtain ⟨a,t,h1,h2,h3⟩:=h;exact ⟨a,t,h1,h2.same e,h3⟩
theorem NtAt.has {K:Og}{H:Hp}{v:V}{n:Nt}(h:NtAt K H v n):Has K H v:=by
 cases n with
 | fl u=>obtain ⟨rfl,t,h2,h3⟩:=h;exact ⟨t,h2⟩
 | tp xs=>obtain ⟨a,rfl,h2,h3⟩:=h;exact ⟨_,.tup h2⟩
 | ot=>obtain ⟨a,t,rfl,h2,h3⟩:=h;exact ⟨t,h2⟩
noncomputable def twoN:Nt->Bool
 | .tp [x,y]=>Eb x && Eb y
 | _=>false
noncomputable def Zc6 (K:Og):Sp:=fun vs H Q _=>∃ v n,vs=[v]/\NtAt K H v n/\∀ H',Same H H'->Q (.bl (twoN n)) H'
theorem Zp2:A1 ["thing"] ["thing"] (An Hh):=by walk_at "sc"
theorem Zg2 {f:Addr}{fd:FuncData}(F:Fun K "is_two_names" "is_two_names" Hh f fd)(T:Txt K mg)(C_is_name:Ao P w K mg base 1 "is_name" ["thing"] (Gy K)):Ar P w K mg base As 2 f fd ["thing"] (Zc6 K):=by
 refine F.okq Zp2 (fun vs H Q E h=>?_) (fun cdv A outer s H vs Q E hr h=>?_)
 ·obtain ⟨v,n,rfl,_⟩:=h
  rfl
 ·obtain ⟨v,n,rfl,hn,q⟩:=h
  refine ⟨_,Af (Aj (Dl (Ba (G0 K "tuple") (by rfl) T.isinstance (by decide +kernel) (Aa (qv 0) (Aa (Gb (v:=.ty "tuple") (by rfl) T.tuple (by decide +kernel) rfl) Ab))) (Dl (Bx (Bv K hr.u200) (Ba (Bs K) (by rfl) T.len (by decide +kernel) (Aa (qv 0) Ab)) Ac (Av _)) (Dl (Ai C_is_name hr.m (Aa (Ak K (qv 0) Ac) Ab)) (D0 (Ai C_is_name hr.m (Aa (Ak K (qv 0) Ac) Ab))))))),?_⟩
  walk_at "r"
  have no:∀ t,TyN K H v t->Cy t "tuple" = false->twoN n=false->K0 K "tuple" [v,.ty "tuple"] H fun x H1=>∃ k,x=.bl k/\if k=true then (Ie (Bp (Jp K) (E5 (E4 K) (Br (Be 0) Ce)) (tC (.int 2))) (Ie (Es (Gy K) [] E (Br (Bp (Ep K) (Be 0) (tC (.int 0))) Ce)) (Es (Gy K) [] E (Br (Bp (Ep K) (Be 0) (tC (.int 1))) Ce)))) (L2.start ["thing"] [v]) H1 Q else Q (.bl false) H1:=by
   intro t ht hk h2
   refine Fz ht (by simp) ⟨_,rfl,?_⟩
   rw [hk]
   have:=q H (Same.refl H)
   rw [h2] at this
   exact iteF this
  cases n with
  | fl u =>
   obtain ⟨rfl,t,ht,hk⟩:=hn
   exact no t ht hk rfl
  | ot =>
   obtain ⟨a,t,rfl,ht,hk⟩:=hn
   exact no t ht hk rfl
  | tp xs =>
   obtain ⟨a,rfl,hq,hx⟩:=hn
   refine Fz (.tup hq) (by simp) ?_
   show ∃ k,V.bl true=V.bl k/\_
   walk_at "r"
   refine G6 hq ?_
   walk_at "r"
   match xs,hq,hx,q with
   | [x,y],hq,hx,q =>
    refine iteT ?_
    walk_at "r"
    refine A6 hq (v:=x) rfl ?_
    walk_at "r"
    refine ⟨_,rfl,hx x (by simp),fun H1 s1=>?_⟩
    have e:twoN (.tp [x,y])=(Eb x && Eb y):=rfl
    rw [e] at q
    walk_at "r"
    refine A4 (fun h=>?_) (fun h=>?_)
    ·rw [h,Pi] at q
     walk_at "r"
     refine A6 (s1.t.tup hq) (v:=y) rfl ?_
     walk_at "r"
     exact ⟨_,rfl,(hx y (by simp)).same s1,fun H2 s2=>q H2 (s1.trans s2)⟩
    ·have h:Eb x=false:=by simpa using h
     rw [h,Pb] at q
     exact q H1 s1
   | [],hq,hx,q=>exact iteF (q H (Same.refl H))
   | [x],hq,hx,q=>exact iteF (q H (Same.refl H))
   | x::y::z::r,hq,hx,q =>
    refine A4 (fun h=>?_) (fun h=>q H (Same.refl H))
    have:=of_decide_eq_true h
    have h2:(((x::y::z::r).length:Nat):Int)=2:=V.int.inj this
    simp only [Ox] at h2
    omega
noncomputable def Kh:Nt->Bool
 | .fl v=>Eb v
 | _=>false
noncomputable def Kt:Nt->Bool
 | .fl v=>Jk v
 | _=>false
noncomputable def Gr:Nt->Bool
 | .fl (.int i)=>decide (0<=i) && decide (i < 10 ^ 18)
 | _=>false
noncomputable def K6:Nt->Bool
 | .fl (.bl _)=>true
 | _=>false
noncomputable def G2:Nt->Bool
 | .fl .non=>true
 | _=>false
noncomputable def B7 (wd:Str)(n:Nt):Bool :=
 if wd = "odd" then Kt n else if wd = "num" then Gr n else if wd = "truth" then K6 n else if wd∈(["name", "fn", "let"]:List Str) then Kh n else if wd = "rec" then twoN n else G2 n
theorem NtAt.name {K:Og}{H:Hp}{v:V}{n:Nt}(h:NtAt K H v n):Eb v=Kh n/\Jk v=Kt n/\(Ff v=true↔∃ i,v=.int i/\n=.fl (.int i))/\(decide (v=.bl true) || decide (v=.bl false))=K6 n/\decide (v=.non)=G2 n:=by
 cases n with
 | fl u =>
  obtain ⟨rfl,t,h2,h3⟩:=h
  cases h2 <;> first | (exact ⟨rfl,rfl,by simp [Ff],rfl,rfl⟩) | (exact ⟨rfl,rfl,by simp [Ff],by decide,rfl⟩) | skip
  rename_i b
  exact ⟨rfl,rfl,by simp [Ff],by cases b <;> rfl,rfl⟩
 | tp xs =>
  obtain ⟨a,rfl,h2,h3⟩:=h
  exact ⟨rfl,rfl,by simp [Ff],rfl,rfl⟩
 | ot =>
  obtain ⟨a,t,rfl,h2,h3⟩:=h
  exact ⟨rfl,rfl,by simp [Ff],rfl,rfl⟩
theorem Dk (a b:Str):decide (V.str a=V.str b)=decide (a=b):=by
 by_cases h:a=b
 ·simp [h]
 ·simp [h]
noncomputable def Ze1 (K:Og):Sp:=fun vs H Q _=>∃ wd v n,vs=[.str wd,v]/\NtAt K H v n/\∀ H',Same H H'->Q (.bl (B7 wd n)) H'
theorem Zqh:A1 ["word", "note"] ["word", "note"] (An Hb):=by walk_at "sc"
theorem Zju {f:Addr}{fd:FuncData}(F:Fun K "is_note" "is_note" Hb f fd)(T:Txt K mg)(C_is_whole:Ao P w K mg base 1 "is_whole" ["thing"] (Za7 K))(C_is_name:Ao P w K mg base 1 "is_name" ["thing"] (Gy K))(C_is_odd:Ao P w K mg base 2 "is_odd" ["thing"] (Zcp K))(C_is_two_names:Ao P w K mg base 2 "is_two_names" ["thing"] (Zc6 K)):Ar P w K mg base As 3 f fd ["word", "note"] (Ze1 K):=by
 refine F.okq Zqh (fun vs H Q E h=>?_) (fun cdv A outer s H vs Q E hr h=>?_)
 ·obtain ⟨wd,v,n,rfl,_⟩:=h
  rfl
 ·obtain ⟨wd,v,n,rfl,hn,q⟩:=h
  refine ⟨_,Ae (A2 (A0 (Bv K hr.u200) (qv 0) Au (Av _)) (Af (Aj (Ai C_is_odd hr.m (Aa (qv 1) Ab)))) A3)
   (Ae (A2 (A0 (Bv K hr.u200) (qv 0) Au (Av _)) (Af (Aj (Dl (Ai C_is_whole hr.m (Aa (qv 1) Ab)) (D0 (Zed Db Zo3 Ac (qv 1) (Aq Zak Ac Ac)))))) A3)
   (Ae (A2 (A0 (Bv K hr.u200) (qv 0) Au (Av _)) (Af (Aj (Zfa (Bx Zfv (qv 1) Di (Av _)) (D0 (Bx Zfv (qv 1) Di (Av _)))))) A3)
   (Ae (A2 (A0 (Ex K) (qv 0) (Az (Aa Au (Aa Au (Aa Au Ab)))) (by rfl)) (Af (Aj (Ai C_is_name hr.m (Aa (qv 1) Ab)))) A3)
   (Ae (A2 (A0 (Bv K hr.u200) (qv 0) Au (Av _)) (Af (Aj (Ai C_is_two_names hr.m (Aa (qv 1) Ab)))) A3)
   (Af (Aj (Zh5 (Zkd (qv 1))))))))),?_⟩
  obtain ⟨e1,e2,e3,e4,e5⟩:=hn.name
  unfold B7 at q
  walk_at "r"
  rw [Dk]
  refine A4 (fun h=>?_) (fun h=>?_)
  ·rw [if_pos (of_decide_eq_true h),<- e2] at q
   walk_at "r"
   exact ⟨_,rfl,hn.has,q⟩
  rw [if_neg (fun x=>h (decide_eq_true x))] at q
  walk_at "r"
  rw [Dk]
  refine A4 (fun h=>?_) (fun h=>?_)
  ·rw [if_pos (of_decide_eq_true h)] at q
   walk_at "r"
   refine ⟨_,rfl,hn.has,?_⟩
   walk_at "r"
   refine A4 (fun h=>?_) (fun h=>?_)
   ·obtain ⟨i,rfl,rfl⟩:=e3.mp h
    have e:Gr (.fl (.int i))=(decide (0<=i) && decide (i < 10 ^ 18)):=rfl
    rw [e] at q
    walk_at "r"
    refine A4 (fun h=>?_) (fun h=>?_)
    ·rw [h,Pi] at q
     walk_at "r"
     exact q H (Same.refl H)
    ·have h:decide (0<=i)=false:=by simpa using h
     rw [h,Pb] at q
     exact q H (Same.refl H)
   ·have e:Gr n=false:=by
     cases hx:Gr n with
     | false=>rfl
     | true =>
      cases n with
      | fl u =>
       obtain ⟨rfl,_⟩:=hn
       cases v <;> first | (cases hx) | (exact absurd rfl h)
      | tp xs=>cases hx
      | ot=>cases hx
    rw [e] at q
    exact q H (Same.refl H)
  rw [if_neg (fun x=>h (decide_eq_true x))] at q
  walk_at "r"
  rw [Dk]
  refine A4 (fun h=>?_) (fun h=>?_)
  ·rw [if_pos (of_decide_eq_true h),<- e4] at q
   walk_at "r"
   refine A4 (fun h=>?_) (fun h=>?_)
   ·rw [h,Bool.true_or] at q
    exact q H (Same.refl H)
   ·have h:decide (v=.bl true)=false:=by simpa using h
    rw [h,Bool.false_or] at q
    walk_at "r"
    exact q H (Same.refl H)
  rw [if_neg (fun x=>h (decide_eq_true x))] at q
  walk_at "r"
  refine ⟨Cd,fun p hp=>?_⟩
  refine D3 (.inr (SqT.of Ad)) rfl rfl ?_
  have sm:=Same.upd (o:=.tup [.str "name",.str "fn",.str "let"]) hp
  have em:Cv (.str wd) [.str "name",.str "fn",.str "let"]=decide (wd∈(["name", "fn", "let"]:List Str)):=by
   have:=Fw (t:=wd) (ws:=["name", "fn", "let"])
   rw [show ([V.str "name",V.str "fn",V.str "let"]:List V)=(["name", "fn", "let"]:List Str).map V.str from rfl,this]
   by_cases hm:wd∈(["name", "fn", "let"]:List Str)
   ·rw [decide_eq_true hm,Zdl hm]
   ·rw [decide_eq_false hm,Ik hm]
  rw [if_neg Ot,em]
  walk_at "r"
  refine A4 (fun h=>?_) (fun h=>?_)
  ·rw [if_pos (of_decide_eq_true h),<- e1] at q
   walk_at "r"
   exact ⟨_,rfl,hn.has.same sm,fun H' s'=>q H' (sm.trans s')⟩
  rw [if_neg (fun x=>h (decide_eq_true x))] at q
  walk_at "r"
  rw [Dk]
  refine A4 (fun h=>?_) (fun h=>?_)
  ·rw [if_pos (of_decide_eq_true h)] at q
   walk_at "r"
   exact ⟨_,_,rfl,hn.same sm,fun H' s'=>q H' (sm.trans s')⟩
  rw [if_neg (fun x=>h (decide_eq_true x)),<- e5] at q
  walk_at "r"
  exact q _ sm
end
theorem Gj {t:Str}(h:Bd t=true):Bg t LET=true/\t.length<=8:=by
 unfold Bd at h
 simp only [Pa,decide_eq_true_eq] at h
 exact ⟨h.1.2,h.1.1.2⟩
noncomputable def SmallV:V->Prop
 | .str s=>s.length<=1000
 | .int _=>True
 | .bl _=>True
 | .non=>True
 | _=>False
theorem SmallV.ty {v:V}(h:SmallV v){K:Og}{H:Hp}:∃ t,TyN K H v t/\Cy t "tuple" = false:=by
 cases v with
 | str s=>exact ⟨_,.str s h,rfl⟩
 | int i=>exact ⟨_,.int i,rfl⟩
 | bl b=>exact ⟨_,.bl b,rfl⟩
 | non=>exact ⟨_,.non,rfl⟩
 | _=>exact absurd h id
inductive Dx:Dt->Nt->Prop where
 | fl {v:V} (h:SmallV v):Dx (.flat v) (.fl v)
 | tp {vs:List V} (h:∀ v∈vs,SmallV v):Dx (.tup (vs.map .flat)) (.tp vs)
theorem Zbk:∀{vs ws:List V},vs.map Dt.flat=ws.map Dt.flat->vs=ws
 | [],[],_=>rfl
 | [],_::_,h=>nomatch h
 | _::_,[],h=>nomatch h
 | v::r,w::q,h=>by
  rw [O9,O9] at h
  injection h with h1 h2
  injection h1 with h1
  rw [h1,Zbk h2]
theorem IsN.nt {K:Og}{H:Hp}{v:V}{d:Dt}{nt:Nt}(h:IsN K H v d)(hd:Dx d nt):NtAt K H v nt:=by
 cases hd with
 | fl hs =>
  rcases h with ⟨_,e⟩ | ⟨a,vs,_,_,_,e⟩
  ·injection e with e
   obtain ⟨t,h1,h2⟩:=hs.ty (K:=K) (H:=H)
   exact ⟨e.symm,t,h1,h2⟩
  ·cases e
 | @tp ws hs =>
  rcases h with ⟨_,e⟩ | ⟨a,vs,h1,h2,h3,e⟩
  ·cases e
  ·injection e with e
   have:=Zbk e
   subst this
   refine ⟨a,h1,h2,fun x hx=>?_⟩
   obtain ⟨t,h4,_⟩:=(hs x hx).ty (K:=K) (H:=H)
   exact ⟨t,h4⟩
theorem Zdo {wd:Str}{m:Nat}:∀{ps:List (Str×Nat)},ps.lookup wd=some m->(wd,m)∈ps
 | [],h=>nomatch h
 | (a,b)::r,h=>by
  rw [P7] at h
  split at h
  ·rename_i e
   have e:wd=a:=by simpa using e
   cases h
   rw [e]
   exact Pl
  ·exact Pd _ (Zdo h)
theorem Zj7:PN.all (fun x=>(Cv (.str x.1) [.str "plus",.str "minus",.str "less",.str "call",.str "let"] == decide (x.2=2)) && (decide (x.1 = "if") == decide (x.2=3)) && (Cv (.str x.1) [.str "fn",.str "rec"] == decide (x.2=1)) && decide (x.2<=3) && decide (x.1.length<=10))=true:=by decide +kernel
theorem F1 {wd:Str}{m:Nat}(h:B6 wd=some m):Cv (.str wd) [.str "plus",.str "minus",.str "less",.str "call",.str "let"]=decide (m=2)/\decide (wd = "if")=decide (m=3)/\Cv (.str wd) [.str "fn",.str "rec"]=decide (m=1)/\m<=3/\wd.length<=10:=by
 have:=O4.mp Zj7 _ (Zdo h)
 simp only [Pa,beq_iff_eq,decide_eq_true_eq] at this
 exact ⟨this.1.1.1.1,this.1.1.1.2,this.1.1.2,this.1.2,this.2⟩
mutual
noncomputable def Bq:Tr->Nat
 | .mk _ _ ps=>1+A5 ps
noncomputable def A5:List Tr->Nat
 | []=>0
 | t::r=>max (Bq t) (A5 r)
end
theorem Fm (w:Str)(n:Dt)(ts:List Tr):Bq (.mk w n ts)=1+A5 ts:=by rw [Bq]
theorem Kb:A5 []=0:=by rw [A5]
theorem L9 (t:Tr)(r:List Tr):A5 (t::r)=max (Bq t) (A5 r):=by rw [A5]
theorem Ms:Bq gapT=1:=by unfold gapT;rw [Bq,A5]
theorem Zl9 (a b:List Tr):A5 (a++b)=max (A5 a) (A5 b):=by
 induction a with
 | nil=>rw [Q2,A5];omega
 | cons t r ih=>rw [Tv,A5,A5,ih];omega
theorem Ih (a:List Tr)(t:Tr):A5 (a++[t])=max (A5 a) (Bq t):=by rw [Zl9,A5,A5];omega
theorem Zia {ts:List Tr}{j:Nat}{t:Tr}(h:ts[j]?=some t):Bq t<=A5 ts:=by
 induction ts generalizing j with
 | nil=>simp at h
 | cons x r ih =>
  rw [A5]
  cases j with
  | zero=>simp at h;subst h;omega
  | succ j=>have:=ih (j:=j) (by simpa using h);omega
theorem Zdg (ts:List Tr)(j:Nat)(u:Tr):A5 (ts.set j u)<=max (A5 ts) (Bq u):=by
 induction ts generalizing j with
 | nil=>simp [A5]
 | cons x r ih =>
  cases j with
  | zero=>rw [U0,A5,A5];omega
  | succ j=>rw [U1,A5,A5];have:=ih j;omega
inductive TrOk:Tr->Prop where
 | mk {wd:Str} {d:Dt} {nt:Nt} {ts:List Tr} (hp:B6 wd=some ts.length) (hd:Dx d nt) (hn:B7 wd nt=true) (hs:∀ t∈ts,TrOk t):TrOk (.mk wd d ts)
theorem TrOk.gap:TrOk gapT:=.mk (by decide +kernel) (.fl (v:=.non) trivial) (by decide +kernel) (fun t h=>nomatch h)
theorem TrOk.let {u:Str}{s t:Tr}(hu:Bd u=true)(hs:TrOk s)(ht:TrOk t):TrOk (.mk "let" (.flat (.str u)) [s,t]) :=
 .mk (by show B6 "let" = some 2;decide +kernel) (.fl (show u.length<=1000 by have:=(Gj hu).2;omega)) (by
  have e:B7 "let" (.fl (.str u))=Bd u:=by
   unfold B7
   rw [if_neg (by decide +kernel),if_neg (by decide +kernel),if_neg (by decide +kernel),if_pos (by decide +kernel)]
   rfl
  rw [e];exact hu) (fun x hx=>by
  simp only [Ow,P8,or_false] at hx
  rcases hx with rfl | rfl <;> assumption)
theorem TrOk.call {s t:Tr}(hs:TrOk s)(ht:TrOk t):TrOk (.mk "call" (.flat .non) [s,t]) :=
 .mk (by show B6 "call" = some 2;decide +kernel) (.fl (v:=.non) trivial) (by decide +kernel) (fun x hx=>by
  simp only [Ow,P8,or_false] at hx
  rcases hx with rfl | rfl <;> assumption)
theorem Zeg {ts:List Tr}{t:Tr}(h:∀ x∈ts,TrOk x)(ht:TrOk t):∀ x∈ts++[t],TrOk x:=fun x hx=>by
 rcases Pr.mp hx with hx | hx
 ·exact h x hx
 ·rw [Qo.mp hx];exact ht
theorem TrAt.al {K:Og}{H H':Hp}{vs:List V}{ts:List Tr}(h:Al (TrAt K H) vs ts)(e:SameT H H'):Al (TrAt K H') vs ts:=h.mono fun _ _ a=>a.sameT e
inductive At:Tr->List Nat->Tr->Prop where
 | nil (t:Tr):At t [] t
 | cons {w:Str} {n:Dt} {ts:List Tr} {j:Nat} {t u:Tr} {r:List Nat} (h:ts[j]?=some t) (s:At t r u):At (.mk w n ts) (j::r) u
mutual
theorem My:∀(t:Tr)(x:List Nat×Tr),x∈walk [] t->At t x.1 x.2
 | .mk w n ps,x,h=>by
  rw [walk] at h
  rcases Ow.mp h with rfl | h
  ·exact .nil _
  ·obtain ⟨j,t,r,e1,e2,e3⟩:=Zbf 0 ps x h
   rw [e2,Sq]
   exact .cons e1 e3
theorem Zbf:∀(i:Nat)(ts:List Tr)(x:List Nat×Tr),x∈Bh [] i ts->∃(j:Nat)(t:Tr)(r:List Nat),ts[j]?=some t/\x.1=(i+j)::r/\At t r x.2
 | _,[],x,h=>by rw [Bh] at h;cases h
 | i,t::q,x,h=>by
  rw [Bh] at h
  rcases Pr.mp h with h | h
  ·rw [Ks] at h
   obtain ⟨y,hy,rfl⟩:=List.mem_map.mp h
   exact ⟨0,t,y.1,rfl,rfl,My t y hy⟩
  ·obtain ⟨j,t',r,e1,e2,e3⟩:=Zbf (i+1) q x h
   exact ⟨j+1,t',r,by simpa using e1,by rw [e2];congr 1;omega,e3⟩
end
theorem At.det {t u u':Tr}{pl:List Nat}(h:At t pl u)(h':At t pl u'):u=u':=by
 induction h with
 | nil t=>cases h';rfl
 | cons e _ ih =>
  cases h' with
  | cons e' s' =>
   rw [e] at e'
   cases e'
   exact ih s'
theorem At.split {t u:Tr}:∀{a b:List Nat},At t (a++b) u->∃ m,At t a m/\At m b u:=by
 intro a
 induction a generalizing t with
 | nil=>intro b h;exact ⟨t,.nil _,h⟩
 | cons j r ih =>
  intro b h
  cases h with
  | cons e s =>
   obtain ⟨m,h1,h2⟩:=ih s
   exact ⟨m,.cons e h1,h2⟩
theorem At.app {t m u:Tr}{a b:List Nat}(h:At t a m)(h':At m b u):At t (a++b) u:=by
 induction h with
 | nil t=>exact h'
 | cons e _ ih=>exact .cons e (ih h')
theorem At.ok {t u:Tr}{pl:List Nat}(h:At t pl u):TrOk t->TrOk u/\u.size<=t.size:=by
 induction h with
 | nil t=>exact fun o=>⟨o,Ol _⟩
 | cons e _ ih =>
  intro o
  cases o with
  | mk _ _ _ hs =>
   have h1:=ih (hs _ (Oz e))
   have h2:=Kk e
   rw [Tr.size]
   exact ⟨h1.1,by omega⟩
theorem At.step {t u:Tr}{pl:List Nat}(h:At t pl u){k j:Nat}(hk:pl[k]?=some j):∃(w:Str)(n:Dt)(ts:List Tr)(m:Tr),At t (pl.take k) (.mk w n ts)/\ts[j]?=some m/\At t (pl.take (k+1)) m:=by
 have hl:=(O6.mp hk).1
 have hd:pl.drop k=j::pl.drop (k+1):=by
  rw [Qk hl]
  rw [Oi hl] at hk
  rw [Ov hk]
 have h0:At t (pl.take k++(j::pl.drop (k+1))) u:=by rw [<- hd,Us];exact h
 obtain ⟨m,h1,h2⟩:=h0.split
 cases h2 with
 | cons e s =>
  refine ⟨_,_,_,_,h1,e,?_⟩
  rw [List.take_succ,hk]
  exact h1.app (.cons e (.nil _))
theorem At.len {t u:Tr}{pl:List Nat}(h:At t pl u):pl.length+1<=t.size:=by
 induction h with
 | nil t=>have:=t.size_eq;simp;omega
 | cons e _ ih=>have:=Kk e;rw [Tr.size,Ox];omega
theorem At.put {t u f:Tr}{pl:List Nat}(h:At t pl u):At (Bc t pl f) pl f:=by
 induction h with
 | nil t=>rw [Dm];exact .nil _
 | cons e _ ih=>rw [Ed e];exact .cons (Zfy e) ih
theorem At.twice {t u f g:Tr}{pl p:List Nat}(h:At t pl u):Bc (Bc t pl f) (pl++p) g=Bc t pl (Bc f p g):=by
 induction h with
 | nil t=>rw [Dm,Dm,Q2]
 | cons e _ ih=>rw [Ed e,Ed e,Tv,Ed (Zfy e),ih,List.set_set]
theorem Ln {nt:Nt}(h:G2 nt=true):nt=.fl .non:=by
 unfold G2 at h
 split at h
 ·rfl
 ·cases h
theorem Go {t:Tr}(ok:TrOk t)(h:t.wd = "gap"):t=gapT:=by
 cases ok with
 | @mk wd d nt ts hp hd hn hs =>
  have h:wd = "gap" := h
  subst h
  have h0:B6 ("gap" : Str)=some 0:=by decide +kernel
  rw [h0] at hp
  have hl:ts=[]:=Qw (Ov hp).symm
  subst hl
  have hn:G2 nt=true:=hn
  have e:=Ln hn
  subst e
  cases hd with
  | fl hv=>rfl
noncomputable def _root_.L2.Tr.note:Tr->Dt
 | .mk _ n _=>n
theorem Zev (t:Tr):t=.mk t.wd t.note t.ps:=by cases t;rfl
inductive Op where
 | put (t:Tr)
 | cut
noncomputable def Op.does:Op->Tr->Tr->Prop
 | .put b,f,g=>f=gapT/\g=b/\b.wd ≠ "gap" /\ (∀ x∈b.ps,x=gapT)/\b.ps.length<=3/\TrOk b
 | .cut,f,g=>f.wd ≠ "gap" /\ g=gapT
noncomputable abbrev Rw:=List (List Nat×Op)
inductive Led:Tr->Rw->Tr->Prop where
 | nil (t:Tr):Led t [] t
 | cons {t f g u:Tr} {pl:List Nat} {o:Op} {r:Rw} (h:At t pl f) (d:o.does f g) (s:Led (Bc t pl g) r u):Led t ((pl,o)::r) u
theorem Led.app {t u v:Tr}{r s:Rw}(a:Led t r u)(b:Led u s v):Led t (r++s) v:=by
 induction a with
 | nil t=>exact b
 | cons h d _ ih=>exact .cons h d (ih b)
noncomputable def pre (pl:List Nat)(r:Rw):Rw:=r.map fun x=>(pl++x.1,x.2)
theorem E9 (pl:List Nat)(r:Rw):(pre pl r).length=r.length:=by unfold pre;rw [O1]
theorem Zmf (r:Rw):pre [] r=r:=by
 unfold pre
 induction r with
 | nil=>rfl
 | cons x r ih=>rw [O9,ih];rfl
theorem Zll (p q:List Nat)(r:Rw):pre p (pre q r)=pre (p++q) r:=by
 unfold pre
 rw [Uf]
 congr 1
 funext x
 show (p++(q++x.1),x.2)=_
 rw [Pp]
theorem Zhs (p:List Nat)(r s:Rw):pre p (r++s)=pre p r++pre p s:=by unfold pre;rw [Pm]
theorem Led.in_ {f g:Tr}{r:Rw}(h:Led f r g){t x:Tr}{pl:List Nat}(a:At t pl x):Led (Bc t pl f) (pre pl r) (Bc t pl g):=by
 induction h with
 | nil f=>exact .nil _
 | @cons f f' g' u p o r h d s ih =>
  refine .cons (pl:=pl++p) (o:=o) (a.put.app h) d ?_
  rw [a.twice]
  exact ih
inductive LedS:Nat->List Tr->Rw->List Tr->Prop where
 | nil (i:Nat):LedS i [] [] []
 | cons {i:Nat} {f a:Tr} {fs as:List Tr} {r rs:Rw} (h:Led f r a) (s:LedS (i+1) fs rs as):LedS i (f::fs) (pre [i] r++rs) (a::as)
theorem LedS.led {w:Str}{n:Dt}{i:Nat}{fs as:List Tr}{rs:Rw}(h:LedS i fs rs as):∀ d:List Tr,d.length=i->Led (.mk w n (d++fs)) rs (.mk w n (d++as)):=by
 induction h with
 | nil i=>intro d _;exact .nil _
 | @cons i f a fs as r rs h s ih =>
  intro d hd
  have g:∀ x:Tr,(d++x::fs)[i]?=some x:=fun x=>by rw [Qi (by omega),hd];simp
  have e:∀ x y:Tr,Bc (.mk w n (d++x::fs)) [i] y=.mk w n (d++y::fs):=fun x y=>by
   rw [Ed (g x),Dm]
   congr 1
   rw [List.set_append_right _ _ (by omega),hd,Rh]
   rfl
  have h1:=h.in_ (t:=.mk w n (d++f::fs)) (pl:=[i]) (.cons (g f) (.nil _))
  rw [e,e] at h1
  have h2:=ih (d++[a]) (by simp [hd])
  rw [Pp,Pp] at h2
  exact h1.app h2
noncomputable def Ci (x:List Nat×Tr):Bool:=!decide (x.2.wd = "gap")
noncomputable def fp (t:Tr):List (List Nat×Tr):=(walk [] t).filter Ci
noncomputable def G9 (t:Tr):Tr:=.mk t.wd t.note (Oo t.ps.length gapT)
noncomputable def B5 (t:Tr):Rw:=(fp t).map fun x=>(x.1,.put (G9 x.2))
noncomputable def Er (i:Nat)(ts:List Tr):Rw:=((Bh [] i ts).filter Ci).map fun x=>(x.1,.put (G9 x.2))
theorem Zbu:B5 gapT=[]:=by
 unfold B5 fp
 rw [Lo,show gapT.ps=[] from rfl,Bh,List.filter_cons_of_neg (by unfold Ci;rw [decide_eq_true (show ([],gapT).2.wd=("gap" : Str) from rfl)];decide)]
 rfl
theorem Zce {t:Tr}(h:t.wd ≠ "gap"):B5 t=([],.put (G9 t))::Er 0 t.ps:=by
 unfold B5 fp Er
 rw [Lo,List.filter_cons_of_pos (by unfold Ci;rw [decide_eq_false (show ¬ ([],t).2.wd=("gap" : Str) from h)];rfl),O9]
theorem Zbt (i:Nat):Er i []=[]:=by unfold Er;rw [Bh];rfl
theorem Zby (i:Nat)(t:Tr)(r:List Tr):Er i (t::r)=pre [i] (B5 t)++Er (i+1) r:=by
 unfold Er B5 fp pre
 rw [Bh,List.filter_append,Pm,Q2,Ks [i] t,List.filter_map,Uf,Uf]
 rfl
theorem Zmk {w:Str}{n:Dt}{ts:List Tr}(ok:TrOk (.mk w n ts)):TrOk (G9 (.mk w n ts)):=by
 cases ok with
 | mk hp hd hb _=>exact .mk (by rw [Qm];exact hp) hd hb fun t ht=>by rw [Ql ht];exact TrOk.gap
mutual
theorem N5:∀ t:Tr,TrOk t->Led gapT (B5 t) t
 | .mk w n ts,ok=>by
  by_cases h:w = "gap"
  ·rw [Go ok h,Zbu]
   exact .nil _
  ·rw [Zce (t:=.mk w n ts) h]
   refine .cons (.nil _) ⟨rfl,rfl,h,(fun x hx=>Ql hx),by show (Oo ts.length gapT).length<=3;rw [Qm];cases ok with | mk hp _ _ _=>exact (F1 hp).2.2.2.1,Zmk ok⟩ ?_
   rw [Dm]
   have hs:∀ t∈ts,TrOk t:=by cases ok with | mk _ _ _ hs=>exact hs
   exact (Zb8 0 ts hs).led [] rfl
theorem Zb8:∀(i:Nat)(ts:List Tr),(∀ t∈ts,TrOk t)->LedS i (Oo ts.length gapT) (Er i ts) ts
 | i,[],_=>by rw [Zbt];exact .nil i
 | i,t::r,h=>by
  rw [Zby,Ox,Qe]
  exact .cons (N5 t (h t Pl)) (Zb8 (i+1) r fun x hx=>h x (Pd _ hx))
end
theorem Zau (t:Tr):(fp t).length<=t.size:=by
 unfold fp
 have:=List.length_filter_le Ci (walk [] t)
 rw [D5] at this
 exact this
theorem F0 (t:Tr):(B5 t).length=(fp t).length:=by unfold B5;rw [O1]
noncomputable def Dd (a:Tr):Rw:=([],.cut)::B5 a
noncomputable def sameB (f a:Tr):Prop:=f.wd=a.wd/\f.note=a.note
open Classical in
mutual
noncomputable def B3:Tr->Tr->Rw
 | .mk w n fs,a=>if w = "gap" then B5 a else if w=a.wd/\n=a.note then (if (Bb 0 fs a.ps).length<=1+(fp a).length then Bb 0 fs a.ps else Dd a) else Dd a
noncomputable def Bb:Nat->List Tr->List Tr->Rw
 | _,[],_=>[]
 | i,f::fs,as=>match as with
  | []=>[]
  | a::as=>pre [i] (B3 f a)++Bb (i+1) fs as
end
theorem Ip {f a:Tr}(h:f.wd = "gap"):B3 f a=B5 a:=by
 cases f with
 | mk w n fs=>have h:w = "gap" := h;rw [B3,if_pos h]
theorem Hy {f a:Tr}(h:f.wd ≠ "gap")(s:sameB f a):B3 f a=if (Bb 0 f.ps a.ps).length<=1+(fp a).length then Bb 0 f.ps a.ps else Dd a:=by
 cases f with
 | mk w n fs =>
  have h:¬ w = "gap" := h
  have s:w=a.wd/\n=a.note:=s
  rw [B3,if_neg h,if_pos s]
  show (if (Bb 0 fs a.ps).length<=1+(fp a).length then Bb 0 fs a.ps else Dd a)=if (Bb 0 fs a.ps).length<=1+(fp a).length then Bb 0 fs a.ps else Dd a
  split <;> rfl
theorem Ke {f a:Tr}(h:f.wd ≠ "gap")(s:¬ sameB f a):B3 f a=Dd a:=by
 cases f with
 | mk w n fs =>
  have h:¬ w = "gap" := h
  have s:¬ (w=a.wd/\n=a.note):=s
  rw [B3,if_neg h,if_neg s]
theorem Fo (i:Nat)(f a:Tr)(fs as:List Tr):Bb i (f::fs) (a::as)=pre [i] (B3 f a)++Bb (i+1) fs as:=by rw [Bb]
theorem Jy {f a:Tr}(hf:TrOk f)(ha:TrOk a)(h:f.wd=a.wd):f.ps.length=a.ps.length:=by
 cases hf with
 | mk p _ _ _ =>
 cases ha with
 | mk p' _ _ _ =>
  have h:_=_:=h
  dsimp only [Tr.wd] at h
  subst h
  rw [p] at p'
  exact Ov p'
theorem Ek {t:Tr}(h:TrOk t):∀ x∈t.ps,TrOk x:=by
 cases h with
 | mk _ _ _ hs=>exact hs
theorem Zep {f a:Tr}(h:f.wd ≠ "gap")(ha:TrOk a):Led f (Dd a) a:=by
 refine .cons (.nil _) (o:=.cut) ⟨h,rfl⟩ ?_
 rw [Dm]
 exact N5 a ha
mutual
theorem Ob:∀ f a:Tr,TrOk f->TrOk a->Led f (B3 f a) a
 | .mk w n fs,a,hf,ha=>by
  by_cases h:(Tr.mk w n fs).wd = "gap"
  ·rw [Ip h,Go hf h]
   exact N5 a ha
  ·by_cases s:sameB (.mk w n fs) a
   ·rw [Hy h s]
    split
    ·have hl:=Jy hf ha s.1
     have:=(Zck 0 fs a.ps hl (Ek hf) (Ek ha)).led (w:=w) (n:=n) [] rfl
     rw [Q2,Q2] at this
     have e:a=.mk w n a.ps:=by
      have:=Zev a
      rw [<- s.1,<- s.2] at this
      exact this
     rw [show (Tr.mk w n fs).ps=fs from rfl]
     rw [<- e] at this
     exact this
    ·exact Zep h ha
   ·rw [Ke h s]
    exact Zep h ha
theorem Zck:∀(i:Nat)(fs as:List Tr),fs.length=as.length->(∀ x∈fs,TrOk x)->(∀ x∈as,TrOk x)->LedS i fs (Bb i fs as) as
 | i,[],[],_,_,_=>by rw [Bb];exact .nil i
 | i,[],_::_,h,_,_=>by cases h
 | i,_::_,[],h,_,_=>by cases h
 | i,f::fs,a::as,h,h1,h2=>by
  rw [Fo]
  exact .cons (Ob f a (h1 f Pl) (h2 a Pl)) (Zck (i+1) fs as (by simpa using h) (fun x hx=>h1 x (Pd _ hx)) fun x hx=>h2 x (Pd _ hx))
end
mutual
theorem Zd1:∀ t:Tr,TrOk t->B3 t t=[]
 | .mk w n fs,hf=>by
  by_cases h:(Tr.mk w n fs).wd = "gap"
  ·rw [Ip h,Go hf h,Zbu]
  ·rw [Hy h ⟨rfl,rfl⟩]
   have e:Bb 0 (Tr.mk w n fs).ps (Tr.mk w n fs).ps=[]:=Zft 0 fs (Ek hf)
   rw [e,if_pos (show ([]:Rw).length<=1+(fp (Tr.mk w n fs)).length from Pj _)]
theorem Zft:∀(i:Nat)(ts:List Tr),(∀ x∈ts,TrOk x)->Bb i ts ts=[]
 | i,[],_=>by rw [Bb]
 | i,f::fs,h1=>by
  rw [Fo,Zd1 f (h1 f Pl),Zft (i+1) fs fun x hx=>h1 x (Pd _ hx)]
  rfl
end
theorem Zc8 (f a:Tr):(B3 f a).length<=1+a.size:=by
 have hp:=F0 a
 have hf:=Zau a
 have hc:(Dd a).length=1+(B5 a).length:=by unfold Dd;rw [Ox];omega
 by_cases h:f.wd = "gap"
 ·rw [Ip h];omega
 ·by_cases s:sameB f a
  ·rw [Hy h s]
   split
   ·omega
   ·omega
  ·rw [Ke h s];omega
theorem Mu:∀(i:Nat)(fs as:List Tr),(Bb i fs as).length<=as.length+Am as
 | i,[],as=>by rw [Bb];simp
 | i,_::_,[]=>by rw [Bb];simp
 | i,f::fs,a::as=>by
  rw [Fo,Ou,E9,Ox,Am]
  have h1:=Zc8 f a
  have h2:=Mu (i+1) fs as
  omega
noncomputable abbrev Mt:=List Nat×Tr×Tr
noncomputable def Cb (pl:List Nat):Nat->List Tr->List Tr->List Mt
 | _,[],_=>[]
 | i,f::fs,as=>match as with
  | []=>[]
  | a::as=>(pl++[i],f,a)::Cb pl (i+1) fs as
open Classical in
mutual
noncomputable def met:List Nat->Tr->Tr->List Mt
 | pl,.mk w n fs,a=>(pl,.mk w n fs,a)::(if w=a.wd/\n=a.note then Bw pl 0 fs a.ps else [])
noncomputable def Bw:List Nat->Nat->List Tr->List Tr->List Mt
 | _,_,[],_=>[]
 | pl,i,f::fs,as=>match as with
  | []=>[]
  | a::as=>Bw pl (i+1) fs as++met (pl++[i]) f a
end
open Classical in
theorem Gx (pl:List Nat)(f a:Tr):met pl f a=(pl,f,a)::(if sameB f a then Bw pl 0 f.ps a.ps else []):=by
 cases f with
 | mk w n fs =>
  rw [met]
  by_cases s:sameB (.mk w n fs) a
  ·rw [if_pos s,if_pos (show w=a.wd/\n=a.note from s)];rfl
  ·rw [if_neg s,if_neg (show ¬ (w=a.wd/\n=a.note) from s)]
theorem Hs (pl:List Nat)(i:Nat)(f a:Tr)(fs as:List Tr):Bw pl i (f::fs) (a::as)=Bw pl (i+1) fs as++met (pl++[i]) f a:=by rw [Bw]
theorem J7 (pl:List Nat)(i:Nat)(f a:Tr)(fs as:List Tr):Cb pl i (f::fs) (a::as)=(pl++[i],f,a)::Cb pl (i+1) fs as:=rfl
noncomputable def Cw (st:List Mt):List Mt:=st.reverse.flatMap fun x=>met x.1 x.2.1 x.2.2
theorem Zb3 (pl:List Nat):∀(i:Nat)(fs as:List Tr),((Cb pl i fs as).reverse).flatMap (fun x=>met x.1 x.2.1 x.2.2)=Bw pl i fs as
 | i,[],as=>by rw [Cb,Bw];rfl
 | i,_::_,[]=>by rw [Cb,Bw];rfl
 | i,f::fs,a::as=>by
  rw [J7,List.reverse_cons,Rs,Zb3 pl (i+1) fs as,Hs,Ti]
open Classical in
theorem Zdz (st:List Mt)(x:Mt):Cw (st++[x])=x::Cw (st++(if sameB x.2.1 x.2.2 then Cb x.1 0 x.2.1.ps x.2.2.ps else [])):=by
 unfold Cw
 rw [Sd,Sd,Rs,Rs,Uq,Ti,Gx]
 split
 ·rw [Zb3];rfl
 ·rfl
mutual
theorem Zad:∀(pl:List Nat)(f a:Tr),(met pl f a).length<=f.size
 | pl,.mk w n fs,a=>by
  rw [Gx,Ox,Tr.size]
  split
  ·have:=Zbl pl 0 fs a.ps
   show (Bw pl 0 fs a.ps).length+1<=_
   omega
  ·simp
theorem Zbl:∀(pl:List Nat)(i:Nat)(fs as:List Tr),(Bw pl i fs as).length<=Am fs
 | pl,i,[],as=>by rw [Bw];simp
 | pl,i,f::fs,[]=>by rw [Bw];simp
 | pl,i,f::fs,a::as=>by
  rw [Hs,Ou,Am]
  have h1:=Zbl pl (i+1) fs as
  have h2:=Zad (pl++[i]) f a
  omega
end
theorem Zas (pl:List Nat):∀(i:Nat)(fs as:List Tr)(j:Nat)(f a:Tr),fs[j]?=some f->as[j]?=some a->(Cb pl i fs as)[j]?=some (pl++[i+j],f,a)
 | i,[],as,j,f,a,h,_=>by simp at h
 | i,_::_,[],j,f,a,_,h=>by simp at h
 | i,f::fs,a::as,0,f',a',h1,h2=>by
  have h1:f=f':=by simpa using h1
  have h2:a=a':=by simpa using h2
  subst h1 h2
  rfl
 | i,f::fs,a::as,j+1,f',a',h1,h2=>by
  rw [J7,Um,Zas pl (i+1) fs as j f' a' (by simpa using h1) (by simpa using h2),show i+1+j=i+(j+1) by omega]
theorem Zfs (pl:List Nat):∀(i:Nat)(fs as:List Tr),fs.length=as.length->(Cb pl i fs as).length=as.length
 | i,[],[],_=>rfl
 | i,[],_::_,h=>by cases h
 | i,_::_,[],h=>by cases h
 | i,f::fs,a::as,h=>by rw [J7,Ox,Zfs pl (i+1) fs as (by simpa using h),Ox]
inductive Cl:List Mt->Prop where
 | nil:Cl []
 | cons {x:Mt} {s:List Mt} (h:sameB x.2.1 x.2.2->∀ y∈Cb x.1 0 x.2.1.ps x.2.2.ps,y∈s) (c:Cl s):Cl (x::s)
theorem Cl.app {a b:List Mt}(h:Cl a)(h':Cl b):Cl (a++b):=by
 induction h with
 | nil=>exact h'
 | cons h _ ih=>exact .cons (fun s y hy=>Q9 _ (h s y hy)) ih
theorem Zct (pl:List Nat)(f a:Tr):(pl,f,a)∈met pl f a:=by rw [Gx];exact Pl
theorem Zc2 (pl:List Nat):∀(i:Nat)(fs as:List Tr),∀ y∈Cb pl i fs as,y∈Bw pl i fs as
 | i,[],as,y,h=>by rw [Cb] at h;cases h
 | i,_::_,[],y,h=>by rw [Cb] at h;cases h
 | i,f::fs,a::as,y,h=>by
  rw [J7] at h
  rw [Hs]
  rcases Ow.mp h with rfl | h
  ·exact P6 _ (Zct _ _ _)
  ·exact Q9 _ (Zc2 pl (i+1) fs as y h)
mutual
theorem Zfe:∀(pl:List Nat)(f a:Tr),Cl (met pl f a)
 | pl,.mk w n fs,a=>by
  rw [Gx]
  refine .cons (fun s y hy=>?_) ?_
  ·rw [if_pos s];exact Zc2 pl 0 _ _ y hy
  ·split
   ·exact Zba pl 0 fs a.ps
   ·exact .nil
theorem Zba:∀(pl:List Nat)(i:Nat)(fs as:List Tr),Cl (Bw pl i fs as)
 | pl,i,[],as=>by rw [Bw];exact .nil
 | pl,i,f::fs,[]=>by rw [Bw];exact .nil
 | pl,i,f::fs,a::as=>by
  rw [Hs]
  exact (Zba pl (i+1) fs as).app (Zfe (pl++[i]) f a)
end
theorem Cl.tail {x:Mt}:∀{p s:List Mt},Cl (p++x::s)->sameB x.2.1 x.2.2->∀ y∈Cb x.1 0 x.2.1.ps x.2.2.ps,y∈s
 | [],s,h=>by cases h with | cons h _=>exact h
 | _::p,s,h=>by cases h with | cons _ h=>exact Cl.tail (p:=p) h
mutual
theorem Ly:∀(pl:List Nat)(f a:Tr),TrOk f->TrOk a->∀ x∈met pl f a,∃ q,x.1=pl++q/\At f q x.2.1/\At a q x.2.2
 | pl,.mk w n fs,a,hf,ha,x,hx=>by
  rw [Gx] at hx
  rcases Ow.mp hx with rfl | hx
  ·exact ⟨[],by simp,.nil _,.nil _⟩
  ·split at hx
   ·rename_i s
    obtain ⟨j,q,f',a',e1,e2,e3,e4,e5⟩:=Zdp pl 0 fs a.ps (Ek hf) (Ek ha) x hx
    refine ⟨j::q,by rw [e3,Sq],.cons e1 e4,?_⟩
    rw [Zev a]
    exact .cons e2 e5
   ·cases hx
theorem Zdp:∀(pl:List Nat)(i:Nat)(fs as:List Tr),(∀ x∈fs,TrOk x)->(∀ x∈as,TrOk x)->∀ x∈Bw pl i fs as,∃ j q f a,fs[j]?=some f/\as[j]?=some a/\x.1=pl++(i+j)::q/\At f q x.2.1/\At a q x.2.2
 | pl,i,[],as,_,_,x,hx=>by rw [Bw] at hx;cases hx
 | pl,i,f::fs,[],_,_,x,hx=>by rw [Bw] at hx;cases hx
 | pl,i,f::fs,a::as,h1,h2,x,hx=>by
  rw [Hs] at hx
  rcases Pr.mp hx with hx | hx
  ·obtain ⟨j,q,f',a',e1,e2,e3,e4,e5⟩:=Zdp pl (i+1) fs as (fun x hx=>h1 x (Pd _ hx)) (fun x hx=>h2 x (Pd _ hx)) x hx
   exact ⟨j+1,q,f',a',by simpa using e1,by simpa using e2,by rw [e3,show i+1+j=i+(j+1) by omega],e4,e5⟩
  ·obtain ⟨q,e1,e2,e3⟩:=Ly (pl++[i]) f a (h1 f Pl) (h2 a Pl) x hx
   exact ⟨0,q,f,a,rfl,rfl,by rw [e1];simp,e2,e3⟩
end
theorem At.okw {t u f:Tr}{pl:List Nat}(h:At t pl u):TrOk t->TrOk f->TrOk (Bc t pl f):=by
 induction h with
 | nil t=>intro _ o;rw [Dm];exact o
 | cons e _ ih =>
  intro o of
  rw [Ed e]
  cases o with
  | mk hp hd hb hs =>
   refine .mk (by rw [Q1];exact hp) hd hb fun x hx=>?_
   rcases List.mem_or_eq_of_mem_set hx with hx | rfl
   ·exact hs x hx
   ·exact ih (hs _ (Oz e)) of
noncomputable def fps:List Tr->Nat
 | []=>0
 | t::r=>(fp t).length+fps r
theorem Zbx:∀(i:Nat)(ts:List Tr),(Er i ts).length=fps ts
 | i,[]=>by rw [Zbt];rfl
 | i,t::r=>by rw [Zby,Ou,E9,F0,Zbx (i+1) r];rfl
theorem Zpy {t:Tr}(h:t.wd ≠ "gap"):(fp t).length=1+fps t.ps:=by
 rw [<- F0,Zce h,Ox,Zbx];omega
noncomputable def A8 (a c:Tr):Nat:=(B3 a c).length
noncomputable def Cu:List Tr->List Tr->Nat
 | [],_=>0
 | f::fs,as=>match as with
  | []=>0
  | a::as=>A8 f a+Cu fs as
theorem Gc (f a:Tr)(fs as:List Tr):Cu (f::fs) (a::as)=A8 f a+Cu fs as:=by rw [Cu]
theorem Zcx:∀(i:Nat)(fs as:List Tr),(Bb i fs as).length=Cu fs as
 | i,[],as=>by rw [Bb,Cu];rfl
 | i,_::_,[]=>by rw [Bb,Cu];rfl
 | i,f::fs,a::as=>by rw [Fo,Gc,Ou,E9,Zcx (i+1) fs as];rfl
theorem Zdy (a:Tr):(Dd a).length=1+(fp a).length:=by unfold Dd;rw [Ox,F0];omega
theorem J0 (c:Tr):A8 gapT c=(fp c).length:=by unfold A8;rw [Ip rfl,F0]
theorem K5 {f a:Tr}(h:f.wd ≠ "gap")(s:sameB f a):A8 f a=min (Cu f.ps a.ps) (1+(fp a).length):=by
 unfold A8
 rw [Hy h s,<- Zcx 0]
 split
 ·omega
 ·rw [Zdy];omega
theorem Jz {f a:Tr}(h:f.wd ≠ "gap")(s:¬ sameB f a):A8 f a=1+(fp a).length:=by unfold A8;rw [Ke h s,Zdy]
theorem Zcm {f a:Tr}(h:f.wd ≠ "gap"):A8 f a<=1+(fp a).length:=by
 by_cases s:sameB f a
 ·rw [K5 h s];omega
 ·rw [Jz h s];omega
theorem Zcj {t:Tr}(h:TrOk t):A8 t t=0:=by unfold A8;rw [Zd1 t h];rfl
theorem Zfo:∀(gs cs:List Tr),(∀ x∈gs,x=gapT)->gs.length=cs.length->Cu gs cs=fps cs
 | [],[],_,_=>by rw [Cu];rfl
 | [],_::_,_,h=>by cases h
 | _::_,[],_,h=>by cases h
 | g::gs,c::cs,h,hl=>by
  rw [Gc,h g Pl,J0,Zfo gs cs (fun x hx=>h x (Pd _ hx)) (by simpa using hl)]
  rfl
theorem Ze7:∀(ts cs:List Tr)(j:Nat)(t u:Tr),ts[j]?=some t->(∀ c,cs[j]?=some c->A8 t c<=1+A8 u c)->Cu ts cs<=1+Cu (ts.set j u) cs
 | [],cs,j,t,u,h,_=>by simp at h
 | x::ts,[],j,t,u,_,_=>by rw [Cu];omega
 | x::ts,c::cs,0,t,u,h,hc=>by
  have h:x=t:=by simpa using h
  subst h
  rw [U0,Gc,Gc]
  have:=hc c rfl
  omega
 | x::ts,c::cs,j+1,t,u,h,hc=>by
  rw [U1,Gc,Gc]
  have:=Ze7 ts cs j t u (by simpa using h) (fun c' h'=>hc c' (by simpa using h'))
  omega
theorem Zlz {o:Op}{f g:Tr}(h:o.does f g):TrOk g:=by
 cases o with
 | put b=>obtain ⟨_,rfl,_,_,_,ok⟩:=h;exact ok
 | cut=>obtain ⟨_,rfl⟩:=h;exact TrOk.gap
theorem Zpf {a f:Tr}{pl:List Nat}(h:At a pl f):∀{o:Op}{g:Tr},o.does f g->TrOk a->∀{c:Tr},TrOk c->A8 a c<=1+A8 (Bc a pl g) c:=by
 induction h with
 | nil t =>
  intro o g d ok c okc
  rw [Dm]
  cases o with
  | put b =>
   obtain ⟨rfl,rfl,hw,hg,_,okb⟩:=d
   rw [J0]
   by_cases s:sameB g c
   ·have hc:c.wd ≠ "gap" := by rw [<- s.1];exact hw
    rw [K5 hw s,Zfo _ _ hg (Jy okb okc s.1),Zpy hc]
    omega
   ·rw [Jz hw s];omega
  | cut =>
   obtain ⟨hw,rfl⟩:=d
   rw [J0]
   exact Zcm hw
 | @cons w n ts j t u r e _ ih =>
  intro o g d ok c okc
  rw [Ed e]
  have hw:(Tr.mk w n ts).wd ≠ "gap" := fun hw=>by
   have:=Go ok hw
   injection this with _ _ h3
   rw [h3] at e
   simp at e
  have okt:TrOk t:=Ek ok t (Oz e)
  by_cases s:sameB (.mk w n ts) c
  ·have s':sameB (.mk w n (ts.set j (Bc t r g))) c:=s
   rw [K5 hw s,K5 (f:=.mk w n (ts.set j (Bc t r g))) hw s']
   have:=Ze7 ts c.ps j t (Bc t r g) e (fun c' h'=>ih d okt (Ek okc c' (Oz h')))
   show min (Cu ts c.ps) _<=1+min (Cu (ts.set j (Bc t r g)) c.ps) _
   omega
  ·have s':¬ sameB (.mk w n (ts.set j (Bc t r g))) c:=s
   rw [Jz hw s,Jz (f:=.mk w n (ts.set j (Bc t r g))) hw s']
   omega
theorem Zfk {a b:Tr}{r:Rw}(h:Led a r b):TrOk a->∀{c:Tr},TrOk c->A8 a c<=r.length+A8 b c:=by
 induction h with
 | nil t=>intro _ c _;simp
 | cons h d _ ih =>
  intro ok c okc
  have h1:=Zpf h d ok okc
  have h2:=ih (h.okw ok (Zlz d)) okc
  rw [Ox]
  omega
theorem Zh7 {a b c:Tr}(oa:TrOk a)(ob:TrOk b)(oc:TrOk c):A8 a c<=A8 a b+A8 b c:=Zfk (Ob a b oa ob) oa oc
theorem Zik {a b:Tr}{r:Rw}(h:Led a r b)(oa:TrOk a)(ob:TrOk b):A8 a b<=r.length:=by
 have:=Zfk h oa ob
 rw [Zcj ob] at this
 exact this
theorem Zmh {a b:Tr}(oa:TrOk a)(ob:TrOk b):A8 a b=0↔a=b:=by
 constructor
 ·intro h
  have e:B3 a b=[]:=Qw h
  have:=Ob a b oa ob
  rw [e] at this
  cases this
  rfl
 ·intro h
  subst h
  exact Zcj oa
theorem Zk1 (a c:Tr)(oa:TrOk a):A8 a c<=(fp c).length+(if a.wd = "gap" then 0 else 1):=by
 by_cases h:a.wd = "gap"
 ·rw [if_pos h,Go oa h,J0]
  exact Ol _
 ·rw [if_neg h]
  have:=Zcm (a:=c) h
  omega
end K28
namespace K28
open PySem L2 K10 K19
section
variable {P:Program}{w:World}{K:Og}{mg:Str->Option Value}{base:Heap}
noncomputable def SameD (H H':Hp):Prop:=∀ b o,H b=some o->(∀ kvs,o≠.dT kvs)->H' b=some o
theorem _root_.L2.Same.d {H H':Hp}(e:Same H H'):SameD H H':=fun b o h _=>e b o h
theorem SameD.refl (H:Hp):SameD H H:=fun _ _ h _=>h
theorem SameD.trans {H H1 H2:Hp}(a:SameD H H1)(b:SameD H1 H2):SameD H H2:=fun c o h n=>b c o (a c o h n) n
theorem SameD.t {H H':Hp}(e:SameD H H'):SameT H H':=fun b=>⟨fun xs h=>e b _ h (fun _ z=>nomatch z),fun o u h=>e b _ h (fun _ z=>nomatch z)⟩
theorem SameD.set {H:Hp}{d:Addr}{kvs:List (List Ap×V)}{o:HO}(h:H d=some (.dT kvs)):SameD H (upd H d o):=fun b o' e n=>by
 have hb:b≠d:=fun z=>by rw [z,h] at e;exact n kvs (Ov e).symm
 rw [Ah hb];exact e
noncomputable def SameI (H H':Hp):Prop:=∀ b o,H b=some o->(∀ kvs,o≠.dT kvs)->(∀ xs,o≠.lst xs)->H' b=some o
theorem SameD.i {H H':Hp}(e:SameD H H'):SameI H H':=fun b o h n _=>e b o h n
theorem _root_.L2.Same.i {H H':Hp}(e:Same H H'):SameI H H':=e.d.i
theorem SameI.trans {H H1 H2:Hp}(a:SameI H H1)(b:SameI H1 H2):SameI H H2:=fun c o h n m=>b c o (a c o h n m) n m
theorem SameI.t {H H':Hp}(e:SameI H H'):SameT H H':=fun b=>⟨fun xs h=>e b _ h (fun _ z=>nomatch z) (fun _ z=>nomatch z),fun o u h=>e b _ h (fun _ z=>nomatch z) (fun _ z=>nomatch z)⟩
theorem SameI.set {H:Hp}{d:Addr}{ys:List V}{o:HO}(h:H d=some (.lst ys)):SameI H (upd H d o):=fun b o' e _ n=>by
 have hb:b≠d:=fun z=>by rw [z,h] at e;exact n ys (Ov e).symm
 rw [Ah hb];exact e
structure Cs where
 p:Addr
 c:Addr
noncomputable def Op.cls (c:Cs):Op->Addr
 | .put _=>c.p
 | .cut=>c.c
noncomputable def OpAt (K:Og)(c:Cs)(H:Hp)(x:V):Op->Prop
 | .put t=>∃ a dx v,x=.ref a/\H a=some (.ins c.p dx [("form",v)])/\TrAt K H v t
 | .cut=>∃ a dx,x=.ref a/\H a=some (.ins c.c dx [])
theorem OpAt.same {K:Og}{c:Cs}{H H':Hp}{x:V}{o:Op}(h:OpAt K c H x o)(e:SameI H H'):OpAt K c H' x o:=by
 cases o with
 | put t =>
  obtain ⟨a,dx,v,h1,h2,h3⟩:=h
  exact ⟨a,dx,v,h1,e _ _ h2 (fun _ z=>nomatch z) (fun _ z=>nomatch z),h3.sameT e.t⟩
 | cut =>
  obtain ⟨a,dx,h1,h2⟩:=h
  exact ⟨a,dx,h1,e _ _ h2 (fun _ z=>nomatch z) (fun _ z=>nomatch z)⟩
noncomputable def DoAt (K:Og)(c:Cs)(H:Hp)(v:V)(x:List Nat×Op):Prop:=∃(a q:Addr)(y:V),v=.ref a/\SqT K H a [.ref q,y]/\SqT K H q (Ay x.1)/\OpAt K c H y x.2
theorem DoAt.same {K:Og}{c:Cs}{H H':Hp}(e:SameI H H')(v:V)(x:List Nat×Op)(h:DoAt K c H v x):DoAt K c H' v x:=by
 obtain ⟨a,q,y,h1,h2,h3,h4⟩:=h
 exact ⟨a,q,y,h1,e.t.tup h2,e.t.tup h3,h4.same e⟩
noncomputable def DosAt (K:Og)(c:Cs)(H:Hp)(p:Addr)(r:Rw):Prop:=∃ vs,H p=some (.lst vs)/\Al (DoAt K c H) vs r
theorem DosAt.same {K:Og}{c:Cs}{H H':Hp}{p:Addr}{r:Rw}(e:SameD H H')(h:DosAt K c H p r):DosAt K c H' p r:=by
 obtain ⟨vs,h1,h2⟩:=h
 exact ⟨vs,e _ _ h1 (fun _ z=>nomatch z),h2.mono (DoAt.same e.i)⟩
structure Own (K:Og)(mg:Str->Option Value)(x:Str)(C:Addr):Prop where
 cl:Cls K C
 at_:mg x=some (.ref C)
 nf:NoAttr K C "form"
 ca:Ph K (.ref C) "__class__" = some (some (.builtin "object.__class__"))
 cg:U5 K (.builtin "object.__class__") "__get__" = some (some (.builtin "getset_descriptor.__get__"))
 ct:Vh K (.builtin "object.__class__")=some true
 cm:PySem.W.mroIn K C (.type "object")=some true
theorem Zb0 {K:Og}{H:Hp}{v:V}{t:Tr}(h:TrAt K H v t):∃(a p:Addr)(n:V),v=.ref a/\SqT K H a [.str t.wd,n,.ref p]:=by
 cases h with
 | mk q hn qp l hs=>exact ⟨_,_,_,rfl,q⟩
structure N3 (K:Og)(ag:Addr):Prop where
 at_:∀ H,TrAt K H (.ref ag) gapT
noncomputable def SameB (a:Addr)(H H':Hp):Prop:=∀ b o,b≠a->H b=some o->H' b=some o
theorem SameB.made {x dx C:Addr}{fs:List (Str×V)}{H H':Hp}(e:SameB x (upd (upd H dx (.own x)) x (.ins C dx fs)) H')(h1:H x=none)(h2:H dx=none):Same H H':=fun b o h=>by
 have hx:b≠x:=fun z=>by rw [z,h1] at h;cases h
 have hd:b≠dx:=fun z=>by rw [z,h2] at h;cases h
 exact e b o hx (by rw [Ah hx,Ah hd];exact h)
theorem _root_.L2.Same.made {H:Hp}{x dx C:Addr}{fs:List (Str×V)}(h1:H x=none)(h2:H dx=none)(h3:dx≠x):Same H (upd (upd H dx (.own x)) x (.ins C dx fs)) :=
 (Same.upd h2).trans (Same.upd (by rw [Ah h3.symm];exact h1))
theorem Zj4 {H:Hp}{a C dx:Addr}{fs:List (Str×V)}(ha:H a=some (.ins C dx fs))(o:HO):SameT H (upd H a o):=fun b=>⟨fun xs h=>by
 have:b≠a:=fun z=>by rw [z,ha] at h;cases h
 rw [Ah this];exact h,fun o u h=>by
 have:b≠a:=fun z=>by rw [z,ha] at h;cases h
 rw [Ah this];exact h⟩
end
theorem Zkx {α:Type}{xs:List α}{i:Int}{x:α}(j:Nat)(hj:(j:Int)=i)(h:xs[j]?=some x):Bm xs i=some x:=by
 have hl:=(O6.mp h).1
 subst hj
 unfold Bm Da
 rw [if_pos (by omega),if_pos (by omega)]
 simpa using h
theorem Zgi {pl:List Nat}{i:Nat}{v:V}(h:(Ay pl)[i]?=some v):∃ k,v=.int (k:Nat)/\pl[i]?=some k:=by
 unfold Ay at h
 rw [Qq] at h
 cases e:pl[i]? with
 | none=>rw [e] at h;cases h
 | some x=>rw [e] at h;exact ⟨x,(Ov h).symm,rfl⟩
theorem Gq (pl:List Nat):(Ay pl).length=pl.length:=by unfold Ay;simp
theorem Zih {α:Type}{xs:List α}{k:Nat}{x:α}(h:k < xs.length):xs.take k++[x]++xs.drop (k+1)=xs.set k x:=by
 rw [List.set_eq_take_append_cons_drop,if_pos h,Pp]
 rfl
section
variable {P:Program}{w:World}{K:Og}{mg:Str->Option Value}{base:Heap}
noncomputable def Zbe (K:Og):Sp:=fun vs H Q _=>∃(v:V)(t:Tr),vs=[v]/\TrAt K H v t/\t.size<=2000/\∀(p:Addr)(rows:List V)(H':Hp),Same H H'->H p=none->H' p=some (.lst rows)->Al (RowT K H') rows (walk [] t)->Q (.ref p) H'
theorem sc_placed_forms:A1 ["tree", "told", "waiting", "pair", "number", "part"] ["tree"] (An Hc):=by walk_at "sc"
noncomputable def PlJ (K:Og)(H:Hp)(v:V)(t:Tr)(pt pw:Addr)(m:Nat)(σ:St)(H':Hp):Prop:=∃(v3 v4 v5:Option V)(tv wv:List V)(dn st:List (List Nat×Tr)),σ=[some v,some (.ref pt),some (.ref pw),v3,v4,v5]/\H' pt=some (.lst tv)/\H' pw=some (.lst wv) /\
 Al (RowT K H') tv dn/\Al (RowT K H') wv st/\dn++Dn st=walk [] t/\m=load st/\Same H H'
theorem Zl4 {f:Addr}{fd:FuncData}(F:Fun K "placed_forms" "placed_forms" Hc f fd)(T:Txt K mg):Ar P w K mg base As 1 f fd ["tree"] (Zbe K):=by
 refine F.okq sc_placed_forms (fun vs H Q E h=>?_) (fun cdv A outer s H vs Q E hr h=>?_)
 ·obtain ⟨v,t,rfl,_⟩:=h
  rfl
 ·obtain ⟨v,t,rfl,ht,hz,q⟩:=h
  refine ⟨_,Ae (Aw 1 sc_placed_forms (B0 Ab))
   (Ae (Aw 2 sc_placed_forms (B0 (Aa (Az (Aa (Az Ab) (Aa (qv 0) Ab))) Ab)))
   (Ae (J9 O8 (Zcv K (qv 2) (by intro _;rfl)) (Ae (Aw 3 sc_placed_forms (Gm K Pg Rp Rq Gk (qv 2)))
   (Ae (Eu (Dr K Pg Qy Qz El (qv 1) (Aa (qv 3) Ab)))
   (Af (Cj O8 rfl (Lf K rfl T.reversed (Aa (Zkw K (by rfl) T.list (by rfl) T.enumerate (Aa (Ak K (Ak K (qv 3) Ac) Ac) Ab)) Ab)) (Eg K (n:=2) rfl (Bt (Ax (i:=4) sc_placed_forms.nd rfl (Or.inl rfl)) (Bt (Ax (i:=5) sc_placed_forms.nd rfl (Or.inl rfl)) (D6)))) (Af (Eu (Dr K Pg Qy Qz El (qv 2) (Aa (Az (Aa (Aq (Zam K) (Ak K (qv 3) Ac) (Az (Aa (qv 4) Ab))) (Aa (qv 5) Ab))) Ab)))))))))
   (Af (Aj (qv 1))))),?_⟩
  have bg:=big
  walk_at "r"
  refine ⟨C1,fun pt hpt=>?_⟩
  walk_at "r"
  refine ⟨C1,fun p0 hp0=>?_⟩
  walk_at "r"
  refine ⟨B4,fun p1 hp1=>?_⟩
  walk_at "r"
  refine ⟨Dy,fun pw hpw=>?_⟩
  walk_at "r"
  have s0:Same (upd H pt (.lst [])) _:=((Same.upd (o:=.tup []) hp0).put (o:=.tup [.ref p0,v]) hp1).put (o:=.lst [.ref p1]) hpw
  have s1:Same (upd (upd H pt (.lst [])) p0 (.tup [])) _:=(Same.upd (o:=.tup [.ref p0,v]) hp1).put (o:=.lst [.ref p1]) hpw
  have s2:=Same.upd (o:=.lst [.ref p1]) hpw
  have sH:=(Same.upd (o:=.lst []) hpt).trans s0
  have ept:=s0 pt _ Ad
  have epw:upd (upd (upd (upd H pt (.lst [])) p0 (.tup [])) p1 (.tup [.ref p0,v])) pw (.lst [.ref p1]) pw=some (.lst [.ref p1]):=Ad
  have ep0:=s1 p0 _ Ad
  have ep1:=s2 p1 _ Ad
  have npw:pt≠pw:=fun z=>by rw [z] at ept;rw [Ad] at ept;cases ept
  have hpw0:H pw=none:=((Same.upd (o:=.lst []) hpt).trans ((Same.upd (o:=.tup []) hp0).put (o:=.tup [.ref p0,v]) hp1)).free hpw
  refine ⟨PlJ K H v t pt pw,⟨_,none,none,none,[],[.ref p1],[],[([],t)],rfl,ept,epw,.nil,Al.nil.snoc ⟨p1,p0,v,rfl,SqT.of ep1,ep0,ht.same sH⟩,by simp [Dn],rfl,sH⟩,?_⟩
  rintro m σ' H' ⟨v3,v4,v5,tv,wv,dn,st,rfl,et,ew,al1,al2,hw,rfl,sm⟩
  have hdl:dn.length+load st=t.size:=by
   have:=congrArg R7 hw
   rw [Ou,D5] at this
   exact this
  have htl:tv.length=dn.length:=al1.1
  walk_at "r"
  refine Zcu (SqL.of ew) ?_
  by_cases hwv:wv=[]
  ·subst hwv
   have hst:st=[]:=Qw al2.1.symm
   subst hst
   refine iteF ?_
   walk_at "r"
   rw [Zen,Pt] at hw
   rw [hw] at al1
   exact q pt tv H' sm hpt et al1
  obtain ⟨wv',tp,st',x,rfl,rfl,al3,hrow⟩:=al2.last hwv
  have hne:(!(wv'++[tp]).isEmpty)=true:=by simp
  rw [hne]
  refine iteT ?_
  obtain ⟨pl,tx⟩:=x
  have hx:(pl,tx)∈walk [] t:=by rw [<- hw,Jj];simp
  have hpl:pl.length<=2000:=by have:=M8 [] t _ hx;simp at this;omega
  have hload:=Zbo st' (pl,tx)
  have hll:=Zer (st'++(A9 pl 0 tx.ps).reverse)
  refine ⟨fun σ2 H2=>∃ m',m' < load (st'++[(pl,tx)])/\PlJ K H v t pt pw m' σ2 H2,fun _ _ h=>h,?_⟩
  walk_at "r"
  refine Cq (SqL.of ew) ?_
  refine Gz ew ?_
  have t1:SameT H' (upd H' pw (.lst wv')):=SameT.set ew
  have et2:upd H' pw (.lst wv') pt=some (.lst tv):=by rw [Ah npw];exact et
  walk_at "r"
  refine Cq (SqL.of et2) ?_
  walk_at "r"
  refine Fk et2 (by omega) ?_
  have t2:SameT H' (upd (upd H' pw (.lst wv')) pt (.lst (tv++[tp]))):=t1.trans (SameT.set et2)
  have et3:upd (upd H' pw (.lst wv')) pt (.lst (tv++[tp])) pt=some (.lst (tv++[tp])):=Ad
  have ew3:upd (upd H' pw (.lst wv')) pt (.lst (tv++[tp])) pw=some (.lst wv'):=by rw [Ah npw.symm,Ad]
  have sm3:Same H (upd (upd H' pw (.lst wv')) pt (.lst (tv++[tp]))):=(sm.over hpw0).over hpt
  revert t2 et3 ew3 sm3
  generalize upd (upd H' pw (.lst wv')) pt (.lst (tv++[tp]))=H3
  intro t2 et3 ew3 sm3
  have hrow3:=RowT.same t2 _ _ hrow
  obtain ⟨a,p,u,rfl,qa,qp,hu⟩:=id hrow3
  cases hu with
  | @mk b pp wd nv n vs ts qb hn qpp hl hch =>
  walk_at "r"
  refine A6 qa rfl ?_
  walk_at "r"
  refine A6 qb rfl ?_
  walk_at "r"
  refine ⟨pp,vs,rfl,qpp,fun S ys H4 hS s4 hl4 hpairs hS4=>?_⟩
  walk_at "r"
  refine ⟨S,ys,rfl,SqL.of hS4,?_⟩
  have nSp:pw≠S:=Bf ew3 hS
  have nSt:pt≠S:=Bf et3 hS
  have al4:Al (RowT K H4) wv' st':=al3.mono (RowT.same (t2.trans s4.t))
  have hkl:(A9 pl 0 ts).length=ys.length:=by rw [Lp];omega
  refine Lu (K:=K) (a:=S) (xs:=ys) (fun j σ5 H5=>∃(v4 v5:Option V)(wv5:List V),σ5=[some v,some (.ref pt),some (.ref pw),some (.ref a),v4,v5]/\H5 pt=some (.lst (tv++[.ref a]))/\H5 pw=some (.lst wv5)/\H5 S=some (.lst ys)/\Al (RowT K H5) wv5 (st'++((A9 pl 0 ts).drop (ys.length - j)).reverse)/\SameT H4 H5/\Same H H5)
   ⟨_,_,wv',rfl,s4 _ _ et3,s4 _ _ ew3,hS4,by rw [R5,Q7 (by omega)];simpa using al4,SameT.refl _,sm3.trans s4⟩ ?_ ?_ ?_
  ·rintro j σ5 H5 _ ⟨_,_,_,_,_,_,e,_⟩
   exact SqL.of e
  ·rintro i y σ5 H5 hi hy ⟨v4',v5',wv5,rfl,e5t,e5w,e5s,al5,t5,sm5⟩
   obtain ⟨tt,xw,rfl,hxw,htt⟩:=hpairs _ _ hy
   have htt5:=(t5 tt).1 _ htt
   walk_at "r"
   refine En (SqT.of htt5) rfl ?_
   walk_at "r"
   refine Cq (SqL.of e5w) ?_
   walk_at "r"
   have T5:SameT H3 H5:=s4.t.trans t5
   refine A6 (T5.tup qa) rfl ?_
   walk_at "r"
   refine ⟨Dy,fun p6 h6=>?_⟩
   refine L4 (((T5.trans (SameT.new h6)) p).1 _ qp) Ad (by show (Ay pl).length+1<=sizeLine;unfold Ay;rw [O1];omega) fun r H7 s7 q7=>?_
   walk_at "r"
   refine ⟨B4,fun p7 h7=>?_⟩
   walk_at "r"
   have s57:Same H5 H7:=(Same.upd h6).trans s7
   have s58:=s57.put (o:=.tup [.ref r,xw]) h7
   have hlw:wv5.length=st'.length+((A9 pl 0 ts).drop (ys.length - i)).length:=by have:=al5.1;simp at this ⊢;omega
   have hlk:(st'++(A9 pl 0 ts).reverse).length=st'.length+ys.length:=by rw [Ou,Tk,hkl]
   have hll':(st'++(A9 pl 0 ts).reverse).length<=2000:=by
    have h1:load (st'++(A9 pl 0 (Tr.mk wd n ts).ps).reverse) < load (st'++[(pl,Tr.mk wd n ts)]):=hload
    have h2:(st'++(A9 pl 0 (Tr.mk wd n ts).ps).reverse).length<=load (st'++(A9 pl 0 (Tr.mk wd n ts).ps).reverse):=hll
    have h3:(Tr.mk wd n ts).ps=ts:=rfl
    rw [h3] at h1 h2
    omega
   have hdr:((A9 pl 0 ts).drop (ys.length - i)).length<=ys.length:=by rw [Sj];omega
   refine Fk (s58 _ _ e5w) (by omega) ?_
   have e8w:=s58 _ _ e5w
   have t9:SameT H5 (upd (upd H7 p7 (.tup [.ref r,xw])) pw (.lst (wv5++[.ref p7]))):=s58.t.trans (SameT.set e8w)
   obtain ⟨tk,htk,hat⟩:∃ tk,ts[ys.length - 1 - i]?=some tk/\TrAt K H3 xw tk:=by
    have hj:=(O6.mp hxw).1
    have hj':ys.length - 1 - i < ts.length:=by omega
    exact ⟨_,Oi hj',hch _ _ _ hxw (Oi hj')⟩
   have hkid:(A9 pl 0 ts)[ys.length - 1 - i]?=some (pl++[ys.length - 1 - i],tk):=by
    rw [Nv,htk]
    simp
   refine ⟨_,_,wv5++[.ref p7],rfl,?_,Ad,?_,?_,t5.trans t9,(sm5.trans s58).over hpw0⟩
   ·rw [Ah npw];exact s58 _ _ e5t
   ·rw [Ah nSp.symm];exact s58 _ _ e5s
   ·rw [Zfw hkl hi hkid,<- Pp]
    refine (al5.mono (RowT.same t9)).snoc ⟨p7,r,xw,rfl,(SameT.set e8w).tup (SqT.of Ad),?_,hat.sameT (T5.trans t9)⟩
    have q9:=(((SameT.new (o:=.tup [.ref r,xw]) h7).trans (SameT.set (o:=.lst (wv5++[.ref p7])) e8w)) r).1 _ q7
    have e:Ay (pl++[ys.length - 1 - i])=Ay pl++[.int ((ys.length - 1 - i:Nat):Int)]:=by unfold Ay;rw [Pm];rfl
    show upd _ _ _ r=some (.tup (Ay (pl++[ys.length - 1 - i])))
    rw [e]
    exact q9
  ·rintro σ5 H5 ⟨v4',v5',wv5,rfl,e5t,e5w,e5s,al5,t5,sm5⟩
   rw [Rh,R0] at al5
   refine ⟨_,hload,_,_,_,tv++[.ref a],wv5,dn++[(pl,.mk wd n ts)],_,rfl,e5t,e5w,?_,al5,?_,rfl,sm5⟩
   ·exact (al1.mono (RowT.same (t2.trans (s4.t.trans t5)))).snoc (RowT.same (s4.t.trans t5) _ _ hrow3)
   ·rw [<- hw,Jj,Pp]
    rfl
noncomputable def Zfq (K:Og):Sp:=fun vs H Q _=>∃(s:Str)(n:Nat),vs=[.str s]/\Has K H (.str s)/\B6 s=some n/\Q (.int (n:Nat)) H
theorem Zkm:A1 ["word"] ["word"] (An Jn):=by walk_at "sc"
theorem Zml {f:Addr}{fd:FuncData}(F:Fun K "many_parts" "many_parts" Jn f fd)(T:Txt K mg)(G:Gs P w K mg)(C_is_word:Ao P w K mg base 1 "is_word" ["thing"] (Ze4 K)):Ar P w K mg base As 2 f fd ["word"] (Zfq K):=by
 refine F.okq Zkm (fun vs H Q E h=>?_) (fun cdv A outer s H vs Q E hr h=>?_)
 ·obtain ⟨s,n,rfl,_⟩:=h
  rfl
 ·obtain ⟨t,n,rfl,hv,hn,q⟩:=h
  obtain ⟨ap,G_PARTS_OF_WORDS,hp⟩:=G.pw
  refine ⟨_,Ae (A2 (Ei (Dz (Ai C_is_word hr.m (Aa (qv 0) Ab)))) (Af Nb) A3)
   (Af (Aj (Kd (Zix P w K) (Ft G_PARTS_OF_WORDS) (qv 0) (fun _ _=>rfl)))),?_⟩
  walk_at "r"
  refine ⟨_,rfl,hv,?_⟩
  have hw:Zav (.str t)=true:=by show (B6 t).isSome=true;rw [hn];rfl
  rw [hw]
  walk_at "r"
  refine ⟨ap,Hf,t,.int (n:Nat),rfl,rfl,hp,by rw [Zel,hn];rfl,?_⟩
  exact q
theorem Zmq {s:Str}{n:Nat}(h:B6 s=some n):n<=3:=by
 have all:PN.all (fun p=>decide (p.2<=3))=true:=by decide +kernel
 unfold B6 at h
 have gen:∀ ps:List (Str×Nat),ps.all (fun p=>decide (p.2<=3))=true->ps.lookup s=some n->n<=3:=by
  intro ps
  induction ps with
  | nil=>intro _ h;cases h
  | cons p r ih =>
   intro ha h
   rw [Rg,Pa] at ha
   rw [P7] at h
   split at h
   ·cases h;exact of_decide_eq_true ha.1
   ·exact ih ha.2 h
 exact gen PN all h
noncomputable def BareAt (K:Og)(ag:Addr)(H:Hp)(r:Addr)(s:Str)(nv:V)(n:Nat):Prop:=∃ pp,SqT K H r [.str s,nv,.ref pp]/\SqT K H pp (Oo n (.ref ag))
theorem BareAt.same {K:Og}{ag:Addr}{H H':Hp}{r:Addr}{s:Str}{nv:V}{n:Nat}(h:BareAt K ag H r s nv n)(e:SameT H H'):BareAt K ag H' r s nv n:=by
 obtain ⟨pp,h1,h2⟩:=h
 exact ⟨pp,e.tup h1,e.tup h2⟩
theorem BareAt.tr {K:Og}{ag:Addr}{H:Hp}{r:Addr}{s:Str}{nv:V}{n:Nat}{d:Dt}(GA:N3 K ag)(h:BareAt K ag H r s nv n)(hn:IsN K H nv d):TrAt K H (.ref r) (.mk s d (Oo n gapT)):=by
 obtain ⟨pp,h1,h2⟩:=h
 refine .mk h1 hn h2 (by simp) fun j v t e1 e2=>?_
 rw [Ql (Oz e1),Ql (Oz e2)]
 exact GA.at_ H
theorem Zkb (n:Nat)(x:V):(Oo n [x]).flatten=Oo n x:=by
 induction n with
 | zero=>rfl
 | succ n ih=>rw [Qe,Sh,ih,Qe];rfl
noncomputable def Zch (K:Og)(ag:Addr):Sp:=fun vs H Q _=>∃(s:Str)(nv:V)(nt:Nt)(n:Nat),vs=[.str s,nv]/\Has K H (.str s)/\NtAt K H nv nt/\B6 s=some n/\B7 s nt=true/\∀(r:Addr)(H':Hp),Same H H'->BareAt K ag H' r s nv n->Q (.ref r) H'
theorem Zf1:A1 ["word", "note", "many"] ["word", "note"] (An Jh):=by walk_at "sc"
theorem Zn2 {ag:Addr}{f:Addr}{fd:FuncData}(F:Fun K "bare" "bare" Jh f fd)(T:Txt K mg)(G_GAP:Et mg "GAP" (.ref ag))(C_many_parts:Ao P w K mg base 2 "many_parts" ["word"] (Zfq K))(C_is_note:Ao P w K mg base 3 "is_note" ["word", "note"] (Ze1 K)):Ar P w K mg base As 4 f fd ["word", "note"] (Zch K ag):=by
 refine F.okq Zf1 (fun vs H Q E h=>?_) (fun cdv A outer s H vs Q E hr h=>?_)
 ·obtain ⟨v,nv,nt,n,rfl,_⟩:=h
  rfl
 ·obtain ⟨s,nv,nt,n,rfl,hv,hn,hp,hb,q⟩:=h
  refine ⟨_,Ae (Aw 2 Zf1 (Ai C_many_parts hr.m (Aa (qv 0) Ab)))
   (Ae (A2 (Ei (Dz (Ai C_is_note hr.m (Aa (qv 0) (Aa (qv 1) Ab))))) (Af Nb) A3)
   (Af (Aj (Az (Aa (qv 0) (Aa (qv 1) (Aa (Aq (Zge K) (Az (Aa (Ft G_GAP) Ab)) (qv 2)) Ab))))))),?_⟩
  have n3:=Zmq hp
  walk_at "r"
  refine ⟨s,n,rfl,hv,hp,?_⟩
  walk_at "r"
  refine ⟨s,nv,nt,rfl,hn,fun H1 s1=>?_⟩
  rw [hb]
  walk_at "r"
  refine ⟨Dy,fun p1 hp1=>?_⟩
  have s2:=Same.upd (o:=.tup [.ref ag]) hp1
  walk_at "r"
  refine Znb (xs:=[.ref ag]) (SqT.of Ad) (by simp) (by omega) (by omega) (by show ((1:Nat):Int) * (n:Int)<=1000;omega) fun r1 H3 s3 q3=>?_
  walk_at "r"
  refine ⟨Cd,fun r hr3=>?_⟩
  have s4:=Same.upd (o:=.tup [.str s,nv,.ref r1]) hr3
  refine q r _ (s1.trans (s2.trans (s3.trans s4))) ⟨r1,SqT.of Ad,?_⟩
  have:=s4.tup q3
  rw [show ((n:Nat):Int).toNat=n from by simp,Zkb] at this
  exact this
noncomputable def Nu (K:Og)(c:Cs)(ag:Addr):Sp:=fun vs H Q _=>∃(a dx:Addr)(s:Str)(nv:V)(nt:Nt)(n:Nat),vs=[.ref a,.str s,nv]/\H a=some (.ins c.p dx [])/\Has K H (.str s)/\NtAt K H nv nt/\B6 s=some n/\B7 s nt=true/\s ≠ "gap" /\
 ∀(r:Addr)(H':Hp),SameB a H H'->H' a=some (.ins c.p dx [("form",.ref r)])->BareAt K ag H' r s nv n->Q .non H'
theorem Zhj:A1 ["self", "word", "note"] ["self", "word", "note"] (An C6):=by walk_at "sc"
theorem Zgh {c:Cs}{ag:Addr}{TD:Addr}{f:Addr}{fd:FuncData}(F:FunD K "__init__" "Put.__init__" C6 TD f fd)(T:Txt K mg)(O:Own K mg "Put" c.p)(C_bare:Ao P w K mg base 4 "bare" ["word", "note"] (Zch K ag)):Ar P w K mg base (CXR P w) 5 f fd ["self", "word", "note"] (Nu K c ag):=by
 refine F.okx Zhj (fun vs H Q E h=>?_) (fun cdv A outer s H vs Q E hr h=>?_)
 ·obtain ⟨a,dx,s,nv,nt,n,rfl,_⟩:=h
  rfl
 ·obtain ⟨a,dx,z,nv,nt,n,rfl,ha,hv,hn,hp,hb,hw,q⟩:=h
  refine ⟨_,Ae (Zp3 K (qv 0) (Ai C_bare hr.m (Aa (qv 1) (Aa (qv 2) Ab))))
   (Af (A2 (A0 (Bv K hr.u200) (qv 1) Au (Av _)) (Af Nb) A3)),?_⟩
  walk_at "r"
  refine ⟨_,rfl,_,rfl,?_⟩
  refine ⟨z,nv,nt,n,rfl,hv,hn,hp,hb,fun r H1 s1 hr1=>?_⟩
  refine ⟨_,rfl,a,c.p,dx,[],rfl,s1 _ _ ha,O.cl,O.nf,by simp,?_⟩
  have st:=Zj4 (s1 _ _ ha) (.ins c.p dx (Cc "form" (.ref r) []))
  walk_at "r"
  rw [decide_eq_false (fun h=>hw (V.str.inj h))]
  walk_at "r"
  exact q r _ (fun b o hb h=>by rw [Ah hb];exact s1 b o h) Ad (hr1.same st)
theorem Zcb {wd:Str}{nt nt':Nt}(h:B7 wd nt=true)(h':B7 wd nt'=true):(∃ s s':Str,nt=.fl (.str s)/\nt'=.fl (.str s'))\/(∃ i i':Int,nt=.fl (.int i)/\nt'=.fl (.int i'))\/(∃ b b':Bool,nt=.fl (.bl b)/\nt'=.fl (.bl b'))\/(nt=.fl .non/\nt'=.fl .non)\/∃ a b a' b':Str,nt=.tp [.str a,.str b]/\nt'=.tp [.str a',.str b']:=by
 have nm:∀ n:Nt,Kh n=true->∃ s:Str,n=.fl (.str s):=fun n h=>by
  cases n with
  | fl v=>cases v <;> first | exact ⟨_,rfl⟩ | cases h
  | _=>cases h
 have od:∀ n:Nt,Kt n=true->∃ s:Str,n=.fl (.str s):=fun n h=>by
  cases n with
  | fl v=>cases v <;> first | exact ⟨_,rfl⟩ | cases h
  | _=>cases h
 have nu:∀ n:Nt,Gr n=true->∃ i:Int,n=.fl (.int i):=fun n h=>by
  cases n with
  | fl v=>cases v <;> first | exact ⟨_,rfl⟩ | cases h
  | _=>cases h
 have tr:∀ n:Nt,K6 n=true->∃ b:Bool,n=.fl (.bl b):=fun n h=>by
  cases n with
  | fl v=>cases v <;> first | exact ⟨_,rfl⟩ | cases h
  | _=>cases h
 have tw:∀ n:Nt,twoN n=true->∃ a b:Str,n=.tp [.str a,.str b]:=fun n h=>by
  unfold twoN at h
  split at h
  ·rename_i x y
   rw [Pa] at h
   cases x <;> first | (cases h.1;done) | skip
   cases y <;> first | (cases h.2;done) | skip
   exact ⟨_,_,rfl⟩
  ·cases h
 unfold B7 at h h'
 split at h
 ·rename_i e;rw [if_pos e] at h';obtain ⟨s,e1⟩:=od _ h;obtain ⟨s',e2⟩:=od _ h';exact .inl ⟨s,s',e1,e2⟩
 rename_i g1;rw [if_neg g1] at h'
 split at h
 ·rename_i e;rw [if_pos e] at h';obtain ⟨s,e1⟩:=nu _ h;obtain ⟨s',e2⟩:=nu _ h';exact .inr (.inl ⟨s,s',e1,e2⟩)
 rename_i g2;rw [if_neg g2] at h'
 split at h
 ·rename_i e;rw [if_pos e] at h';obtain ⟨s,e1⟩:=tr _ h;obtain ⟨s',e2⟩:=tr _ h';exact .inr (.inr (.inl ⟨s,s',e1,e2⟩))
 rename_i g3;rw [if_neg g3] at h'
 split at h
 ·rename_i e;rw [if_pos e] at h';obtain ⟨s,e1⟩:=nm _ h;obtain ⟨s',e2⟩:=nm _ h';exact .inl ⟨s,s',e1,e2⟩
 rename_i g4;rw [if_neg g4] at h'
 split at h
 ·rename_i e;rw [if_pos e] at h';obtain ⟨a,b,e1⟩:=tw _ h;obtain ⟨a',b',e2⟩:=tw _ h';exact .inr (.inr (.inr (.inr ⟨a,b,a',b',e1,e2⟩)))
 rename_i g5;rw [if_neg g5] at h'
 exact .inr (.inr (.inr (.inl ⟨Ln h,Ln h'⟩)))
theorem Fa {K:Og}{H:Hp}{v x:V}{d:Dt}(h:IsN K H v d)(hd:Dx d (.fl x)):v=x/\d=.flat x:=by
 cases hd with
 | fl _ =>
  rcases h with ⟨_,e⟩ | ⟨a,vs,_,_,_,e⟩
  ·injection e with e;exact ⟨e.symm,rfl⟩
  ·cases e
theorem Zeu {K:Og}{H:Hp}{v:V}{xs:List V}{d:Dt}(h:IsN K H v d)(hd:Dx d (.tp xs)):(∃ a,v=.ref a)/\d=.tup (xs.map .flat):=by
 cases hd with
 | tp _ =>
  rcases h with ⟨_,e⟩ | ⟨a,vs,h1,_,_,e⟩
  ·cases e
  ·exact ⟨⟨a,h1⟩,rfl⟩
noncomputable def Na (K:Og):Sp:=fun vs H Q _=>∃ v u f a,vs=[v,u]/\TrAt K H v f/\TrAt K H u a/\TrOk f/\TrOk a/\∀ b:Bool,(b=true↔sameB f a)->Q (.bl b) H
theorem Zmz:A1 ["form", "other"] ["form", "other"] (An Jr):=by walk_at "sc"
theorem Zk2 {f:Addr}{fd:FuncData}(F:Fun K "same_top" "same_top" Jr f fd)(T:Txt K mg):Ar P w K mg base As 1 f fd ["form", "other"] (Na K):=by
 refine F.okq Zmz (fun vs H Q E h=>?_) (fun cdv A outer s H vs Q E hr h=>?_)
 ·obtain ⟨v,u,f,a,rfl,_⟩:=h
  rfl
 ·obtain ⟨v,u,f,a,rfl,hf,ha,of,oa,q⟩:=h
  refine ⟨_,Af (Aj (Dl (Bx (Za9 K hr.u200) (Ak K (qv 0) Ac) (Ak K (qv 1) Ac) (Av _)) (D0 (Bx (Za9 K hr.u200) (Ak K (qv 0) Ac) (Ak K (qv 1) Ac) (Av _))))),?_⟩
  cases hf with
  | @mk b1 p1 w1 n1 d1 us1 ts1 qb1 hn1 qp1 l1 hc1 =>
  cases ha with
  | @mk b2 p2 w2 n2 d2 us2 ts2 qb2 hn2 qp2 l2 hc2 =>
  walk_at "r"
  refine A6 qb1 rfl ?_
  walk_at "r"
  refine A6 qb2 rfl ?_
  walk_at "r"
  by_cases hw:w1=w2
  ·subst hw
   rw [decide_eq_true (Eq.refl _)]
   walk_at "r"
   refine A6 qb1 rfl ?_
   walk_at "r"
   refine A6 qb2 rfl ?_
   have same:∀ b:Bool,(b=true↔d1=d2)->Q (.bl b) H:=fun b hb=>q b (hb.trans ⟨fun e=>⟨rfl,e⟩,fun e=>e.2⟩)
   cases of with
   | mk _ hd1 hb1 _ =>
   cases oa with
   | mk _ hd2 hb2 _ =>
   obtain ⟨s1,s2,rfl,rfl⟩ | ⟨s1,s2,rfl,rfl⟩ | ⟨s1,s2,rfl,rfl⟩ | ⟨rfl,rfl⟩ | ⟨a1,a2,a3,a4,rfl,rfl⟩:=Zcb hb1 hb2
   ·obtain ⟨rfl,rfl⟩:=Fa hn1 hd1
    obtain ⟨rfl,rfl⟩:=Fa hn2 hd2
    exact s_eqk rfl (same _ (by rw [decide_eq_true_iff];exact ⟨fun e=>by rw [e],fun e=>by injection e⟩))
   ·obtain ⟨rfl,rfl⟩:=Fa hn1 hd1
    obtain ⟨rfl,rfl⟩:=Fa hn2 hd2
    exact s_eqk rfl (same _ (by rw [decide_eq_true_iff];exact ⟨fun e=>by rw [e],fun e=>by injection e⟩))
   ·obtain ⟨rfl,rfl⟩:=Fa hn1 hd1
    obtain ⟨rfl,rfl⟩:=Fa hn2 hd2
    exact s_eqk rfl (same _ (by rw [decide_eq_true_iff];exact ⟨fun e=>by rw [e],fun e=>by injection e⟩))
   ·obtain ⟨rfl,rfl⟩:=Fa hn1 hd1
    obtain ⟨rfl,rfl⟩:=Fa hn2 hd2
    exact s_eqk rfl (same _ (by rw [decide_eq_true_iff];exact ⟨fun e=>by rw [e],fun e=>by injection e⟩))
   ·obtain ⟨⟨x1,rfl⟩,rfl⟩:=Zeu hn1 hd1
    obtain ⟨⟨x2,rfl⟩,rfl⟩:=Zeu hn2 hd2
    have pu:∀ s t:Str,Pu (.tup ([V.str s,.str t].map Dt.flat)):=fun s t=>.tup fun d hd=>by
     simp only [O9,Ud,Ow,P8,or_false] at hd
     rcases hd with rfl | rfl
     ·exact .str s
     ·exact .str t
    exact Zjv (n:=1) (by decide) hn1.d hn2.d (pu _ _) (pu _ _) same
  ·rw [decide_eq_false (fun h=>hw (V.str.inj h))]
   walk_at "r"
   exact q false ⟨fun h=>(nomatch h),fun h=>absurd h.1 hw⟩
noncomputable def MtAt (K:Og)(H:Hp)(v:V)(x:Mt):Prop:=∃(r p:Addr)(y z:V),v=.ref r/\SqT K H r [.ref p,y,z]/\H p=some (.tup (Ay x.1))/\TrAt K H y x.2.1/\TrAt K H z x.2.2
theorem MtAt.same {K:Og}{H H':Hp}(e:SameT H H')(v:V)(x:Mt)(h:MtAt K H v x):MtAt K H' v x:=by
 obtain ⟨r,p,y,z,h1,h2,h3,h4,h5⟩:=h
 exact ⟨r,p,y,z,h1,e.tup h2,(e p).1 _ h3,h4.sameT e,h5.sameT e⟩
theorem Zfm (st:List Mt):st.length<=(Cw st).length:=by
 unfold Cw
 have:∀ l:List Mt,l.length<=(l.flatMap fun x=>met x.1 x.2.1 x.2.2).length:=fun l=>by
  induction l with
  | nil=>simp
  | cons x r ih =>
   rw [U9,Ou,Ox,Gx,Ox]
   omega
 have:=this st.reverse
 rw [Tk] at this
 exact this
noncomputable def Zeb (K:Og):Sp:=fun vs H Q _=>∃ v u f a,vs=[v,u]/\TrAt K H v f/\TrAt K H u a/\TrOk f/\TrOk a/\f.size<=1000/\∀ p rows H',Same H H'->H p=none->H' p=some (.lst rows)->Al (MtAt K H') rows (met [] f a)->Q (.ref p) H'
noncomputable def MtJ (K:Og)(H:Hp)(v u:V)(f a:Tr)(pt pw:Addr)(m:Nat)(σ:St)(H':Hp):Prop:=∃(v4 v5 v6 v7:Option V)(tv wv:List V)(dn st:List Mt),σ=[some v,some u,some (.ref pt),some (.ref pw),v4,v5,v6,v7]/\H' pt=some (.lst tv)/\H' pw=some (.lst wv) /\
 Al (MtAt K H') tv dn/\Al (MtAt K H') wv st/\dn++Cw st=met [] f a/\m=(Cw st).length/\Same H H'
theorem Zco (pl:List Nat)(j:Nat):Ay (pl++[j])=Ay pl++[.int ((j:Nat):Int)]:=by unfold Ay;rw [Pm];rfl
theorem sc_pairs_met:A1 ["tree", "other", "told", "waiting", "place", "form", "aim", "number"] ["tree", "other"] (An Hx):=by walk_at "sc"
theorem Zod {f:Addr}{fd:FuncData}(F:Fun K "pairs_met" "pairs_met" Hx f fd)(T:Txt K mg)(C_same_top:Ao P w K mg base 1 "same_top" ["form", "other"] (Na K)):Ar P w K mg base As 2 f fd ["tree", "other"] (Zeb K):=by
 refine F.okq sc_pairs_met (fun vs H Q E h=>?_) (fun cdv A outer s H vs Q E hr h=>?_)
 ·obtain ⟨v,u,f,a,rfl,_⟩:=h
  rfl
 ·obtain ⟨v,u,f,a,rfl,hf,ha,of,oa,hz,q⟩:=h
  refine ⟨_,Ae (Aw 2 sc_pairs_met (B0 Ab))
   (Ae (Aw 3 sc_pairs_met (B0 (Aa (Az (Aa (Az Ab) (Aa (qv 0) (Aa (qv 1) Ab)))) Ab)))
   (Ae (J9 O8 (Zcv K (qv 3) (by intro _;rfl)) (Ae (E7 (Gm K Pg Rp Rq Gk (qv 3)) (Eg K (n:=3) rfl (Bt (Ax (i:=4) sc_pairs_met.nd rfl (Or.inl rfl)) (Bt (Ax (i:=5) sc_pairs_met.nd rfl (Or.inl rfl)) (Bt (Ax (i:=6) sc_pairs_met.nd rfl (Or.inl rfl)) (D6))))))
   (Ae (Eu (Dr K Pg Qy Qz El (qv 2) (Aa (Az (Aa (qv 4) (Aa (qv 5) (Aa (qv 6) Ab)))) Ab)))
   (Af (A2 (Dz (Ai C_same_top hr.m (Aa (qv 5) (Aa (qv 6) Ab)))) (Af (Cj O8 rfl (Cr rfl T.range (Aa (Ba (Bs K) (by rfl) T.len (by decide +kernel) (Aa (Ak K (qv 6) Ac) Ab)) Ab)) (Ax (i:=7) sc_pairs_met.nd rfl (Or.inl rfl)) (Af (Eu (Dr K Pg Qy Qz El (qv 3) (Aa (Az (Aa (Aq (Zam K) (qv 4) (Az (Aa (qv 7) Ab))) (Aa (Ak K (Ak K (qv 5) Ac) (qv 7)) (Aa (Ak K (Ak K (qv 6) Ac) (qv 7)) Ab)))) Ab)))))) A3)))))
   (Af (Aj (qv 2))))),?_⟩
  have bg:=big
  have hml:(met [] f a).length<=1000:=by have:=Zad [] f a;omega
  walk_at "r"
  refine ⟨C1,fun pt hpt=>?_⟩
  walk_at "r"
  refine ⟨C1,fun p0 hp0=>?_⟩
  walk_at "r"
  refine ⟨Cd,fun p1 hp1=>?_⟩
  walk_at "r"
  refine ⟨Dy,fun pw hpw=>?_⟩
  walk_at "r"
  have s0:Same (upd H pt (.lst [])) _:=((Same.upd (o:=.tup []) hp0).put (o:=.tup [.ref p0,v,u]) hp1).put (o:=.lst [.ref p1]) hpw
  have s1:Same (upd (upd H pt (.lst [])) p0 (.tup [])) _:=(Same.upd (o:=.tup [.ref p0,v,u]) hp1).put (o:=.lst [.ref p1]) hpw
  have s2:=Same.upd (o:=.lst [.ref p1]) hpw
  have sH:=(Same.upd (o:=.lst []) hpt).trans s0
  have ept:=s0 pt _ Ad
  have epw:upd (upd (upd (upd H pt (.lst [])) p0 (.tup [])) p1 (.tup [.ref p0,v,u])) pw (.lst [.ref p1]) pw=some (.lst [.ref p1]):=Ad
  have ep0:=s1 p0 _ Ad
  have ep1:=s2 p1 _ Ad
  have npw:pt≠pw:=fun z=>by rw [z] at ept;rw [Ad] at ept;cases ept
  have hpw0:H pw=none:=((Same.upd (o:=.lst []) hpt).trans ((Same.upd (o:=.tup []) hp0).put (o:=.tup [.ref p0,v,u]) hp1)).free hpw
  refine ⟨MtJ K H v u f a pt pw,⟨_,none,none,none,none,[],[.ref p1],[],[([],f,a)],rfl,ept,epw,.nil,Al.nil.snoc ⟨p1,p0,v,u,rfl,SqT.of ep1,ep0,hf.same sH,ha.same sH⟩,by simp [Cw],rfl,sH⟩,?_⟩
  rintro m σ' H' ⟨v4,v5,v6,v7,tv,wv,dn,st,rfl,et,ew,al1,al2,hw,rfl,sm⟩
  have hdl:dn.length+(Cw st).length<=1000:=by rw [<- Ou,hw];exact hml
  have htl:tv.length=dn.length:=al1.1
  walk_at "r"
  refine Zcu (SqL.of ew) ?_
  by_cases hwv:wv=[]
  ·subst hwv
   have hst:st=[]:=Qw al2.1.symm
   subst hst
   refine iteF ?_
   walk_at "r"
   rw [show Cw []=[] from rfl,Pt] at hw
   rw [hw] at al1
   exact q pt tv H' sm hpt et al1
  obtain ⟨wv',tp,st',x,rfl,rfl,al3,hrow⟩:=al2.last hwv
  have hne:(!(wv'++[tp]).isEmpty)=true:=by simp
  rw [hne]
  refine iteT ?_
  obtain ⟨pl,fx,ax⟩:=x
  have hx:(pl,fx,ax)∈met [] f a:=by rw [<- hw,Zdz];simp
  obtain ⟨qq,eq,atf,ata⟩:=Ly [] f a of oa _ hx
  have eq:pl=qq:=eq
  subst eq
  have hpl:pl.length<=1000:=by have:=atf.len;omega
  have okf:=(atf.ok of).1
  have oka:=(ata.ok oa).1
  have htp:=Zdz st' (pl,fx,ax)
  have hll:=Zfm (st'++[(pl,fx,ax)])
  rw [Ou,Pz] at hll
  refine ⟨fun σ2 H2=>∃ m',m' < (Cw (st'++[(pl,fx,ax)])).length/\MtJ K H v u f a pt pw m' σ2 H2,fun _ _ h=>h,?_⟩
  walk_at "r"
  refine Cq (SqL.of ew) ?_
  refine Gz ew ?_
  have t1:SameT H' (upd H' pw (.lst wv')):=SameT.set ew
  have et2:upd H' pw (.lst wv') pt=some (.lst tv):=by rw [Ah npw];exact et
  have hrow1:=MtAt.same t1 _ _ hrow
  obtain ⟨r0,p,y,z,rfl,qr,ep,hy,hz'⟩:=id hrow1
  refine En qr rfl ?_
  walk_at "r"
  refine Cq (SqL.of et2) ?_
  walk_at "r"
  refine ⟨Cd,fun p6 h6=>?_⟩
  walk_at "r"
  have s6:=Same.upd (o:=.tup [.ref p,y,z]) h6
  refine Fk (s6 _ _ et2) (by omega) ?_
  have t2:SameT (upd H' pw (.lst wv')) (upd (upd (upd H' pw (.lst wv')) p6 (.tup [.ref p,y,z])) pt (.lst (tv++[.ref p6]))):=s6.t.trans (SameT.set (s6 _ _ et2))
  have et3:upd (upd (upd H' pw (.lst wv')) p6 (.tup [.ref p,y,z])) pt (.lst (tv++[.ref p6])) pt=some (.lst (tv++[.ref p6])):=Ad
  have ew3:upd (upd (upd H' pw (.lst wv')) p6 (.tup [.ref p,y,z])) pt (.lst (tv++[.ref p6])) pw=some (.lst wv'):=by rw [Ah npw.symm];exact s6 _ _ Ad
  have e63:upd (upd (upd H' pw (.lst wv')) p6 (.tup [.ref p,y,z])) pt (.lst (tv++[.ref p6])) p6=some (.tup [.ref p,y,z]):=by rw [Ah (Bf et2 h6).symm];exact Ad
  have sm3:Same H (upd (upd (upd H' pw (.lst wv')) p6 (.tup [.ref p,y,z])) pt (.lst (tv++[.ref p6]))):=((sm.over hpw0).put h6).over hpt
  revert t2 et3 ew3 e63 sm3
  generalize upd (upd (upd H' pw (.lst wv')) p6 (.tup [.ref p,y,z])) pt (.lst (tv++[.ref p6]))=H3
  intro t2 et3 ew3 e63 sm3
  have t13:=t1.trans t2
  have hy3:=hy.sameT t2
  have hz3:=hz'.sameT t2
  have ep3:=(t2 p).1 _ ep
  have hrow3:MtAt K H3 (.ref p6) (pl,fx,ax):=⟨p6,p,y,z,rfl,SqT.of e63,ep3,hy3,hz3⟩
  have al13:=(al1.mono (MtAt.same t13)).snoc hrow3
  have al33:=al3.mono (MtAt.same t13)
  walk_at "r"
  refine ⟨y,z,fx,ax,rfl,hy3,hz3,okf,oka,fun b hb=>?_⟩
  cases b with
  | false =>
   have hns:¬ sameB fx ax:=fun c=>Ot (hb.mpr c)
   rw [if_neg hns,Pt] at htp
   walk_at "r"
   refine ⟨_,by rw [htp];exact Ru _,_,_,_,_,tv++[.ref p6],wv',dn++[(pl,fx,ax)],st',rfl,et3,ew3,al13,al33,?_,rfl,sm3⟩
   rw [<- hw,htp,Pp]
   rfl
  | true =>
   have hs:=hb.mp rfl
   rw [if_pos hs] at htp
   have hlen:=Jy okf oka hs.1
   cases hy3 with
   | @mk b1 q1 w1 n1 d1 us1 fs qb1 hn1 qp1 l1 hc1 =>
   cases hz3 with
   | @mk b2 q2 w2 n2 d2 us2 as qb2 hn2 qp2 l2 hc2 =>
   have hlen:fs.length=as.length:=hlen
   have htp:Cw (st'++[(pl,.mk w1 d1 fs,.mk w2 d2 as)])=(pl,.mk w1 d1 fs,.mk w2 d2 as)::Cw (st'++Cb pl 0 fs as):=htp
   have hkl:=Zfs pl 0 fs as hlen
   walk_at "r"
   refine A6 qb2 rfl ?_
   walk_at "r"
   refine G6 qp2 ?_
   walk_at "r"
   have htl2:=Zfm (st'++Cb pl 0 fs as)
   have htp2:(Cw (st'++[(pl,Tr.mk w1 d1 fs,Tr.mk w2 d2 as)])).length=1+(Cw (st'++Cb pl 0 fs as)).length:=by rw [htp,Ox];omega
   rw [Ou,hkl] at htl2
   refine ⟨by omega,by omega,?_⟩
   refine Fj (n:=((us2.length:Nat):Int).toNat) (fun j σ5 H5=>∃(v7:Option V)(wv5:List V),σ5=[some v,some u,some (.ref pt),some (.ref pw),some (.ref p),some (.ref b1),some (.ref b2),v7]/\H5 pt=some (.lst (tv++[.ref p6]))/\H5 pw=some (.lst wv5)/\Al (MtAt K H5) wv5 (st'++(Cb pl 0 fs as).take j)/\SameT H3 H5/\Same H H5)
    ⟨_,wv',rfl,et3,ew3,by rw [Q5,Pt];exact al33,SameT.refl _,sm3⟩ ?_ ?_
   ·rintro j σ5 H5 hj ⟨v7',wv5,rfl,e5t,e5w,al5,t5,sm5⟩
    have hj2:j < us2.length:=by omega
    have hj1:j < us1.length:=by omega
    have hjf:j < fs.length:=by omega
    have hja:j < as.length:=by omega
    rw [R6]
    walk_at "r"
    refine Cq (SqL.of e5w) ?_
    walk_at "r"
    refine ⟨Dy,fun p7 h7=>?_⟩
    refine L4 (((t5.trans (SameT.new h7)) p).1 _ ep3) Ad (by show (Ay pl).length+1<=sizeLine;unfold Ay;rw [O1];omega) fun r H7 s7 q7=>?_
    have s57:Same H5 H7:=(Same.upd h7).trans s7
    have t57:=t5.trans s57.t
    walk_at "r"
    refine A6 (t57.tup qb1) rfl ?_
    walk_at "r"
    refine A6 (t57.tup qp1) (Dh (Oi hj1)) ?_
    walk_at "r"
    refine A6 (t57.tup qb2) rfl ?_
    walk_at "r"
    refine A6 (t57.tup qp2) (Dh (Oi hj2)) ?_
    walk_at "r"
    refine ⟨Cd,fun p8 h8=>?_⟩
    walk_at "r"
    have s58:=s57.put (o:=.tup [.ref r,us1[j],us2[j]]) h8
    have e8w:=s58 _ _ e5w
    have hwl:wv5.length<=1000:=by
     have:=al5.1
     rw [Ou,Pq] at this
     omega
    refine Fk e8w (by omega) ?_
    have t9:SameT H5 (upd (upd H7 p8 (.tup [.ref r,us1[j],us2[j]])) pw (.lst (wv5++[.ref p8]))):=s58.t.trans (SameT.set e8w)
    have hk:=Zas pl 0 fs as j _ _ (Oi hjf) (Oi hja)
    refine ⟨_,wv5++[.ref p8],rfl,by rw [Ah npw];exact s58 _ _ e5t,Ad,?_,t5.trans t9,(sm5.trans s58).over hpw0⟩
    rw [Rt,hk,<- Pp]
    refine (al5.mono (MtAt.same t9)).snoc ⟨p8,r,_,_,rfl,(SameT.set e8w).tup (SqT.of Ad),?_,(hc1 j _ _ (Oi hj1) (Oi hjf)).sameT (t5.trans t9),(hc2 j _ _ (Oi hj2) (Oi hja)).sameT (t5.trans t9)⟩
    rw [Sq]
    show _=some (HO.tup (Ay (pl++[j])))
    rw [Zco]
    exact (((SameT.new (o:=.tup [.ref r,us1[j],us2[j]]) h8).trans (SameT.set (o:=.lst (wv5++[.ref p8])) e8w)) r).1 _ q7
   ·rintro σ5 H5 ⟨v7',wv5,rfl,e5t,e5w,al5,t5,sm5⟩
    rw [Qd (by rw [hkl];omega)] at al5
    refine ⟨_,by rw [htp2];exact O3 (Ru _) (by omega),_,_,_,_,tv++[.ref p6],wv5,dn++[(pl,.mk w1 d1 fs,.mk w2 d2 as)],_,rfl,e5t,e5w,al13.mono (MtAt.same t5),al5,?_,rfl,sm5⟩
    rw [<- hw,htp,Pp]
    rfl
theorem Kp {l:List (List Nat×Tr)}{i:Nat}{c:List Nat×Tr}(h:l[i]?=some c):(l.take (i+1)).filter Ci=(l.take i).filter Ci++(if Ci c=true then [c] else []):=by
 rw [Rt,h,List.filter_append]
 cases hg:Ci c <;> simp [hg]
noncomputable def N8 (K:Og):Sp:=fun vs H Q _=>∃(v:V)(t:Tr),vs=[v]/\TrAt K H v t/\t.size<=2000/\∀(p:Addr)(rows:List V)(H':Hp),Same H H'->H p=none->H' p=some (.lst rows)->Al (RowT K H') rows (fp t)->Q (.ref p) H'
theorem Zlr:(["pair"]:List Str).Nodup:=by decide +kernel
theorem Zns:A1 ["form"] ["form"] (An Ja):=by walk_at "sc"
theorem Zhy {f:Addr}{fd:FuncData}(F:Fun K "forms_to_put" "forms_to_put" Ja f fd)(T:Txt K mg)(C_placed_forms:Ao P w K mg base 1 "placed_forms" ["tree"] (Zbe K)):Ar P w K mg base As 2 f fd ["form"] (N8 K):=by
 refine F.okq Zns (fun vs H Q E h=>?_) (fun cdv A outer s H vs Q E hr h=>?_)
 ·obtain ⟨v,t,rfl,_⟩:=h
  rfl
 ·obtain ⟨v,t,rfl,ht,hz,q⟩:=h
  refine ⟨_,Af (Aj (Dv (N:=["pair"]) (σ0:=B8 1 []) rfl (C3 rfl (by decide +kernel) (by decide +kernel) (by decide +kernel)) (D7 K (Ai C_placed_forms hr.m (Aa (qv 0) Ab))) (C0 rfl (by rfl)) (fun _ _ _ _=>Ax (i:=0) Zlr rfl (Or.inl rfl)) (fun _ _ _ _=>Zc3 (A0 (Gh K hr.u200) (Ak K (Ak K (qv 0) Ac) Ac) Au (Av _))) (fun _ _ _ _=>qv 0))),?_⟩
  have bg:=big
  walk_at "r"
  refine ⟨v,t,rfl,ht,hz,fun p rows H1 s1 hp e1 al=>?_⟩
  have hrl:rows.length<=2000:=by have:=al.1;rw [D5] at this;omega
  refine .inl ⟨p,rfl,⟨_,SqL.of e1⟩,fun D hD=>?_⟩
  have nD:p≠D:=Bf e1 hD
  refine Ko (K:=K) (a:=p) (xs:=rows) (Pv:=fun i ys σ' H'=>∃ v0,σ'=[v0]/\H' p=some (.lst rows)/\ys.length<=i/\Al (RowT K H') ys (((walk [] t).take i).filter Ci)/\SameT H1 H'/\Same H H') ⟨none,rfl,by rw [Ah nD];exact e1,Ol _,.nil,SameT.new hD,s1.put hD⟩ ?_ ?_ ?_
  ·rintro i ys σ' H' _ ⟨_,_,e,_⟩
   exact SqL.of e
  ·rintro i x ys σ' H' hx hys ⟨v0,rfl,e,hl,al',tt,sm⟩
   obtain ⟨⟨pl,y⟩,hy,hrow⟩:=al.get hx
   obtain ⟨a,pp,u,rfl,qa,qp,hu⟩:=id hrow
   have hi:=(O6.mp hx).1
   cases hu with
   | @mk b p3 wd nv n vs ts qb hn qpp hlv hch =>
   walk_at "r"
   refine A6 (tt.tup qa) rfl ?_
   walk_at "r"
   refine A6 (tt.tup qb) rfl ?_
   walk_at "r"
   have eg:(!decide (V.str wd=V.str ("gap" : Str)))=Ci (pl,.mk wd n ts):=by
    show (!decide (V.str wd=V.str ("gap" : Str)))=!decide (wd=("gap" : Str))
    congr 1
    rw [P9]
    simp
   show if (!decide (V.str wd=V.str ("gap" : Str)))=true then _ else _
   rw [eg]
   cases hg:Ci (pl,.mk wd n ts) with
   | true =>
    walk_at "r"
    refine ⟨_,hys,by omega,_,Ad,?_⟩
    refine ⟨_,rfl,by rw [Ah nD];exact e,by simp;omega,?_,tt.trans (SameT.set hys),sm.over (s1.free hD)⟩
    rw [Kp hy,hg,if_pos rfl]
    exact (al'.mono (RowT.same (SameT.set hys))).snoc (RowT.same (tt.trans (SameT.set hys)) _ _ hrow)
   | false =>
    walk_at "r"
    refine ⟨_,hys,?_⟩
    refine ⟨_,rfl,e,by omega,?_,tt,sm⟩
    rw [Kp hy,hg,if_neg Ot,Pt]
    exact al'
  ·rintro ys σ' H' hys ⟨v0,rfl,e,hl,al',tt,sm⟩
   walk_at "r"
   rw [al.1,Tw] at al'
   exact q D ys H' sm (s1.free hD) hys al'
theorem Zp5 {K:Og}{H:Hp}{v:V}{t:Tr}(h:TrAt K H v t)(ok:TrOk t):∃(a p:Addr)(nv:V)(nt:Nt),v=.ref a/\SqT K H a [.str t.wd,nv,.ref p]/\IsN K H nv t.note/\NtAt K H nv nt/\B7 t.wd nt=true/\B6 t.wd=some t.ps.length/\t.wd.length<=1000:=by
 cases h with
 | mk q hn qp l hs =>
 cases ok with
 | mk hp hd hb _ =>
  refine ⟨_,_,_,_,rfl,q,hn,IsN.nt hn hd,hb,hp,?_⟩
  exact Pc (F1 hp).2.2.2.2 (by decide)
noncomputable def Mh (K:Og)(c:Cs):Sp:=fun vs H Q _=>∃(p:Addr)(v:V)(t:Tr)(pl:List Nat),vs=[.ref p,v]/\SqT K H p (Ay pl)/\pl.length<=2000/\TrAt K H v t/\TrOk t/\t.size<=2000/\∀(r:Addr)(H':Hp),Same H H'->H r=none->DosAt K c H' r (pre pl (B5 t))->Q (.ref r) H'
theorem Zna {t:Tr}(h:TrOk t):∀ x∈walk [] t,TrOk x.2/\x.1.length<=t.size:=fun x hx=>by
 have a:=My t x hx
 exact ⟨(a.ok h).1,by have:=a.len;omega⟩
theorem Zif {t:Tr}{x:List Nat×Tr}(h:x∈fp t):x∈walk [] t/\x.2.wd ≠ "gap" := by
 unfold fp at h
 obtain ⟨h1,h2⟩:=Vf.mp h
 refine ⟨h1,fun e=>?_⟩
 unfold Ci at h2
 rw [decide_eq_true e] at h2
 cases h2
theorem Zpi (a b:List Nat):Ay (a++b)=Ay a++Ay b:=by unfold Ay;rw [Pm]
theorem Za1:(["beneath", "part", "place"]:List Str).Nodup:=by decide +kernel
theorem Zj2:A1 ["place", "form"] ["place", "form"] (An Hu):=by walk_at "sc"
theorem Zl0 {c:Cs}{ag:Addr}{f:Addr}{fd:FuncData}(F:Fun K "puts_of" "puts_of" Hu f fd)(T:Txt K mg)(GA:N3 K ag)(C_forms_to_put:Ao P w K mg base 2 "forms_to_put" ["form"] (N8 K))(MK_Put_2:Oe As P w K mg base 5 "Put" c.p ["self", "word", "note"] [] (fun vs _=>vs) (Nu K c ag)):Ar P w K mg base As 7 f fd ["place", "form"] (Mh K c):=by
 refine F.okq Zj2 (fun vs H Q E h=>?_) (fun cdv A outer s H vs Q E hr h=>?_)
 ·obtain ⟨p,v,t,pl,rfl,_⟩:=h
  rfl
 ·obtain ⟨p,v,t,pl,rfl,hp,hpl,ht,ok,hz,q⟩:=h
  refine ⟨_,Af (Aj (Dv (N:=["beneath", "part", "place"]) (σ0:=B8 2 [0]) rfl (C3 rfl (by decide +kernel) (by decide +kernel) (by decide +kernel)) (D7 K (Ai C_forms_to_put hr.m (Aa (qv 1) Ab))) (C0 rfl (by rfl)) (fun _ _ _ _=>Eg K (n:=2) rfl (Bt (Ax (i:=0) Za1 rfl (Or.inl rfl)) (Bt (Ax (i:=1) Za1 rfl (Or.inl rfl)) (D6)))) (fun _ _ _ _=>C9) (fun _ _ _ _=>Az (Aa (Aq (Bk K) (qv 2) (qv 0)) (Aa (Zkv MK_Put_2 hr.m Za8 (Aa (Ak K (qv 1) Ac) (Aa (Ak K (qv 1) Ac) Ab)) (Zhn)) Ab))))),?_⟩
  have bg:=big
  walk_at "r"
  refine ⟨v,t,rfl,ht,hz,fun pr rows H1 s1 hpr e1 al=>?_⟩
  have hrl:rows.length<=2000:=by have:=al.1;have:=Zau t;omega
  refine .inl ⟨pr,rfl,⟨_,SqL.of e1⟩,fun D hD=>?_⟩
  have nD:pr≠D:=Bf e1 hD
  refine Ko (K:=K) (a:=pr) (xs:=rows) (Pv:=fun i ys σ' H'=>∃ v0 v1,σ'=[v0,v1,some (.ref p)]/\ys.length=i/\Al (DoAt K c H') ys ((pre pl (B5 t)).take i)/\H' pr=some (.lst rows)/\SameT H1 H'/\Same H H') ⟨none,none,rfl,rfl,.nil,by rw [Ah nD];exact e1,SameT.new hD,s1.put hD⟩ ?_ ?_ ?_
  ·rintro i ys σ' H' _ ⟨_,_,_,_,_,e,_⟩
   exact SqL.of e
  ·rintro i x ys σ' H' hx hys ⟨v0,v1,rfl,hl,al',e,tt,sm⟩
   obtain ⟨⟨bl,y⟩,hy,hrow⟩:=al.get hx
   obtain ⟨a,pp,u,rfl,qa,qp,hu⟩:=hrow
   have hi:=(O6.mp hx).1
   obtain ⟨hin,hng⟩:=Zif (Oz hy)
   obtain ⟨oky,hbl⟩:=Zna ok _ hin
   obtain ⟨ua,up,nv,nt,rfl,qu,hn,hnt,hnb,hps,hwl⟩:=Zp5 (hu.sameT tt) oky
   walk_at "r"
   refine En (tt.tup qa) rfl ?_
   walk_at "r"
   refine Kl (sm.tup hp) (tt.tup (SqT.of qp)) (by rw [Gq,Gq];show pl.length+bl.length<=_;have:bl.length<=t.size:=hbl;omega) fun r1 H2 s2 q2=>?_
   dsimp only at hng oky qu hn hnb hps hwl
   walk_at "r"
   unfold Zc0
   walk_at "r"
   refine A6 (s2.tup qu) rfl ?_
   walk_at "r"
   refine A6 (s2.tup qu) rfl ?_
   walk_at "r"
   intro a1 d1 h1 h2 h3
   have s3:=Same.made (C:=c.p) (fs:=[]) h1 h2 h3
   refine ⟨a1,d1,y.wd,nv,nt,y.ps.length,rfl,Ad,⟨_,.str _ hwl⟩,(hnt.same s2).same s3,hps,hnb,hng,fun r H4 sb e4 hb4=>⟨rfl,?_⟩⟩
   have s4:=sb.made h1 h2
   walk_at "r"
   refine ⟨B4,fun p5 h5=>?_⟩
   have s5:=Same.upd (o:=.tup [.ref r1,.ref a1]) h5
   have s25:=s2.trans (s4.trans s5)
   walk_at "r"
   refine ⟨ys,s25 _ _ hys,by omega,_,Ad,?_⟩
   have s45:=s4.trans s5
   have si:SameI _ (upd (upd H4 p5 (.tup [.ref r1,.ref a1])) D (.lst (ys++[.ref p5]))):=SameI.set (s25 _ _ hys)
   have hg:(pre pl (B5 t))[i]?=some (pl++bl,.put (G9 y)):=by unfold pre B5;rw [Qq,Qq,hy];rfl
   refine ⟨_,_,rfl,by simp [hl],?_,by rw [Ah nD];exact s25 _ _ e,tt.trans (s25.t.trans (SameT.set (s25 _ _ hys))),(sm.trans s25).over (s1.free hD)⟩
   rw [Rt,hg]
   refine (al'.mono (DoAt.same (s25.i.trans si))).snoc ⟨p5,r1,.ref a1,rfl,si.t.tup (SqT.of Ad),?_,?_⟩
   ·rw [Zpi]
    exact si.t.tup (s45.tup q2)
   ·exact ⟨a1,d1,.ref r,rfl,si _ _ (s5 _ _ e4) (fun _ z=>nomatch z) (fun _ z=>nomatch z),((hb4.tr GA ((hn.same s2.t).same s4.t)).same s5).sameT si.t⟩
  ·rintro ys σ' H' hys ⟨v0,v1,rfl,hl,al',e,tt,sm⟩
   walk_at "r"
   rw [al.1,Qd (by rw [E9,F0];exact Ol _)] at al'
   exact q D H' sm (s1.free hD) ⟨ys,hys,al'⟩
theorem Zej:∀(i:Nat)(fs as:List Tr)(j:Nat)(f a:Tr),fs[j]?=some f->as[j]?=some a->Bb i (fs.take (j+1)) (as.take (j+1))=Bb i (fs.take j) (as.take j)++pre [i+j] (B3 f a)
 | i,[],as,j,f,a,h,_=>by simp at h
 | i,_::_,[],j,f,a,_,h=>by simp at h
 | i,g::fs,b::as,0,f,a,h1,h2=>by
  have h1:g=f:=by simpa using h1
  have h2:b=a:=by simpa using h2
  subst h1 h2
  rw [Rb,Rb,Fo,Q5,Q5,Q5,Q5]
  have e:∀ k,Bb k [] []=[]:=fun k=>by rw [Bb]
  rw [e,e,Pt,Q2,Nat.add_zero]
 | i,g::fs,b::as,j+1,f,a,h1,h2=>by
  rw [Rb,Rb,Fo,Zej (i+1) fs as j f a (by simpa using h1) (by simpa using h2),Rb,Rb,Fo,Pp,show i+1+j=i+(j+1) by omega]
noncomputable def Zdx (K:Og)(c:Cs):Sp:=fun vs H Q _=>∃(p d:Addr)(x y:V)(f a:Tr)(pl:List Nat)(kvs:List (List Ap×V)),vs=[.ref p,x,y,.ref d]/\H p=some (.tup (Ay pl))/\pl.length<=1000/\TrAt K H x f/\TrAt K H y a/\TrOk f/\TrOk a/\a.size<=1000/\H d=some (.dT kvs) /\
 (sameB f a->∀ i fi ai,f.ps[i]?=some fi->a.ps[i]?=some ai->∃ q,Bo kvs (Cm (pl++[i]))=some (.ref q)/\DosAt K c H q (pre (pl++[i]) (B3 fi ai))) /\
 ∀ q H',Same H H'->H q=none->DosAt K c H' q (pre pl (B3 f a))->Q (.ref q) H'
theorem sc_row_at:A1 ["place", "form", "aim", "rows", "kept", "number"] ["place", "form", "aim", "rows"] (An Im):=by walk_at "sc"
theorem Zoc {c:Cs}{f:Addr}{fd:FuncData}(F:Fun K "row_at" "row_at" Im f fd)(T:Txt K mg)(C_puts_of:Ao P w K mg base 7 "puts_of" ["place", "form"] (Mh K c))(C_same_top:Ao P w K mg base 1 "same_top" ["form", "other"] (Na K))(C_forms_to_put:Ao P w K mg base 2 "forms_to_put" ["form"] (N8 K))(MK_Cut:Nh K mg "Cut" c.c):Ar P w K mg base As 8 f fd ["place", "form", "aim", "rows"] (Zdx K c):=by
 refine F.okq sc_row_at (fun vs H Q E h=>?_) (fun cdv A outer s H vs Q E hr h=>?_)
 ·obtain ⟨p,d,x,y,f,a,pl,kvs,rfl,_⟩:=h
  rfl
 ·obtain ⟨p,d,x,y,f,a,pl,kvs,rfl,hp,hpl,hx,hy,of,oa,hz,hd,hkid,q⟩:=h
  refine ⟨_,Ae (A2 (A0 (Bv K hr.u200) (Ak K (qv 1) Ac) Au (Av _)) (Af (Aj (Ai C_puts_of hr.m (Aa (qv 0) (Aa (qv 2) Ab))))) A3)
   (Ae (A2 (Dz (Ai C_same_top hr.m (Aa (qv 1) (Aa (qv 2) Ab)))) (Ae (Aw 4 sc_row_at (B0 Ab))
   (Ae (Cj O8 rfl (Cr rfl T.range (Aa (Ba (Bs K) (by rfl) T.len (by decide +kernel) (Aa (Ak K (qv 2) Ac) Ab)) Ab)) (Ax (i:=5) sc_row_at.nd rfl (Or.inl rfl)) (Af (Eu (Dr K Pg PySem.F.slot_list_extend PySem.F.type_list_extend Zoj (qv 4) (Aa (Zc7 hr.u1 (qv 3) (Aq (Zam K) (qv 0) (Az (Aa (qv 5) Ab))) (fun _ _=>rfl)) Ab)))))
   (Af (A2 (A0 Db (Ba (Bs K) (by rfl) T.len (by decide +kernel) (Aa (qv 4) Ab)) (Aq (Bk K) Ac (Ba (Bs K) (by rfl) T.len (by decide +kernel) (Aa (Ai C_forms_to_put hr.m (Aa (qv 2) Ab)) Ab))) (Av _)) (Af (Aj (qv 4))) A3)))) A3)
   (Af (Aj (Aq (Bk K) (B0 (Aa (Az (Aa (qv 0) (Aa (Zls MK_Cut) Ab))) Ab)) (Ai C_puts_of hr.m (Aa (qv 0) (Aa (qv 2) Ab))))))),?_⟩
  have bg:=big
  have sx:=hx
  have sy:=hy
  have hfl:=Zau a
  have hpn:=F0 a
  cases hx with
  | @mk b1 q1 w1 n1 d1 us1 fs qb1 hn1 qp1 l1 hc1 =>
  cases hy with
  | @mk b2 q2 w2 n2 d2 us2 as qb2 hn2 qp2 l2 hc2 =>
  walk_at "r"
  refine A6 qb1 rfl ?_
  walk_at "r"
  by_cases hg:w1 = "gap"
  ·subst hg
   rw [decide_eq_true (Eq.refl _)]
   walk_at "r"
   refine ⟨p,_,_,pl,rfl,SqT.of hp,by omega,sy,oa,by omega,fun r H1 s1 hr1 h1=>?_⟩
   walk_at "r"
   exact q r H1 s1 hr1 (by rw [Ip (show (Tr.mk "gap" d1 fs).wd = "gap" from rfl)];exact h1)
  rw [decide_eq_false (fun h=>hg (V.str.inj h))]
  have hg':(Tr.mk w1 d1 fs).wd ≠ "gap" := hg
  have anew:∀(v4 v5:Option V)(H1:Hp),Same H H1->B3 (.mk w1 d1 fs) (.mk w2 d2 as)=Dd (.mk w2 d2 as)->D8 (Bp (Dg K) (Kg (Br (E8 (Br (Be 0) (Br (Zdh c.c) Ce))) Ce)) (Es (Mh K c) [] E0 (Br (Be 0) (Br (Be 2) Ce)))) { nx:=fun _ H'=>Q V.non H',rt:=Q } [some (.ref p),some (.ref b1),some (.ref b2),some (.ref d),v4,v5] H1:=by
   intro v4 v5 H1 s1 er
   walk_at "r"
   intro a1 e1 h1 h2 h3
   have s2:=Same.made (C:=c.c) (fs:=[]) h1 h2 h3
   have ea:upd (upd H1 e1 (.own a1)) a1 (.ins c.c e1 []) a1=some (.ins c.c e1 []):=Ad
   revert s2 ea
   generalize upd (upd H1 e1 (.own a1)) a1 (.ins c.c e1 [])=H2
   intro s2 ea
   walk_at "r"
   refine ⟨B4,fun p3 h3=>?_⟩
   have s3:=Same.upd (o:=.tup [.ref p,.ref a1]) h3
   walk_at "r"
   refine ⟨Dy,fun p4 h4=>?_⟩
   have s4:=Same.upd (o:=.lst [.ref p3]) h4
   have s14:=s1.trans (s2.trans (s3.trans s4))
   have e3:=s4 p3 _ Ad
   have e4:upd (upd H2 p3 (.tup [.ref p,.ref a1])) p4 (.lst [.ref p3]) p4=some (.lst [.ref p3]):=Ad
   have ea4:=(s3.trans s4) _ _ ea
   revert s14 e3 e4 ea4
   generalize upd (upd H2 p3 (.tup [.ref p,.ref a1])) p4 (.lst [.ref p3])=H4
   intro s14 e3 e4 ea4
   walk_at "r"
   refine ⟨p,_,_,pl,rfl,SqT.of (s14 _ _ hp),by omega,sy.same s14,oa,by omega,fun r H5 s5 hr5 h5=>?_⟩
   obtain ⟨vs,ev,al⟩:=h5
   have hvl:vs.length<=1000:=by rw [al.1,E9];omega
   refine Zhc (s5 _ _ e4) ev (by rw [Pz];omega) fun p6 h6=>?_
   have s6:=Same.upd (o:=.lst ([.ref p3]++vs)) h6
   have s16:=s14.trans (s5.trans s6)
   have s56:=s5.trans s6
   refine q p6 _ s16 ((s14.trans s5).free h6) ⟨_,Ad,?_⟩
   rw [er]
   show Al _ ([.ref p3]++vs) ([(pl++[],Op.cut)]++pre pl (B5 (.mk w2 d2 as)))
   refine Al.append (Al.nil.snoc ⟨p3,p,.ref a1,rfl,SqT.of (s56 _ _ e3),?_,⟨a1,e1,rfl,s56 _ _ ea4⟩⟩) (al.mono (DoAt.same s6.i))
   rw [Pt]
   exact SqT.of (s16 _ _ hp)
  walk_at "r"
  refine ⟨_,_,_,_,rfl,sx,sy,of,oa,fun b hb=>⟨b,rfl,?_⟩⟩
  cases b with
  | false =>
   have hns:¬ sameB (.mk w1 d1 fs) (.mk w2 d2 as):=fun z=>Ot (hb.mpr z)
   refine iteF ?_
   refine s_next ?_
   exact anew _ _ H (Same.refl _) (Ke hg' hns)
  | true =>
   have hs:=hb.mp rfl
   refine iteT ?_
   have hlen:fs.length=as.length:=Jy of oa hs.1
   have ha3:as.length<=3:=by cases oa with | mk hp _ _ _=>exact (F1 hp).2.2.2.1
   have hkl:=Mu 0 fs as
   have hsz:1+Am as<=1000:=by have:=hz;rw [Tr.size] at this;exact this
   walk_at "r"
   refine ⟨C1,fun pk hpk=>?_⟩
   have s1:=Same.upd (o:=.lst []) hpk
   walk_at "r"
   refine A6 (s1.tup qb2) rfl ?_
   walk_at "r"
   refine G6 (s1.tup qp2) ?_
   walk_at "r"
   refine ⟨by omega,by omega,?_⟩
   refine Fj (n:=((us2.length:Nat):Int).toNat) (fun j σ5 H5=>∃(v5:Option V)(kv:List V),σ5=[some (.ref p),some (.ref b1),some (.ref b2),some (.ref d),some (.ref pk),v5]/\H5 pk=some (.lst kv)/\Al (DoAt K c H5) kv (pre pl (Bb 0 (fs.take j) (as.take j)))/\Same H H5)
    ⟨_,[],rfl,Ad,by rw [Q5,Q5,Bb];exact .nil,s1⟩ ?_ ?_
   ·rintro j σ5 H5 hj ⟨v5',kv,rfl,ek,al,sm⟩
    have hja:j < as.length:=by omega
    have hjf:j < fs.length:=by omega
    obtain ⟨qj,hv,vs,ev,alv⟩:=hkid hs j _ _ (Oi (l:=fs) hjf) (Oi (l:=as) hja)
    rw [R6]
    walk_at "r"
    refine Cq (SqL.of ek) ?_
    walk_at "r"
    refine ⟨Dy,fun p7 h7=>?_⟩
    have s7:=Same.upd (o:=.tup [.int (j:Nat)]) h7
    refine L4 (s7 _ _ (sm _ _ hp)) Ad (by show (Ay pl).length+1<=sizeLine;rw [Gq];omega) fun r H7 s8 q7=>?_
    have s78:=s7.trans s8
    have q7:H7 r=some (.tup (Ay (pl++[j]))):=by rw [Zco];exact q7
    have g:=DGet.t (k:=Cm (pl++[j])) ((sm.trans s78) _ _ hd) (by rw [Zbv];exact q7)
    rw [hv] at g
    refine ⟨d,_,rfl,g,?_⟩
    walk_at "r"
    have ek7:=s78 _ _ ek
    have ev7:=(sm.trans s78) _ _ ev
    have hl1:kv.length<=2000:=by
     have h1:=al.1
     rw [E9] at h1
     have h2:=Mu 0 (fs.take j) (as.take j)
     have h3:Am (as.take j)<=Am as:=by
      have:=F9 (as.take j) (as.drop j)
      rw [Us] at this
      omega
     rw [Pq] at h2
     omega
    have hl2:vs.length<=2000:=by
     have h1:=alv.1
     rw [E9] at h1
     have h2:=Zc8 fs[j] as[j]
     have h3:=Kk (Oi (l:=as) hja)
     omega
    refine Zgn ek7 ev7 (by omega) ?_
    have si:=SameI.set (o:=.lst (kv++vs)) ek7
    refine ⟨_,kv++vs,rfl,Ad,?_,(sm.trans s78).over hpk⟩
    rw [Zej 0 fs as j _ _ (Oi hjf) (Oi hja),Zhs,Zll,Sq]
    exact Al.append (al.mono (DoAt.same (s78.i.trans si))) (alv.mono (DoAt.same ((sm.trans s78).i.trans si)))
   ·rintro σ5 H5 ⟨v5',kv,rfl,ek,al,sm⟩
    rw [Qd (by omega),Qd (by omega)] at al
    have hkv:kv.length=(Bb 0 fs as).length:=by rw [al.1,E9]
    have hrow:=Hy hg' hs
    walk_at "r"
    refine Ds (SqL.of ek) ?_
    walk_at "r"
    refine ⟨_,_,rfl,sy.same sm,by omega,fun p8 rows H8 s8 hp8 e8 al8=>?_⟩
    walk_at "r"
    refine Ds (SqL.of e8) ?_
    walk_at "r"
    have hrl:rows.length=(fp (.mk w2 d2 as)).length:=al8.1
    refine A4 (fun h=>?_) (fun h=>?_)
    ·walk_at "r"
     have h:(Bb 0 fs as).length<=1+(fp (.mk w2 d2 as)).length:=by have:=of_decide_eq_true h;omega
     refine q pk H8 (sm.trans s8) hpk ⟨kv,s8 _ _ ek,?_⟩
     rw [hrow,show (Tr.mk w1 d1 fs).ps=fs from rfl,show (Tr.mk w2 d2 as).ps=as from rfl,if_pos h]
     exact al.mono (DoAt.same s8.i)
    ·refine s_next ?_
     have h:¬ (Bb 0 fs as).length<=1+(fp (.mk w2 d2 as)).length:=fun z=>h (decide_eq_true (by omega))
     refine anew _ _ H8 (sm.trans s8) ?_
     rw [hrow,show (Tr.mk w1 d1 fs).ps=fs from rfl,show (Tr.mk w2 d2 as).ps=as from rfl,if_neg h]
theorem Zd7 {kv:List (List Ap×V)}{q z:List Nat}{v:V}:Bo (Ck kv (Cm q) v) (Cm z)=if z=q then some v else Bo kv (Cm z):=by
 rw [Zhm]
 by_cases h:z=q
 ·rw [if_pos h,if_pos (by rw [h])]
 ·rw [if_neg h,if_neg fun e=>h (Zh6 e)]
noncomputable def Zfl (K:Og)(c:Cs):Sp:=fun vs H Q _=>∃(x y:V)(f a:Tr),vs=[x,y]/\TrAt K H x f/\TrAt K H y a/\TrOk f/\TrOk a/\f.size<=1000/\a.size<=1000/\∀ q H',Same H H'->H q=none->DosAt K c H' q (B3 f a)->Q (.ref q) H'
noncomputable def Kn (K:Og)(c:Cs)(H0 H:Hp)(kvs:List (List Ap×V))(s:List Mt):Prop:=∀ x∈s,∃ q,Bo kvs (Cm x.1)=some (.ref q)/\DosAt K c H q (pre x.1 (B3 x.2.1 x.2.2))/\H0 q=none
theorem sc_row_to:A1 ["tree", "other", "rows", "place", "form", "aim"] ["tree", "other"] (An Hl):=by walk_at "sc"
theorem Zjk {c:Cs}{f:Addr}{fd:FuncData}(F:Fun K "row_to" "row_to" Hl f fd)(T:Txt K mg)(C_pairs_met:Ao P w K mg base 2 "pairs_met" ["tree", "other"] (Zeb K))(C_row_at:Ao P w K mg base 8 "row_at" ["place", "form", "aim", "rows"] (Zdx K c)):Ar P w K mg base As 9 f fd ["tree", "other"] (Zfl K c):=by
 refine F.okq sc_row_to (fun vs H Q E h=>?_) (fun cdv A outer s H vs Q E hr h=>?_)
 ·obtain ⟨x,y,f,a,rfl,_⟩:=h
  rfl
 ·obtain ⟨x,y,f,a,rfl,hx,hy,of,oa,hz,hza,q⟩:=h
  refine ⟨_,Ae (Aw 2 sc_row_to (Zpr))
   (Ae (Cj O8 rfl (Lf K rfl T.reversed (Aa (Ai C_pairs_met hr.m (Aa (qv 0) (Aa (qv 1) Ab))) Ab)) (Eg K (n:=3) rfl (Bt (Ax (i:=3) sc_row_to.nd rfl (Or.inl rfl)) (Bt (Ax (i:=4) sc_row_to.nd rfl (Or.inl rfl)) (Bt (Ax (i:=5) sc_row_to.nd rfl (Or.inl rfl)) (D6))))) (Af (Zla hr.u1 (qv 2) (qv 3) (Ai C_row_at hr.m (Aa (qv 3) (Aa (qv 4) (Aa (qv 5) (Aa (qv 2) Ab))))))))
   (Af (Aj (Zc7 hr.u1 (qv 2) (Az Ab) (fun _ _=>rfl))))),?_⟩
  have bg:=big
  have hml:=Zad [] f a
  have mat:=Ly [] f a of oa
  walk_at "r"
  refine fun d hd=>?_
  have s1:=Same.upd (o:=.dT []) hd
  walk_at "r"
  refine ⟨x,y,f,a,rfl,hx.same s1,hy.same s1,of,oa,hz,fun pr rows H1 s2 hpr er al=>?_⟩
  have hrl:rows.length<=1000:=by rw [al.1];omega
  have ed1:=s2 d _ Ad
  have sm1:=s1.trans s2
  walk_at "r"
  refine ⟨pr,rows,rfl,SqL.of er,?_⟩
  refine Lu (K:=K) (a:=pr) (xs:=rows) (fun i σ' H'=>∃ v3 v4 v5 kvs,σ'=[some x,some y,some (.ref d),v3,v4,v5]/\H' d=some (.dT kvs)/\kvs.length<=i/\Kn K c H H' kvs ((met [] f a).drop (rows.length - i))/\SameD H1 H'/\Same H H') ⟨_,_,_,[],rfl,ed1,Ol _,?_,SameD.refl _,sm1⟩ ?_ ?_ ?_
  ·rw [R5,Q7 (by rw [al.1];exact Ol _)]
   exact fun x h=>nomatch h
  ·rintro i σ' H' _ ⟨_,_,_,_,_,_,_,_,sd,_⟩
   exact SqL.of (sd _ _ er (fun _ z=>nomatch z))
  ·rintro i z σ' H' hi hz1 ⟨v3,v4,v5,kvs,rfl,ed,hkl,kn,sd,sm⟩
   obtain ⟨⟨pl,fx,ax⟩,hg,hrow⟩:=al.get hz1
   have hin:=Oz hg
   obtain ⟨qq,eq,atf,ata⟩:=mat _ hin
   have eq:pl=qq:=eq
   subst eq
   have hpl:pl.length<=1000:=by have:=atf.len;omega
   have okf:=(atf.ok of).1
   have oka:=ata.ok oa
   obtain ⟨r0,p,u,w0,rfl,qr,ep,hu,hw⟩:=MtAt.same sd.t _ _ hrow
   have hk:rows.length - 1 - i < (met [] f a).length:=by have:=al.1;omega
   have hdr:(met [] f a).drop (rows.length - (i+1))=(pl,fx,ax)::(met [] f a).drop (rows.length - i):=by
    rw [show rows.length - (i+1)=rows.length - 1 - i by omega,Qk hk,show rows.length - 1 - i+1=rows.length - i by omega]
    rw [Oi hk] at hg
    rw [Ov hg]
   have hcl:Cl ((met [] f a).take (rows.length - (i+1))++(pl,fx,ax)::(met [] f a).drop (rows.length - i)):=by
    rw [<- hdr,Us]
    exact Zfe [] f a
   refine En qr rfl ?_
   walk_at "r"
   refine ⟨p,d,u,w0,fx,ax,pl,kvs,rfl,ep,hpl,hu,hw,okf,oka.1,Pc oka.2 hza,ed,fun hs j fj aj hfj haj=>?_,fun q1 H2 s3 hq1 h1=>?_⟩
   ·have hm:=hcl.tail hs (pl++[0+j],fj,aj) (Oz (Zas pl 0 _ _ j fj aj hfj haj))
    rw [Sq] at hm
    obtain ⟨qj,k1,k2,_⟩:=kn _ hm
    exact ⟨qj,k1,k2⟩
   ·walk_at "r"
    have ed2:=s3 _ _ ed
    refine ⟨d,_,rfl,DPut.t (k:=Cm pl) ed2 (by rw [Zbv];exact s3 _ _ ep) (by omega),?_⟩
    have sd2:=SameD.set (o:=.dT (Ck kvs (Cm pl) (.ref q1))) ed2
    refine ⟨_,_,_,Ck kvs (Cm pl) (.ref q1),rfl,Ad,by have:=Oa kvs (Cm pl) (.ref q1);omega,?_,sd.trans (s3.d.trans sd2),(sm.trans s3).over hd⟩
    rw [hdr]
    intro x hx
    by_cases hxp:x.1=pl
    ·refine ⟨q1,by rw [Zd7,if_pos hxp],?_,sm.free hq1⟩
     have hxm:x∈met [] f a:=by
      have:x∈(met [] f a).drop (rows.length - (i+1)):=by rw [hdr];exact hx
      exact List.mem_of_mem_drop this
     obtain ⟨q2,e2,at2,at3⟩:=mat _ hxm
     have e2:x.1=q2:=e2
     rw [<- e2,hxp] at at2 at3
     rw [hxp,at2.det atf,at3.det ata]
     exact h1.same sd2
    ·rcases Ow.mp hx with rfl | hx
     ·exact absurd rfl hxp
     ·obtain ⟨qx,k1,k2,k3⟩:=kn x hx
      exact ⟨qx,by rw [Zd7,if_neg hxp];exact k1,k2.same (s3.d.trans sd2),k3⟩
  ·rintro σ' H' ⟨v3,v4,v5,kvs,rfl,ed,hkl,kn,sd,sm⟩
   rw [Rh,R0] at kn
   obtain ⟨q1,k1,k2,k3⟩:=kn _ (Zct [] f a)
   walk_at "r"
   refine ⟨C1,fun p9 h9=>?_⟩
   have s9:=Same.upd (o:=.tup []) h9
   have g:=DGet.t (k:=Cm []) (s9 _ _ ed) (by show _=some (HO.tup []);exact Ad)
   rw [k1] at g
   refine ⟨d,_,rfl,g,?_⟩
   rw [Zmf] at k2
   exact q q1 _ (sm.trans s9) k3 (k2.same s9.d)
noncomputable def Le (K:Og):Sp:=fun vs H Q _=>∃(v:V)(t:Tr),vs=[v]/\TrAt K H v t/\t.size<=2000/\∀(p:Addr)(rows:List V)(H':Hp),Same H H'->H p=none->H' p=some (.lst rows)->Al (RowAt K H') rows (walk [] t)->Q (.ref p) H'
theorem sc_law_walk:A1 ["_law_tree_here", "_law_rows", "_law_left", "_law_place", "_law_form_here", "_law_k"] ["_law_tree_here"] (An He):=by walk_at "sc"
noncomputable def WkJ (K:Og)(H:Hp)(v:V)(t:Tr)(pt pw:Addr)(m:Nat)(σ:St)(H':Hp):Prop:=∃(v3 v4 v5:Option V)(tv wv:List V)(dn st:List (List Nat×Tr)),σ=[some v,some (.ref pt),some (.ref pw),v3,v4,v5]/\H' pt=some (.lst tv)/\H' pw=some (.lst wv) /\
 Al (RowAt K H') tv dn/\Al (RowAt K H') wv st/\dn++Dn st=walk [] t/\m=load st/\Same H H'
theorem Znl {f:Addr}{fd:FuncData}(F:Fun K "_law_walk" "_law_walk" He f fd)(T:Txt K mg):Ar P w K mg base As 1 f fd ["_law_tree_here"] (Le K):=by
 refine F.okq sc_law_walk (fun vs H Q E h=>?_) (fun cdv A outer s H vs Q E hr h=>?_)
 ·obtain ⟨v,t,rfl,_⟩:=h
  rfl
 ·obtain ⟨v,t,rfl,ht,hz,q⟩:=h
  refine ⟨_,Ae (Aw 1 sc_law_walk (B0 Ab))
   (Ae (Aw 2 sc_law_walk (B0 (Aa (Az (Aa (Az Ab) (Aa (qv 0) Ab))) Ab)))
   (Ae (J9 O8 (A0 Dc (Ba (Bs K) (by rfl) T.len (by decide +kernel) (Aa (qv 2) Ab)) Ac (Av _)) (Ae (E7 (Gm K Pg Rp Rq Gk (qv 2)) (Eg K (n:=2) rfl (Bt (Ax (i:=3) sc_law_walk.nd rfl (Or.inl rfl)) (Bt (Ax (i:=4) sc_law_walk.nd rfl (Or.inl rfl)) (D6)))))
   (Ae (Eu (Dr K Pg Qy Qz El (qv 1) (Aa (Az (Aa (qv 3) (Aa (qv 4) Ab))) Ab)))
   (Af (Cj O8 rfl (Zhg rfl T.range (Aa (Aq Zcg (Ba (Bs K) (by rfl) T.len (by decide +kernel) (Aa (Ak K (qv 4) Ac) Ab)) Ac) (Aa (Od Mr Ac) (Aa (Od Mr Ac) Ab)))) (Ax (i:=5) sc_law_walk.nd rfl (Or.inl rfl)) (Af (Eu (Dr K Pg Qy Qz El (qv 2) (Aa (Az (Aa (Aq (Bk K) (qv 3) (Az (Aa (qv 5) Ab))) (Aa (Ak K (Ak K (qv 4) Ac) (qv 5)) Ab))) Ab)))))))))
   (Af (Aj (qv 1))))),?_⟩
  have bg:=big
  walk_at "r"
  refine ⟨C1,fun pt hpt=>?_⟩
  walk_at "r"
  refine ⟨C1,fun p0 hp0=>?_⟩
  walk_at "r"
  refine ⟨B4,fun p1 hp1=>?_⟩
  walk_at "r"
  refine ⟨Dy,fun pw hpw=>?_⟩
  walk_at "r"
  have s0:Same (upd H pt (.lst [])) _:=((Same.upd (o:=.tup []) hp0).put (o:=.tup [.ref p0,v]) hp1).put (o:=.lst [.ref p1]) hpw
  have s1:Same (upd (upd H pt (.lst [])) p0 (.tup [])) _:=(Same.upd (o:=.tup [.ref p0,v]) hp1).put (o:=.lst [.ref p1]) hpw
  have s2:=Same.upd (o:=.lst [.ref p1]) hpw
  have sH:=(Same.upd (o:=.lst []) hpt).trans s0
  have ept:=s0 pt _ Ad
  have epw:upd (upd (upd (upd H pt (.lst [])) p0 (.tup [])) p1 (.tup [.ref p0,v])) pw (.lst [.ref p1]) pw=some (.lst [.ref p1]):=Ad
  have ep0:=s1 p0 _ Ad
  have ep1:=s2 p1 _ Ad
  have npw:pt≠pw:=fun z=>by rw [z] at ept;rw [Ad] at ept;cases ept
  have hpw0:H pw=none:=((Same.upd (o:=.lst []) hpt).trans ((Same.upd (o:=.tup []) hp0).put (o:=.tup [.ref p0,v]) hp1)).free hpw
  refine ⟨WkJ K H v t pt pw,⟨_,none,none,none,[],[.ref p1],[],[([],t)],rfl,ept,epw,.nil,Al.nil.snoc ⟨p1,p0,v,rfl,SqT.of ep1,SqT.of ep0,ht.same sH⟩,by simp [Dn],rfl,sH⟩,?_⟩
  rintro m σ' H' ⟨v3,v4,v5,tv,wv,dn,st,rfl,et,ew,al1,al2,hw,rfl,sm⟩
  have hdl:dn.length+load st=t.size:=by
   have:=congrArg R7 hw
   rw [Ou,D5] at this
   exact this
  have htl:tv.length=dn.length:=al1.1
  walk_at "r"
  refine Ds (SqL.of ew) ?_
  walk_at "r"
  by_cases hwv:wv=[]
  ·subst hwv
   have hst:st=[]:=Qw al2.1.symm
   subst hst
   refine iteF ?_
   walk_at "r"
   rw [Zen,Pt] at hw
   rw [hw] at al1
   exact q pt tv H' sm hpt et al1
  obtain ⟨wv',tp,st',x,rfl,rfl,al3,hrow⟩:=al2.last hwv
  have hne:decide ((0:Int) < ((wv'++[tp]).length:Int))=true:=decide_eq_true (by rw [Ou,Pz];omega)
  rw [hne]
  refine iteT ?_
  obtain ⟨pl,tx⟩:=x
  have hx:(pl,tx)∈walk [] t:=by rw [<- hw,Jj];simp
  have hpl:pl.length<=2000:=by have:=M8 [] t _ hx;simp at this;omega
  have hload:=Zbo st' (pl,tx)
  have hll:=Zer (st'++(A9 pl 0 tx.ps).reverse)
  refine ⟨fun σ2 H2=>∃ m',m' < load (st'++[(pl,tx)])/\WkJ K H v t pt pw m' σ2 H2,fun _ _ h=>h,?_⟩
  walk_at "r"
  refine Cq (SqL.of ew) ?_
  refine Gz ew ?_
  have t1:SameT H' (upd H' pw (.lst wv')):=SameT.set ew
  have et2:upd H' pw (.lst wv') pt=some (.lst tv):=by rw [Ah npw];exact et
  obtain ⟨a,p,u,rfl,qa,qp,hu⟩:=id hrow
  refine En (t1.tup qa) rfl ?_
  walk_at "r"
  refine Cq (SqL.of et2) ?_
  walk_at "r"
  refine ⟨B4,fun pr hpr=>?_⟩
  walk_at "r"
  have s2':=Same.upd (o:=.tup [.ref p,u]) hpr
  have et2':=s2' _ _ et2
  refine Fk et2' (by omega) ?_
  have t2:SameT H' (upd (upd (upd H' pw (.lst wv')) pr (.tup [.ref p,u])) pt (.lst (tv++[.ref pr]))):=t1.trans (s2'.t.trans (SameT.set et2'))
  have et3:upd (upd (upd H' pw (.lst wv')) pr (.tup [.ref p,u])) pt (.lst (tv++[.ref pr])) pt=some (.lst (tv++[.ref pr])):=Ad
  have ew3:upd (upd (upd H' pw (.lst wv')) pr (.tup [.ref p,u])) pt (.lst (tv++[.ref pr])) pw=some (.lst wv'):=by rw [Ah npw.symm];exact s2' _ _ Ad
  have er3:upd (upd (upd H' pw (.lst wv')) pr (.tup [.ref p,u])) pt (.lst (tv++[.ref pr])) pr=some (.tup [.ref p,u]):=by rw [Ah (Bf et2 hpr).symm];exact Ad
  have sm3:Same H (upd (upd (upd H' pw (.lst wv')) pr (.tup [.ref p,u])) pt (.lst (tv++[.ref pr]))):=((sm.over hpw0).put hpr).over hpt
  revert t2 et3 ew3 sm3 er3
  generalize upd (upd (upd H' pw (.lst wv')) pr (.tup [.ref p,u])) pt (.lst (tv++[.ref pr]))=H4
  intro t2 et3 ew3 er3 sm3
  have hu4:=hu.sameT t2
  have qp4:=t2.tup qp
  have hrow4:RowAt K H4 (.ref pr) (pl,tx):=⟨pr,p,u,rfl,SqT.of er3,qp4,hu4⟩
  cases hu4 with
  | @mk b pp wd nv n vs ts qb hn qpp hl hch =>
  walk_at "r"
  refine A6 qb rfl ?_
  walk_at "r"
  refine G6 qpp ?_
  walk_at "r"
  have hvl:vs.length<=2000:=by
   have h1:=Zfc ts
   have h2:=Tr.size_eq (.mk wd n ts)
   have h3:(walk [] t).length=t.size:=D5 _ _
   have h4:(Tr.mk wd n ts).size<=L2.load (st'++[(pl,Tr.mk wd n ts)]):=by
    unfold L2.load Dn
    rw [Sd,Uq,Rs,Ti,Ou,D5]
    exact Nat.le_add_right _ _
   have h5:(Tr.mk wd n ts).ps=ts:=rfl
   rw [h5] at h2
   omega
  refine ⟨by omega,?_⟩
  have al4:Al (RowAt K H4) wv' st':=al3.mono (RowAt.same t2)
  have hkl:(A9 pl 0 ts).length=vs.length:=by rw [Lp];omega
  have hn':((vs.length:Int) - 1 - -1).toNat=vs.length:=by omega
  rw [hn']
  refine Zd6 (n:=vs.length) (fun j σ5 H5=>∃(v5:Option V)(wv5:List V),σ5=[some v,some (.ref pt),some (.ref pw),some (.ref p),some (.ref b),v5]/\H5 pt=some (.lst (tv++[.ref pr]))/\H5 pw=some (.lst wv5)/\Al (RowAt K H5) wv5 (st'++((A9 pl 0 ts).drop (vs.length - j)).reverse)/\SameT H4 H5/\Same H H5)
   ⟨_,wv',rfl,et3,ew3,by rw [R5,Q7 (by omega)];simpa using al4,SameT.refl _,sm3⟩ ?_ ?_
  ·rintro i σ5 H5 hi ⟨v5',wv5,rfl,e5t,e5w,al5,t5,sm5⟩
   have hk:(vs.length:Int) - 1 - (i:Int)=((vs.length - 1 - i:Nat):Int):=by omega
   rw [hk]
   walk_at "r"
   refine Cq (SqL.of e5w) ?_
   walk_at "r"
   refine ⟨Dy,fun p6 h6=>?_⟩
   refine Kl ((t5.trans (SameT.new h6)).tup qp4) (SqT.of Ad) (by show (Ay pl).length+1<=sizeLine;unfold Ay;rw [O1];omega) fun r H7 s7 q7=>?_
   have s57:Same H5 H7:=(Same.upd h6).trans s7
   have hj:vs.length - 1 - i < vs.length:=by omega
   walk_at "r"
   refine A6 ((t5.trans s57.t).tup qb) rfl ?_
   walk_at "r"
   refine A6 ((t5.trans s57.t).tup qpp) (Dh (Oi hj)) ?_
   walk_at "r"
   refine ⟨B4,fun p7 h7=>?_⟩
   walk_at "r"
   have s58:=s57.put (o:=.tup [.ref r,vs[vs.length - 1 - i]]) h7
   have hlw:wv5.length=st'.length+((A9 pl 0 ts).drop (vs.length - i)).length:=by have:=al5.1;simp at this ⊢;omega
   have hlk:(st'++(A9 pl 0 ts).reverse).length=st'.length+vs.length:=by rw [Ou,Tk,hkl]
   have hll':(st'++(A9 pl 0 ts).reverse).length<=2000:=by
    have h1:load (st'++(A9 pl 0 (Tr.mk wd n ts).ps).reverse) < load (st'++[(pl,Tr.mk wd n ts)]):=hload
    have h2:(st'++(A9 pl 0 (Tr.mk wd n ts).ps).reverse).length<=load (st'++(A9 pl 0 (Tr.mk wd n ts).ps).reverse):=hll
    have h3:(Tr.mk wd n ts).ps=ts:=rfl
    rw [h3] at h1 h2
    omega
   have hdr:((A9 pl 0 ts).drop (vs.length - i)).length<=vs.length:=by rw [Sj];omega
   refine Fk (s58 _ _ e5w) (by omega) ?_
   have e8w:=s58 _ _ e5w
   have t9:SameT H5 (upd (upd H7 p7 (.tup [.ref r,vs[vs.length - 1 - i]])) pw (.lst (wv5++[.ref p7]))):=s58.t.trans (SameT.set e8w)
   have hj':vs.length - 1 - i < ts.length:=by omega
   have hat:=hch _ _ _ (Oi hj) (Oi hj')
   have hkid:(A9 pl 0 ts)[vs.length - 1 - i]?=some (pl++[vs.length - 1 - i],ts[vs.length - 1 - i]):=by
    rw [Nv,Oi hj']
    simp
   refine ⟨_,wv5++[.ref p7],rfl,?_,Ad,?_,t5.trans t9,(sm5.trans s58).over hpw0⟩
   ·rw [Ah npw];exact s58 _ _ e5t
   ·rw [Zfw hkl hi hkid,<- Pp]
    refine (al5.mono (RowAt.same t9)).snoc ⟨p7,r,_,rfl,(SameT.set e8w).tup (SqT.of Ad),?_,hat.sameT (t5.trans t9)⟩
    have q9:=((SameT.new (o:=.tup [.ref r,vs[vs.length - 1 - i]]) h7).trans (SameT.set (o:=.lst (wv5++[.ref p7])) e8w)).tup q7
    have e:Ay (pl++[vs.length - 1 - i])=Ay pl++[.int ((vs.length - 1 - i:Nat):Int)]:=by unfold Ay;rw [Pm];rfl
    show SqT K _ r (Ay (pl++[vs.length - 1 - i]))
    rw [e]
    exact q9
  ·rintro σ5 H5 ⟨v5',wv5,rfl,e5t,e5w,al5,t5,sm5⟩
   rw [Rh,R0] at al5
   refine ⟨_,hload,_,_,_,tv++[.ref pr],wv5,dn++[(pl,.mk wd n ts)],_,rfl,e5t,e5w,?_,al5,?_,rfl,sm5⟩
   ·exact (al1.mono (RowAt.same (t2.trans t5))).snoc (RowAt.same t5 _ _ hrow4)
   ·rw [<- hw,Jj,Pp]
    rfl
theorem Zpq (pl:List Nat)(k:Nat):(Ay pl).take k=Ay (pl.take k):=by unfold Ay;rw [List.map_take]
noncomputable def Zei (K:Og):Sp:=fun vs H Q _=>∃(v:V)(p:Addr)(t u:Tr)(pl:List Nat),vs=[v,.ref p]/\TrAt K H v t/\SqT K H p (Ay pl)/\At t pl u/\∀ v',TrAt K H v' u->Q v' H
theorem sc_law_form:A1 ["_law_tree_here", "_law_place", "_law_form_here", "_law_k"] ["_law_tree_here", "_law_place"] (An Ic):=by walk_at "sc"
theorem Zno {f:Addr}{fd:FuncData}(F:Fun K "_law_form" "_law_form" Ic f fd)(T:Txt K mg):Ar P w K mg base As 1 f fd ["_law_tree_here", "_law_place"] (Zei K):=by
 refine F.okq sc_law_form (fun vs H Q E h=>?_) (fun cdv A outer s H vs Q E hr h=>?_)
 ·obtain ⟨v,p,t,u,pl,rfl,_⟩:=h
  rfl
 ·obtain ⟨v,p,t,u,pl,rfl,ht,hp,ha,q⟩:=h
  refine ⟨_,Ae (Aw 2 sc_law_form (qv 0))
   (Ae (Cj O8 rfl (D7 K (qv 1)) (Ax (i:=3) sc_law_form.nd rfl (Or.inl rfl)) (Af (Aw 2 sc_law_form (Ak K (Ak K (qv 2) Ac) (qv 3)))))
   (Af (Aj (qv 2)))),?_⟩
  walk_at "r"
  refine .inr (.inl ⟨p,rfl,⟨_,hp⟩,?_⟩)
  refine Zig (K:=K) (a:=p) (xs:=Ay pl) (fun i σ' H'=>∃ v' w3 m,σ'=[some v,some (.ref p),some v',w3]/\H'=H/\At t (pl.take i) m/\TrAt K H v' m) ⟨v,none,t,rfl,rfl,.nil _,ht⟩ ?_ ?_ ?_
  ·rintro i σ' H' _ ⟨_,_,_,_,rfl,_⟩
   exact hp
  ·rintro i x σ' H' hx ⟨v',w3,m,rfl,rfl,hm,hv⟩
   obtain ⟨k,rfl,hk⟩:=Zgi hx
   obtain ⟨w',n',ts,m',a1,a2,a3⟩:=ha.step hk
   cases hm.det a1
   cases hv with
   | @mk b pp _ nv _ us _ qb hn qp l hch =>
   have hku:k < us.length:=by rw [l];exact (O6.mp a2).1
   walk_at "r"
   refine A6 qb rfl ?_
   walk_at "r"
   refine A6 qp (Dh (Oi hku)) ?_
   walk_at "r"
   exact ⟨_,_,m',rfl,rfl,a3,hch k _ m' (Oi hku) a2⟩
  ·rintro σ' H' ⟨v',w3,m,rfl,rfl,hm,hv⟩
   walk_at "r"
   rw [Gq,Tw] at hm
   cases hm.det ha
   exact q v' hv
noncomputable def Lc (K:Og):Sp:=fun vs H Q _=>∃(v:V)(p:Addr)(x:V)(t u f:Tr)(pl:List Nat),vs=[v,.ref p,x]/\TrAt K H v t/\t.size<=1000/\SqT K H p (Ay pl)/\At t pl u/\TrAt K H x f/\∀ v' H',Same H H'->TrAt K H' v' (Bc t pl f)->Q v' H'
theorem At.sz {t u:Tr}{pl:List Nat}(h:At t pl u):u.size<=t.size:=by
 induction h with
 | nil t=>exact Ol _
 | cons e _ ih=>have:=Kk e;rw [Tr.size];omega
theorem Zj5:(["_law_k", "_law_place"]:List Str).Nodup:=by decide +kernel
theorem sc_law_with:A1 ["_law_tree_here", "_law_place", "_law_form_here", "_law_spots", "_law_spot", "_law_above", "_law_k"] ["_law_tree_here", "_law_place", "_law_form_here"] (An Hw):=by walk_at "sc"
theorem Zk6 {f:Addr}{fd:FuncData}(F:Fun K "_law_with" "_law_with" Hw f fd)(T:Txt K mg)(C__law_form:Ao P w K mg base 1 "_law_form" ["_law_tree_here", "_law_place"] (Zei K)):Ar P w K mg base As 2 f fd ["_law_tree_here", "_law_place", "_law_form_here"] (Lc K):=by
 refine F.okq sc_law_with (fun vs H Q E h=>?_) (fun cdv A outer s H vs Q E hr h=>?_)
 ·obtain ⟨v,p,x,t,u,f,pl,rfl,_⟩:=h
  rfl
 ·obtain ⟨v,p,x,t,u,f,pl,rfl,ht,hsz,hp,ha,hx,q⟩:=h
  refine ⟨_,Ae (Mm (i:=3) (N:=["_law_k", "_law_place"]) (σ0:=B8 1 [1]) rfl (C3 rfl (by decide +kernel) (by decide +kernel) (by decide +kernel)) (Cr rfl T.range (Aa (Ba (Bs K) (by rfl) T.len (by decide +kernel) (Aa (qv 1) Ab)) Ab)) (C0 rfl (by rfl)) (fun _ _ _ _=>Ax (i:=0) Zj5 rfl (Or.inl rfl)) (fun _ _ _ _=>C9) (fun _ _ _ _=>J4 (Mi K) (qv 1) (J1) (Ku (qv 0))) sc_law_with.nd rfl (Or.inl rfl))
   (Ae (Cj O8 rfl (Lf K rfl T.reversed (Aa (qv 3) Ab)) (Ax (i:=4) sc_law_with.nd rfl (Or.inl rfl)) (Ae (Aw 5 sc_law_with (Ai C__law_form hr.m (Aa (qv 0) (Aa (qv 4) Ab))))
   (Ae (Aw 6 sc_law_with (Ak K (qv 1) (Ba (Bs K) (by rfl) T.len (by decide +kernel) (Aa (qv 4) Ab))))
   (Af (Aw 2 sc_law_with (Az (Aa (Ak K (qv 5) Ac) (Aa (Ak K (qv 5) Ac) (Aa (Aq (Bk K) (Aq (Bk K) (J4 (Mi K) (Ak K (qv 5) Ac) (J1) (Ku (qv 6))) (Az (Aa (qv 2) Ab))) (J4 (Mi K) (Ak K (qv 5) Ac) (Ku (Aq (Bk K) (qv 6) Ac)) (J1))) Ab)))))))))
   (Af (Aj (qv 2)))),?_⟩
  have bg:=big
  have hpl:pl.length<=1000:=by have:=ha.len;omega
  walk_at "r"
  refine G6 hp ?_
  have hpn:((Ay pl).length:Int)=(pl.length:Nat):=by rw [Gq]
  rw [hpn]
  walk_at "r"
  refine ⟨by omega,by omega,fun S hS=>?_⟩
  refine G8 (n:=((pl.length:Nat):Int).toNat) (Pv:=fun i ys σ' H'=>∃ kv,σ'=[kv,some (.ref p)]/\ys.length=i/\(∀ k,k < i->∃ a,ys[k]?=some (.ref a)/\SqT K H' a (Ay (pl.take k)))/\Same H H') ⟨none,rfl,rfl,(fun k h=>by omega),Same.upd hS⟩ ?_ ?_
  ·rintro i ys σ' H' hi hys ⟨kv,rfl,hl,hall,sm⟩
   walk_at "r"
   refine Nl (sm.tup hp) fun r1 H1 s1 q1=>?_
   rw [R6,Zfu,Zpq] at q1
   walk_at "r"
   refine ⟨_,s1 _ _ hys,by omega,_,Ad,?_⟩
   have st:=SameT.set (o:=.lst (ys++[.ref r1])) (s1 _ _ hys)
   refine ⟨_,rfl,by simp [hl],fun k hk=>?_,(sm.trans s1).over hS⟩
   by_cases e:k=i
   ·subst e
    exact ⟨r1,by rw [Qi (by omega),hl];simp,st.tup q1⟩
   ·obtain ⟨a,h1,h2⟩:=hall k (by omega)
    exact ⟨a,by rw [Qj (by omega)];exact h1,st.tup (s1.tup h2)⟩
  ·rintro zs σ' H1 hzs ⟨kv,rfl,hl,hall,s1⟩
   have hl:zs.length=pl.length:=by omega
   walk_at "r"
   refine ⟨S,zs,rfl,SqL.of hzs,?_⟩
   refine Lu (K:=K) (a:=S) (xs:=zs) (fun i σ' H'=>∃ x' w4 w5 w6 m,σ'=[some v,some (.ref p),some x',some (.ref S),w4,w5,w6]/\At t (pl.take (pl.length - i)) m/\TrAt K H' x' (Bc m (pl.drop (pl.length - i)) f)/\Same H1 H') ⟨x,_,_,_,u,rfl,by rw [R5,Tw];exact ha,by rw [R5,List.drop_length,Dm];exact hx.same s1,Same.refl _⟩ ?_ ?_ ?_
   ·rintro i σ' H2 _ ⟨_,_,_,_,_,_,_,_,s2⟩
    exact SqL.of (s2 _ _ hzs)
   ·rintro i y σ' H2 hi hy ⟨x',w4,w5,w6,m,rfl,hm,hb,s2⟩
    have hk0:zs.length - 1 - i < pl.length:=by omega
    obtain ⟨k,hk⟩:∃ k,k=zs.length - 1 - i:=⟨_,rfl⟩
    rw [<- hk] at hy hk0
    obtain ⟨a,h1,h2⟩:=hall k (by omega)
    rw [hy] at h1
    cases h1
    have s02:=s1.trans s2
    have hpk:pl[k]?=some pl[k]:=Oi hk0
    obtain ⟨w',n',ts,m',a1,a2,a3⟩:=ha.step hpk
    rw [show pl.length - i=k+1 by omega] at hm hb
    cases hm.det a3
    have hsa:=a1.sz
    walk_at "r"
    refine ⟨v,a,t,_,pl.take k,rfl,ht.same s02,s2.tup h2,a1,fun v' hv'=>?_⟩
    cases hv' with
    | @mk b pp _ nv _ us _ qb hn qp l hch =>
    have hku:pl[k] < us.length:=by rw [l];exact (O6.mp a2).1
    have hul:us.length<=1000:=by have:=Zfc ts;rw [Tr.size] at hsa;omega
    walk_at "r"
    refine G6 (s2.tup h2) ?_
    walk_at "r"
    refine A6 (v:=.int (pl[k]:Nat)) (s02.tup hp) (Zkx k (by rw [Gq,Pq];omega) (by unfold Ay;rw [Qq,hpk];rfl)) ?_
    walk_at "r"
    refine A6 qb rfl ?_
    walk_at "r"
    refine A6 qb rfl ?_
    walk_at "r"
    refine A6 qb rfl ?_
    walk_at "r"
    refine Nl qp fun r1 H3 s3 q3=>?_
    rw [Zfu] at q3
    walk_at "r"
    refine ⟨Dy,fun p4 h4=>?_⟩
    have s4:=Same.upd (o:=.tup [x']) h4
    refine Kl (s4.tup q3) (SqT.of Ad) (by rw [Pq];show _+1<=sizeLine;omega) fun r5 H5 s5 q5=>?_
    have s25:=s3.trans (s4.trans s5)
    walk_at "r"
    refine A6 (s25.tup qb) rfl ?_
    walk_at "r"
    refine Nl (s25.tup qp) fun r6 H6 s6 q6=>?_
    have ek:((pl[k]:Nat):Int)+1=((pl[k]+1:Nat):Int):=by omega
    rw [ek,Zi8] at q6
    refine Kl (s6.tup q5) q6 (by rw [Ou,Pq,Sj];show _+1+_<=sizeLine;omega) fun r7 H7 s7 q7=>?_
    rw [Zih (by omega)] at q7
    walk_at "r"
    refine ⟨Cd,fun p8 h8=>?_⟩
    have s8:=Same.upd (o:=.tup [.str w',nv,.ref r7]) h8
    have s28:=s25.trans (s6.trans (s7.trans s8))
    walk_at "r"
    refine ⟨.ref p8,_,_,_,.mk w' n' ts,rfl,by rw [show pl.length - (i+1)=k by omega];exact a1,?_,s2.trans s28⟩
    rw [show pl.length - (i+1)=k by omega,Qk hk0,Ed a2]
    refine .mk (SqT.of Ad) (hn.same s28.t) (s8.tup q7) (by rw [Q1,Q1];exact l) fun j y z g1 g2=>?_
    by_cases e:pl[k]=j
    ·subst e
     rw [Rm (by omega)] at g1 g2
     cases g1
     cases g2
     exact hb.same s28
    ·rw [Tj e] at g1 g2
     exact (hch j y z g1 g2).same s28
   ·rintro σ' H2 ⟨x',w4,w5,w6,m,rfl,hm,hb,s2⟩
    rw [show pl.length - zs.length=0 by omega] at hm hb
    rw [Q5] at hm
    cases hm
    rw [R0] at hb
    walk_at "r"
    exact q x' H2 (s1.trans s2) hb
noncomputable def Zdm:Sp:=fun vs H Q _=>∃(wd:Str)(m:Nat),vs=[.str wd]/\B6 wd=some m/\∀(H':Hp),Same H H'->Q (.int m) H'
theorem Zgw:A1 ["_law_word"] ["_law_word"] (An Jg):=by walk_at "sc"
theorem Zmn {f:Addr}{fd:FuncData}(F:Fun K "_law_many" "_law_many" Jg f fd)(T:Txt K mg):Ar P w K mg base As 1 f fd ["_law_word"] Zdm:=by
 refine F.okq Zgw (fun vs H Q E h=>?_) (fun cdv A outer s H vs Q E hr h=>?_)
 ·obtain ⟨a,m,rfl,_⟩:=h
  rfl
 ·obtain ⟨wd,m,rfl,hm,q⟩:=h
  refine ⟨_,Ae (A2 (A0 (Ex K) (qv 0) (Az (Ky (xs:=[.str "plus",.str "minus",.str "less",.str "call",.str "let"]) rfl)) (by rfl)) (Af (Aj Ac)) A3)
   (Ae (A2 (A0 (Bv K hr.u200) (qv 0) Au (Av _)) (Af (Aj Ac)) A3)
   (Af (Aj (Fn Mw (by rfl) T.int (by decide +kernel) (Aa (Bx (Ex K) (qv 0) (Az (Aa Au (Aa Au Ab))) (by rfl)) Ab))))),?_⟩
  obtain ⟨e1,e2,e3,e4,_⟩:=F1 hm
  walk_at "r"
  refine ⟨sz5,fun p1 h1=>?_⟩
  refine D3 (.inr (SqT.of Ad)) rfl rfl ?_
  have s1:=Same.upd (o:=.tup [.str "plus",.str "minus",.str "less",.str "call",.str "let"]) h1
  rw [if_neg Ot,e1]
  walk_at "r"
  refine A4 (fun h=>?_) (fun h=>?_)
  ·have h:m=2:=of_decide_eq_true h
   subst h
   walk_at "r"
   exact q _ s1
  have n2:m≠2:=fun x=>h (decide_eq_true x)
  walk_at "r"
  rw [Dk,e2]
  refine A4 (fun h=>?_) (fun h=>?_)
  ·have h:m=3:=of_decide_eq_true h
   subst h
   walk_at "r"
   exact q _ s1
  have n3:m≠3:=fun x=>h (decide_eq_true x)
  walk_at "r"
  refine ⟨B4,fun p2 h2=>?_⟩
  refine D3 (.inr (SqT.of Ad)) rfl rfl ?_
  rw [if_neg Ot,e3]
  walk_at "r"
  have q':=q _ (s1.put (o:=.tup [.str "fn",.str "rec"]) h2)
  by_cases z:m=1
  ·subst z
   exact q'
  ·have z0:m=0:=by omega
   subst z0
   exact q'
noncomputable def BoxAt (H:Hp)(b:Addr):Prop:=∃ i j:Int,H b=some (.lst [.int i,.int j])/\0<=j/\j < 2147483648
theorem BoxAt.same {H H':Hp}{b:Addr}(h:BoxAt H b)(e:Same H H'):BoxAt H' b:=by
 obtain ⟨i,j,h1,h2⟩:=h
 exact ⟨i,j,e _ _ h1,h2⟩
theorem BoxAt.ne {H:Hp}{b x:Addr}(h:BoxAt H b)(hx:H x=none):x≠b:=fun z=>by
 obtain ⟨i,j,h1,_⟩:=h
 rw [<- z,hx] at h1
 cases h1
theorem BoxAt.off {H:Hp}{b x:Addr}{o:HO}(h:BoxAt H b)(hx:x≠b):BoxAt (upd H x o) b:=by
 obtain ⟨i,j,h1,h2⟩:=h
 exact ⟨i,j,by rw [Ah hx.symm];exact h1,h2⟩
theorem _root_.L2.Same.b {H H':Hp}(e:Same H H')(a:Addr):SameB a H H':=fun b o _ h=>e b o h
theorem SameB.trans {a:Addr}{H H1 H2:Hp}(e:SameB a H H1)(e':SameB a H1 H2):SameB a H H2:=fun b o hb h=>e' b o hb (e b o hb h)
theorem SameB.over {b x:Addr}{H H':Hp}{o:HO}(e:SameB b H H')(h:H x=none):SameB b H (upd H' x o):=fun c o' hc hs=>by
 have:c≠x:=fun z=>by rw [z,h] at hs;cases hs
 rw [Ah this];exact e c o' hc hs
theorem SameB.self {b:Addr}{H:Hp}{o:HO}:SameB b H (upd H b o):=fun c o' hc hs=>by rw [Ah hc];exact hs
theorem SameB.t {b:Addr}{H H':Hp}(e:SameB b H H')(h:BoxAt H b):SameT H H':=fun c=>by
 obtain ⟨i,j,h1,_⟩:=h
 exact ⟨fun xs hx=>e c _ (fun z=>by rw [z,h1] at hx;cases hx) hx,fun o u hx=>e c _ (fun z=>by rw [z,h1] at hx;cases hx) hx⟩
theorem SameB.free {b x:Addr}{H H':Hp}(e:SameB b H H')(hb:x≠b)(h:H' x=none):H x=none:=by
 cases q:H x with
 | none=>rfl
 | some o=>rw [e x o hb q] at h;cases h
noncomputable def Du:Sp:=fun vs H Q _=>∃(b:Addr)(m:Int),vs=[.ref b,.int m]/\BoxAt H b/\0 < m/\m<=10 ^ 18/\∀(d:Int)(H':Hp),SameB b H H'->BoxAt H' b->0<=d->d < m->Q (.int d) H'
theorem sc_law_digit:A1 ["_law_box_here", "_law_many_here", "_law_digit_here", "_law_mixed"] ["_law_box_here", "_law_many_here"] (An Jq):=by walk_at "sc"
theorem Zi3 {f:Addr}{fd:FuncData}(F:Fun K "_law_digit" "_law_digit" Jq f fd)(T:Txt K mg):Ar P w K mg base As 1 f fd ["_law_box_here", "_law_many_here"] Du:=by
 refine F.okq sc_law_digit (fun vs H Q E h=>?_) (fun cdv A outer s H vs Q E hr h=>?_)
 ·obtain ⟨b,m,rfl,_⟩:=h
  rfl
 ·obtain ⟨b,m,rfl,⟨i,j,eb,j0,j1⟩,m0,m1,q⟩:=h
  refine ⟨_,Ae (A2 (A0 (Ho K) (Ak K (qv 0) Ac) (Az (Aa Ac (Aa (Od Mr Ac) Ab))) (by rfl)) (Ae (E7 (Ba Znk (by rfl) T.divmod (by decide +kernel) (Aa (Ak K (qv 0) Ac) (Aa (qv 1) Ab))) (Eg K (n:=2) rfl (Bt (N2 (qv 0) Ac Lh) (Bt (Ax (i:=2) sc_law_digit.nd rfl (Or.inl rfl)) (D6)))))
   (Af (Aj (qv 2)))) A3)
   (Ae (E7 (Aq Ea (Aq (Bk K) (Aq Ee (Ak K (qv 0) Ac) Ac) Ac) Ac) (N2 (qv 0) Ac Lh))
   (Ae (Aw 3 sc_law_digit (Aq Ea (Aq Ee (Ak K (qv 0) Ac) (Aq (Bk K) (Aq Ea (Ak K (qv 0) Ac) Ac) Ac)) Ac))
   (Ae (A2 (A0 Dc (qv 1) (Aq Zak Ac Ac) (Av _)) (Af (Aw 3 sc_law_digit (Aq Ee (Aq Ee (qv 3) (qv 3)) (qv 3)))) A3)
   (Af (Aj (Aq Ea (qv 3) (qv 1))))))),?_⟩
  walk_at "r"
  refine Bj (SqL.of eb) (v:=.int i) rfl ?_
  walk_at "r"
  refine ⟨B4,fun p hp=>?_⟩
  have s1:=Same.upd (o:=.tup [.int 0,.int (-1)]) hp
  refine D3 (.inr (SqT.of Ad)) rfl rfl ?_
  have eb1:=s1 _ _ eb
  revert s1 eb1
  generalize upd H p _=H1
  intro s1 eb1
  walk_at "r"
  refine A4 (fun _=>?_) (fun _=>?_)
  ·walk_at "r"
   refine Bj (SqL.of eb1) (v:=.int i) rfl ?_
   walk_at "r"
   refine ⟨i,m,rfl,m0,m1,fun p2 h2=>?_⟩
   have s2:=Same.upd (o:=.tup [.int (i / m),.int (i % m)]) h2
   refine En (SqT.of Ad) rfl ?_
   walk_at "r"
   refine Mq (s2 _ _ eb1) (j:=0) rfl ?_
   walk_at "r"
   exact q _ _ (((s1.trans s2).b b).trans SameB.self) ⟨_,_,Ad,j0,j1⟩ (Qs _ (by omega)) (Qp _ m0)
  walk_at "r"
  refine Bj (SqL.of eb1) (v:=.int j) rfl ?_
  walk_at "r"
  refine Mq eb1 (j:=1) rfl ?_
  have j2:=Qs (j * 69621+104729) (b:=2147483587) (by decide)
  have j3:=Qp (j * 69621+104729) (b:=2147483587) (by decide)
  have eb2:upd H1 b (.lst ([.int i,.int j].set 1 (.int ((j * 69621+104729) % 2147483587)))) b=some (.lst [.int i,.int ((j * 69621+104729) % 2147483587)]):=Ad
  have sb2:SameB b H (upd H1 b (.lst ([.int i,.int j].set 1 (.int ((j * 69621+104729) % 2147483587))))):=(s1.b b).trans SameB.self
  revert eb2 sb2 j2 j3
  generalize upd H1 b _=H2
  generalize (j * 69621+104729) % 2147483587=j'
  intro j2 j3 eb2 sb2
  walk_at "r"
  refine Bj (SqL.of eb2) (v:=.int j') rfl ?_
  walk_at "r"
  refine Bj (SqL.of eb2) (v:=.int j') rfl ?_
  walk_at "r"
  refine s_mul_l (by omega) (by omega) ?_
  walk_at "r"
  have k2:=Qs (j' * (j' % 16807+1)) (b:=2147483579) (by decide)
  have k3:=Qp (j' * (j' % 16807+1)) (b:=2147483579) (by decide)
  revert k2 k3
  generalize j' * (j' % 16807+1) % 2147483579=k
  intro k2 k3
  refine A4 (fun _=>?_) (fun _=>?_)
  ·walk_at "r"
   refine s_mul_l (by omega) (by omega) ?_
   walk_at "r"
   refine s_mul_r (by omega) (by omega) ?_
   walk_at "r"
   refine s_rI m0 ?_
   exact q _ _ sb2 ⟨_,_,eb2,j2,by omega⟩ (Qs _ (by omega)) (Qp _ m0)
  ·walk_at "r"
   refine s_rI m0 ?_
   exact q _ _ sb2 ⟨_,_,eb2,j2,by omega⟩ (Qs _ (by omega)) (Qp _ m0)
theorem Lx {ns:List Int}{i:Int}(h0:0<=i)(h1:i < (ns.length:Nat)):∃ y:Int,Bm (ns.map V.int) i=some (.int y):=by
 obtain ⟨v,hv,m⟩:=Fs (xs:=ns.map V.int) (i:=i) h0 (by rw [O1];exact h1)
 obtain ⟨y,_,rfl⟩:=List.mem_map.mp m
 exact ⟨y,hv⟩
noncomputable def Zbq (K:Og):Sp:=fun vs H Q _=>∃(a:Addr)(k:Int),vs=[.ref a,.int k]/\Script K H a/\0<=k/\k<=3/\∀(b:Addr)(H':Hp),Same H H'->H b=none->BoxAt H' b->Q (.ref b) H'
theorem sc_law_box:A1 ["_law_script", "_law_k", "_law_many_here", "_law_mixed", "_law_j", "_law_cell"] ["_law_script", "_law_k"] (An Hj):=by walk_at "sc"
theorem Znq {f:Addr}{fd:FuncData}(F:Fun K "_law_box" "_law_box" Hj f fd)(T:Txt K mg):Ar P w K mg base As 1 f fd ["_law_script", "_law_k"] (Zbq K):=by
 refine F.okq sc_law_box (fun vs H Q E h=>?_) (fun cdv A outer s H vs Q E hr h=>?_)
 ·obtain ⟨a,k,rfl,_⟩:=h
  rfl
 ·obtain ⟨a,k,rfl,⟨ns,hS,hn⟩,k0,k1,q⟩:=h
  refine ⟨_,Ae (Aw 2 sc_law_box (Ba (Bs K) (by rfl) T.len (by decide +kernel) (Aa (qv 0) Ab)))
   (Ae (Aw 3 sc_law_box (Aq (Bk K) (Aq Ee Ac (qv 2)) (Aq Ee Ac (qv 1))))
   (Ae (Cj O8 rfl (Cr rfl T.range (Aa (Ba (Ziu rfl) (by rfl) T.min (by decide +kernel) (Aa (qv 2) (Aa Ac Ab))) Ab)) (Ax (i:=4) sc_law_box.nd rfl (Or.inl rfl)) (Ae (Aw 5 sc_law_box (Aq Ea (Ak K (qv 0) (Aq Ea (Aq (Bk K) (Aq Ee Ac (qv 1)) (qv 4)) (qv 2))) Ac))
   (Ae (Aw 3 sc_law_box (Aq (Bk K) (Aq Ee (qv 3) Ac) (Aq Ee (qv 5) (Aq (Bk K) (qv 4) Ac))))
   (Af (Aw 3 sc_law_box (Aq Ea (Aq Ee (qv 3) (Aq (Bk K) (Aq Ea (qv 3) Ac) Ac)) Ac))))))
   (Ae (A2 (QW.qt (Gi (A0 Dc (qv 2) Ac (Av _)) (Jb (A0 (Bv K hr.u200) (Aq Ea (Ak K (qv 0) Ac) Ac) Ac (Av _))))) (Af (Aj (B0 (Aa (Aq Zlt (Ak K (qv 0) (Aq Ea (qv 1) (qv 2))) Ac) (Aa (qv 3) Ab))))) A3)
   (Af (Aj (B0 (Aa Ac (Aa (qv 3) Ab)))))))),?_⟩
  have bg:=big
  have hl:(ns.map V.int).length=ns.length:=O1 ..
  walk_at "r"
  refine Ds hS ?_
  rw [hl]
  walk_at "r"
  refine ⟨_,_,rfl,?_⟩
  have mn:∃ z:Nat,(if (8:Int) < (ns.length:Nat) then (8:Int) else (ns.length:Nat))=(z:Nat)/\z<=ns.length:=by
   by_cases h:(8:Int) < (ns.length:Nat)
   ·exact ⟨8,by rw [if_pos h];rfl,by omega⟩
   ·exact ⟨ns.length,by rw [if_neg h],Ol _⟩
  obtain ⟨z,ez,hz⟩:=mn
  rw [ez]
  walk_at "r"
  refine ⟨by omega,by omega,?_⟩
  refine Fj (n:=((z:Nat):Int).toNat) (fun i σ' H'=>∃(x:Int)(v4 v5:Option V),σ'=[some (.ref a),some (.int k),some (.int (ns.length:Nat)),some (.int x),v4,v5]/\H'=H/\0<=x/\x < 2147483648) ⟨_,_,_,rfl,rfl,by omega,by omega⟩ ?_ ?_
  ·rintro i σ' H' hi ⟨x,v4,v5,rfl,rfl,x0,x1⟩
   have hp:0 < ns.length:=by omega
   walk_at "r"
   refine s_rI (by omega) ?_
   obtain ⟨y,hy⟩:=Lx (ns:=ns) (i:=(11 * k+(0+(i:Int))) % ((ns.length:Nat):Int)) (Qs _ (by omega)) (Qp _ (by omega))
   refine Bj hS hy ?_
   walk_at "r"
   have y2:=Qs y (b:=2147483647) (by decide)
   have y3:=Qp y (b:=2147483647) (by decide)
   revert y2 y3
   generalize y % 2147483647=y'
   intro y2 y3
   refine s_mul_l (by omega) (by omega) ?_
   walk_at "r"
   generalize x * 48271+y' * (0+(i:Int)+2)=c
   refine s_mul_r (by omega) (by omega) ?_
   walk_at "r"
   exact ⟨_,_,_,rfl,rfl,Qs _ (by decide),by have:=Qp (c * (c % 104729+1)) (b:=2147483587) (by decide);omega⟩
  ·rintro σ' H' ⟨x,v4,v5,rfl,rfl,x0,x1⟩
   have fin:∀ y:Int,([V.int y,.int x]:List V).length<=sizeLine/\∀ p,H' p=none->Q (.ref p) (upd H' p (.lst [.int y,.int x])):=fun y=>⟨B4,fun p hp=>q p _ (Same.upd hp) hp ⟨y,x,Ad,x0,x1⟩⟩
   walk_at "r"
   by_cases hp:0 < ns.length
   ·rw [decide_eq_true (show (0:Int) < ((ns.length:Nat):Int) by omega)]
    walk_at "r"
    obtain ⟨y,hy⟩:=Lx (ns:=ns) (i:=0) (by omega) (by omega)
    refine Bj hS hy ?_
    walk_at "r"
    refine A4 (fun _=>?_) (fun _=>?_)
    ·walk_at "r"
     refine s_rI (by omega) ?_
     obtain ⟨y',hy'⟩:=Lx (ns:=ns) (i:=k % ((ns.length:Nat):Int)) (Qs _ (by omega)) (Qp _ (by omega))
     refine Bj hS hy' ?_
     walk_at "r"
     exact fin _
    ·walk_at "r"
     exact fin _
   ·rw [decide_eq_false (show ¬ (0:Int) < ((ns.length:Nat):Int) by omega)]
    walk_at "r"
    exact fin _
end
theorem Zgr:LET.cps.toList.length=27:=by decide +kernel
theorem Zjh:LET.length<=sizeLine:=by decide +kernel
theorem Lm (u v:Str):(u++v).length=u.length+v.length:=by
 show (u.cps++v.cps).size=_
 simp [Str.length]
theorem J3 (t u:Str):(t++u).cps.toList=t.cps.toList++u.cps.toList:=by
 show (t.cps++u.cps).toList=_
 simp
theorem Zex (cs:List Nat):Txt.join "" (cs.map fun k=>(⟨#[k]⟩:Str))=⟨cs.toArray⟩:=by
 have e:("" : Str)=⟨#[]⟩:=by decide +kernel
 unfold Txt.join
 rw [PySem.StrLaws.glued_eq_join,e,PyProof.Rows.join_ones]
theorem Zd5 (cs:List Nat):((cs.map fun k=>(⟨#[k]⟩:Str)).map (·.length)).sum=cs.length:=by
 induction cs with
 | nil=>rfl
 | cons c r ih=>rw [O9,O9,List.sum_cons,ih,Ox];show 1+_=_;omega
theorem e0:(Pw "").length=0:=by decide +kernel
theorem M2 {t s:Str}{d:Nat}(h:d∈t.cps.toList)(hs:¬ d∈s.cps.toList):Bg t s=false:=by
 cases e:Bg t s with
 | false=>rfl
 | true=>exact absurd (of_decide_eq_true (O4.mp e d h)) hs
theorem Js {t s:Str}(h:∀ c∈t.cps.toList,c∈s.cps.toList):Bg t s=true:=O4.mpr fun c hc=>decide_eq_true (h c hc)
noncomputable def SIG91:Str := "!\"#$&'*+,-./0123456789:;<=>?@ABCDEFGHIJKLMNOPQRSTUVWXYZ[\\]^_`abcdefghijklmnopqrstuvwxyz{|}~"
theorem Zi2:SIG91.cps.toList.length=91:=by decide +kernel
theorem Zox:SIG91.length<=sizeLine:=by decide +kernel
theorem Zo1:SIG91.cps.toList.all C8=true:=by decide +kernel
theorem Zmy (x:Str)(l u:Option Int):(P4 x l u).length<=(S9 l u 1 x.length).length:=by
 unfold P4
 split
 ·rename_i h
  simp at h
  omega
 ·show (List.toArray _).size<=_
  rw [On]
  exact List.length_filterMap_le ..
theorem Zdj (t:Str):(P4 t (some 1) none).length+1<=t.length\/(P4 t (some 1) none).length=0:=by
 have h2:=Zmy t (some 1) none
 have h3:(S9 (some 1) none 1 t.length).length+1<=t.length\/(S9 (some 1) none 1 t.length).length=0:=by
  unfold S9 sliceRange
  simp only [show (1:Int) > 0 by decide,if_true,O1,List.length_range]
  (repeat' split) <;> (try simp only [Int.ediv_one]) <;> omega
 omega
section
variable {P:Program}{w:World}{K:Og}{mg:Str->Option Value}{base:Heap}
theorem in9 (t:Str):Cv (.str t) [.str "let",.str "in",.str "if",.str "then",.str "else",.str "fn",.str "rec",.str "yes",.str "no"]=Bu t W9:=by
 have:=Fw (t:=t) (ws:=W9)
 rw [<- this]
 rfl
theorem Zbw:("_" : Str).cps.toList=[95]:=by decide +kernel
theorem Zg4:95∈LET.cps.toList:=by decide +kernel
theorem Zmd:W9.all (fun t=>!decide (95∈t.cps.toList))=true:=by decide +kernel
theorem Zlw {t:Str}(h:Bg t LET=true)(h2:t.length<=7):Bd (("_" : Str)++t)=true:=by
 have l1:(Pw "_").length=1:=by decide +kernel
 have m:95∈(("_" : Str)++t).cps.toList:=by rw [J3,Zbw];simp
 have a:Bg (("_" : Str)++t) LET=true:=Js fun c hc=>by
  rw [J3,Zbw] at hc
  rcases Pr.mp hc with hc | hc
  ·rw [Qo.mp hc];exact Zg4
  ·exact of_decide_eq_true (O4.mp h c hc)
 have n:Bu (("_" : Str)++t) W9=false:=Ik fun hm=>by
  have:=O4.mp Zmd _ hm
  simp only [Tt,decide_eq_false_iff_not] at this
  exact this m
 unfold Bd
 rw [a,n,Lm,l1,decide_eq_true (by omega),decide_eq_true (by omega)]
 rfl
noncomputable def M3:Sp:=fun vs H Q _=>∃ b:Addr,vs=[.ref b]/\BoxAt H b/\∀(t:Str)(H':Hp),SameB b H H'->BoxAt H' b->Bd t=true->Q (.str t) H'
theorem Znj:(["_law_k", "_law_box_here"]:List Str).Nodup:=by decide +kernel
theorem sc_law_name:A1 ["_law_box_here", "_law_signs", "_law_name_here"] ["_law_box_here"] (An Ia):=by walk_at "sc"
theorem Zou {f:Addr}{fd:FuncData}(F:Fun K "_law_name" "_law_name" Ia f fd)(T:Txt K mg)(C__law_digit:Ao P w K mg base 1 "_law_digit" ["_law_box_here", "_law_many_here"] Du):Ar P w K mg base As 2 f fd ["_law_box_here"] M3:=by
 refine F.okq sc_law_name (fun vs H Q E h=>?_) (fun cdv A outer s H vs Q E hr h=>?_)
 ·obtain ⟨b,rfl,_⟩:=h
  rfl
 ·obtain ⟨b,rfl,hb,q⟩:=h
  refine ⟨_,Ae (Mm (i:=1) (N:=["_law_k", "_law_box_here"]) (σ0:=B8 1 [0]) rfl (C3 rfl (by decide +kernel) (by decide +kernel) (by decide +kernel)) (Cr rfl T.range (Aa (Aq (Bk K) Ac (Ai C__law_digit hr.m (Aa (qv 0) (Aa Ac Ab)))) Ab)) (C0 rfl (by rfl)) (fun _ _ _ _=>Ax (i:=0) Znj rfl (Or.inl rfl)) (fun _ _ _ _=>C9) (fun _ _ _ _=>Kd (N4 K) Au (Ai C__law_digit hr.m (Aa (qv 1) (Aa Ac Ab))) (fun _ _=>rfl)) sc_law_name.nd rfl (Or.inl rfl))
   (Ae (Aw 2 sc_law_name (Dr K PySem.F.plainAttrs_str PySem.F.slot_str_join PySem.F.type_str_join (Za0 K) Au (Aa (qv 1) Ab)))
   (Ae (A2 (A0 (Ex K) (qv 2) (Az (Ky (xs:=[.str "let",.str "in",.str "if",.str "then",.str "else",.str "fn",.str "rec",.str "yes",.str "no"]) rfl)) (by rfl)) (Af (Aw 2 sc_law_name (Aq (Bk K) Au (J4 (k_sl K) (qv 2) (Ku Ac) (J1))))) A3)
   (Af (Aj (qv 2))))),?_⟩
  have bg:=big
  walk_at "r"
  refine ⟨b,8,rfl,hb,by decide,by decide,fun d H1 s1 b1 d0 d1=>?_⟩
  walk_at "r"
  refine ⟨by omega,by omega,fun D hD=>?_⟩
  have nD:=b1.ne hD
  refine G8 (n:=(1+d).toNat) (Pv:=fun i ys σ' H'=>∃ kv cs,σ'=[kv,some (.ref b)]/\ys=(cs.map fun k=>(⟨#[k]⟩:Str)).map V.str/\cs.length=i/\(∀ c∈cs,c∈LET.cps.toList)/\BoxAt H' b/\SameB b H1 H') ⟨none,[],rfl,rfl,rfl,(fun c h=>nomatch h),b1.off nD,(Same.upd hD).b b⟩ ?_ ?_
  ·rintro i ys σ' H' hi hys ⟨kv,cs,rfl,rfl,hl,hc,bb,sb⟩
   walk_at "r"
   refine ⟨b,27,rfl,bb,by decide,by decide,fun e H2 s2 b2 e0 e1=>?_⟩
   obtain ⟨c,hc1,hcm⟩:=Fs (xs:=LET.cps.toList) (i:=e) e0 (by rw [Zgr];exact e1)
   refine Kc Zjh hc1 ?_
   walk_at "r"
   have ey:=s2 _ _ nD hys
   refine ⟨_,ey,by rw [O1,O1];omega,_,Ad,?_⟩
   refine ⟨_,cs++[c],rfl,by simp,by simp [hl],fun c' h'=>?_,b2.off nD,(sb.trans s2).over hD⟩
   rcases Pr.mp h' with h' | h'
   ·exact hc c' h'
   ·rw [Qo.mp h'];exact hcm
  ·rintro ys σ' H2 hys ⟨kv,cs,rfl,rfl,hl,hc,bb,sb⟩
   walk_at "r"
   refine ⟨rfl,?_⟩
   walk_at "r"
   refine Zfg (K:=K) (SqL.of hys) (by rw [Zd5,e0];omega) ?_
   rw [Zex]
   have al:Bg (⟨cs.toArray⟩:Str) LET=true:=Js fun c h=>hc c (by simpa using h)
   have ln:(⟨cs.toArray⟩:Str).length=cs.length:=by show cs.toArray.size=_;simp
   generalize (⟨cs.toArray⟩:Str)=t at al ln
   walk_at "r"
   refine ⟨sz9,fun p3 h3=>?_⟩
   have n3:=bb.ne h3
   have s3:=Same.upd (o:=.tup [.str "let",.str "in",.str "if",.str "then",.str "else",.str "fn",.str "rec",.str "yes",.str "no"]) h3
   refine D3 (.inr (SqT.of Ad)) rfl rfl ?_
   rw [if_neg Ot,in9]
   have sF:=s1.trans (sb.trans (s3.b b))
   have bF:=bb.same s3
   cases hw:Bu t W9 with
   | false =>
    walk_at "r"
    refine q t _ sF bF ?_
    unfold Bd
    rw [al,hw,decide_eq_true (by omega),decide_eq_true (by omega)]
    rfl
   | true =>
    walk_at "r"
    refine Zkf (by omega) ?_
    refine Zd0 (by have:=Zdj t;have l1:(Pw "_").length=1:=(by decide +kernel);omega) ?_
    walk_at "r"
    exact q _ _ sF bF (Zlw (Js fun c h=>of_decide_eq_true (O4.mp al c (Zh0 h))) (by have:=Zdj t;omega))
noncomputable def PoolAt (H:Hp)(p:Addr):Prop:=∃ t0 t1 t2:Str,H p=some (.lst [.str t0,.str t1,.str t2])/\Bd t0=true/\Bd t1=true/\Bd t2=true
theorem PoolAt.sameB {H H':Hp}{p b:Addr}(h:PoolAt H p)(n:p≠b)(e:SameB b H H'):PoolAt H' p:=by
 obtain ⟨t0,t1,t2,h1,h2⟩:=h
 exact ⟨t0,t1,t2,e _ _ n h1,h2⟩
theorem Zne {t0 t1 t2:Str}(n0:Bd t0=true)(n1:Bd t1=true)(n2:Bd t2=true){e:Int}(h0:0<=e)(h1:e < 3):∃ t:Str,Bm ([.str t0,.str t1,.str t2]:List V) e=some (.str t)/\Bd t=true:=by
 obtain ⟨v,hv,m⟩:=Fs (xs:=([.str t0,.str t1,.str t2]:List V)) (i:=e) h0 h1
 simp only [Ow,P8,or_false] at m
 rcases m with h | h | h <;> exact ⟨_,by rw [hv,h],by assumption⟩
noncomputable def Zde:Sp:=fun vs H Q _=>∃ b p:Addr,vs=[.ref b,.ref p]/\BoxAt H b/\PoolAt H p/\p≠b/\∀(t:Str)(H':Hp),SameB b H H'->BoxAt H' b->Bd t=true->Q (.str t) H'
theorem Zjj:A1 ["_law_box_here", "_law_pool"] ["_law_box_here", "_law_pool"] (An Ha):=by walk_at "sc"
theorem Zhp {f:Addr}{fd:FuncData}(F:Fun K "_law_one_of" "_law_one_of" Ha f fd)(T:Txt K mg)(C__law_digit:Ao P w K mg base 1 "_law_digit" ["_law_box_here", "_law_many_here"] Du)(C__law_name:Ao P w K mg base 2 "_law_name" ["_law_box_here"] M3):Ar P w K mg base As 3 f fd ["_law_box_here", "_law_pool"] Zde:=by
 refine F.okq Zjj (fun vs H Q E h=>?_) (fun cdv A outer s H vs Q E hr h=>?_)
 ·obtain ⟨b,p,rfl,_⟩:=h
  rfl
 ·obtain ⟨b,p,rfl,hb,hp,np,q⟩:=h
  refine ⟨_,Ae (A2 (A0 Dc (Ai C__law_digit hr.m (Aa (qv 0) (Aa Ac Ab))) Ac (Av _)) (Af (Aj (Ak K (qv 1) (Ai C__law_digit hr.m (Aa (qv 0) (Aa Ac Ab)))))) A3)
   (Af (Aj (Ai C__law_name hr.m (Aa (qv 0) Ab)))),?_⟩
  walk_at "r"
  refine ⟨b,4,rfl,hb,by decide,by decide,fun d H1 s1 b1 d0 d1=>?_⟩
  have hp1:=hp.sameB np s1
  walk_at "r"
  refine A4 (fun _=>?_) (fun _=>?_)
  ·walk_at "r"
   refine ⟨b,3,rfl,b1,by decide,by decide,fun e H2 s2 b2 e0 e1=>?_⟩
   obtain ⟨t0,t1,t2,hq,n0,n1,n2⟩:=hp1.sameB np s2
   obtain ⟨t,ht,hn⟩:=Zne n0 n1 n2 e0 e1
   refine Bj (SqL.of hq) ht ?_
   exact q t H2 (s1.trans s2) b2 hn
  ·walk_at "r"
   exact ⟨b,rfl,b1,fun t H2 s2 b2 hn=>q t H2 (s1.trans s2) b2 hn⟩
noncomputable def Li:Sp:=fun vs H Q _=>∃ t u:Str,vs=[.str t,.str u]/\t.length<=1000/\u.length<=1000/\Q (.bl (Bg t u)) H
theorem sc_law_all_of:A1 ["_law_text", "_law_signs", "_law_sign"] ["_law_text", "_law_signs"] (An Hd):=by walk_at "sc"
theorem Zon {f:Addr}{fd:FuncData}(F:Fun K "_law_all_of" "_law_all_of" Hd f fd)(T:Txt K mg):Ar P w K mg base As 1 f fd ["_law_text", "_law_signs"] Li:=by
 refine F.okq sc_law_all_of (fun vs H Q E h=>?_) (fun cdv A outer s H vs Q E hr h=>?_)
 ·obtain ⟨t,u,rfl,_⟩:=h
  rfl
 ·obtain ⟨t,u,rfl,hl,hu,q⟩:=h
  refine ⟨_,Ae (Cj O8 rfl (D7 K (qv 0)) (Ax (i:=2) sc_law_all_of.nd rfl (Or.inl rfl)) (Af (A2 (A0 (Ho K) (qv 2) (qv 1) (by rfl)) (Af (Aj Di)) A3)))
   (Af (Aj Di)),?_⟩
  have bg:=big
  walk_at "r"
  refine .inr (.inr ⟨t,rfl,?_⟩)
  refine Zkj (z:=t) (fun i σ' H'=>∃ v2,σ'=[some (.str t),some (.str u),v2]/\H'=H/\∀ c∈t.cps.toList.take i,c∈u.cps.toList) ⟨_,rfl,rfl,by simp⟩ ?_ ?_
  ·rintro i c σ' H' hc ⟨v2,rfl,rfl,ha⟩
   walk_at "r"
   refine .inr ⟨c,u,rfl,rfl,?_⟩
   rw [if_pos rfl]
   by_cases h:c∈u.cps.toList
   ·rw [decide_eq_true h]
    walk_at "r"
    refine ⟨_,rfl,rfl,fun d hd=>?_⟩
    rw [Rt,hc] at hd
    rcases Pr.mp hd with hd | hd
    ·exact ha d hd
    ·have:d=c:=by simpa using hd
     rw [this];exact h
   ·rw [decide_eq_false h]
    walk_at "r"
    rw [M2 (Oz hc) h] at q
    exact q
  ·rintro σ' H' ⟨v2,rfl,rfl,ha⟩
   walk_at "r"
   rw [Qd (by simp)] at ha
   rw [Js ha] at q
   exact q
theorem in3 (t:Str):Cv (.str t) [.str "in",.str "then",.str "else"]=Bu t W3:=by
 have:=Fw (t:=t) (ws:=W3)
 rw [<- this]
 rfl
theorem in4 (t:Str):Cv (.str t) [.str "?",.str "+",.str "-",.str "<"]=Bu t S4:=by
 have:=Fw (t:=t) (ws:=S4)
 rw [<- this]
 rfl
theorem Zdu:("!" : Str).cps.toList=[33]:=by decide +kernel
theorem Zk0:(!decide (33∈LET.cps.toList) && !decide (33∈DIG.cps.toList) && W10.all fun x=>!decide (33∈x.cps.toList))=true:=by decide +kernel
theorem Zj9 {t:Str}(h2:t.length<=59)(ho:∀ c∈t.cps.toList,C8 c=true):Fv (t++("!" : Str))=true:=by
 have hn:=Zk0
 simp only [Pa,Tt,decide_eq_false_iff_not] at hn
 obtain ⟨⟨n1,n2⟩,n3⟩:=hn
 have hd:33∈(t++("!" : Str)).cps.toList:=by rw [J3,Zdu];simp
 have l1:(Pw "!").length=1:=by decide +kernel
 have hl:(t++("!" : Str)).length=t.length+1:=by rw [Lm,l1]
 have o:(t++("!" : Str)).cps.toList.all C8=true:=O4.mpr fun c hc=>by
  rw [J3,Zdu] at hc
  rcases Pr.mp hc with hc | hc
  ·exact ho c hc
  ·rw [Qo.mp hc];decide +kernel
 unfold Fv Bd Ey
 rw [M2 hd n1,M2 hd n2,decide_eq_true (show 1<=(t++("!" : Str)).length by omega),decide_eq_true (show (t++("!" : Str)).length<=60 by omega),o,Ik (t:=t++("!" : Str)) (ws:=W10) (fun m=>by
  have:=O4.mp n3 _ m
  simp only [Tt,decide_eq_false_iff_not] at this
  exact this hd)]
 simp
theorem Zhb:W3.all Fv=true:=by decide +kernel
theorem Zga:W10.all (fun t=>(decide (t.length<=8) && Bg t LET) || Bu t S4)=true:=by decide +kernel
theorem Zng {t:Str}(h1:1<=t.length)(h2:t.length<=60)(ho:∀ c∈t.cps.toList,C8 c=true)(a:¬ (t.length<=8/\Bg t LET=true))(b:¬ (t.length<=18/\Bg t DIG=true/\(t = "0" \/ F5 t=false)))(c:Bu t S4=false):Fv t=true:=by
 have n:Bd t=false:=by
  cases e:Bd t with
  | false=>rfl
  | true=>exact absurd ⟨(Gj e).2,(Gj e).1⟩ a
 have f:Ey t=false:=by
  cases e:Ey t with
  | false=>rfl
  | true =>
   unfold Ey at e
   simp only [Pa,T1,decide_eq_true_eq,beq_iff_eq,Tt] at e
   exact absurd ⟨e.1.1.2,e.1.2,e.2⟩ b
 have w:Bu t W10=false:=Ik fun m=>by
  have:=O4.mp Zga t m
  simp only [T1,Pa,decide_eq_true_eq,c] at this
  rcases this with h | h
  ·exact a h
  ·cases h
 unfold Fv
 rw [n,f,w,decide_eq_true h1,decide_eq_true h2,O4.mpr ho]
 rfl
theorem Zhz:S4.all (fun t=>decide (t.length<=8))=true:=by decide +kernel
noncomputable def Zbh:Sp:=fun vs H Q _=>∃ b:Addr,vs=[.ref b]/\BoxAt H b/\∀(t:Str)(H':Hp),SameB b H H'->BoxAt H' b->Fv t=true->t.length<=60->Q (.str t) H'
theorem Zm1:(["_law_k", "_law_signs", "_law_box_here"]:List Str).Nodup:=by decide +kernel
theorem sc_law_odd:A1 ["_law_box_here", "_law_signs", "_law_many_here", "_law_text"] ["_law_box_here"] (An Hv):=by walk_at "sc"
theorem Zgx {f:Addr}{fd:FuncData}(F:Fun K "_law_odd" "_law_odd" Hv f fd)(T:Txt K mg)(C__law_digit:Ao P w K mg base 1 "_law_digit" ["_law_box_here", "_law_many_here"] Du)(C__law_all_of:Ao P w K mg base 1 "_law_all_of" ["_law_text", "_law_signs"] Li):Ar P w K mg base As 2 f fd ["_law_box_here"] Zbh:=by
 refine F.okq sc_law_odd (fun vs H Q E h=>?_) (fun cdv A outer s H vs Q E hr h=>?_)
 ·obtain ⟨b,rfl,_⟩:=h
  rfl
 ·obtain ⟨b,rfl,hb,q⟩:=h
  refine ⟨_,Ae (L5 (i:=1) sc_law_odd.nd rfl (Or.inr rfl) Au)
   (Ae (Aw 2 sc_law_odd (Aq (Bk K) Ac (Ai C__law_digit hr.m (Aa (qv 0) (Aa (Ak K (B0 (Aa Ac (Aa Ac Ab))) (Fn Mw (by rfl) T.int (by decide +kernel) (Aa (Bx Dc (Ai C__law_digit hr.m (Aa (qv 0) (Aa Ac Ab))) Ac (Av _)) Ab))) Ab)))))
   (Ae (Aw 3 sc_law_odd (Dr K PySem.F.plainAttrs_str PySem.F.slot_str_join PySem.F.type_str_join (Za0 K) Au (Aa (Dv (N:=["_law_k", "_law_signs", "_law_box_here"]) (σ0:=B8 1 [1,0]) rfl (C3 rfl (by decide +kernel) (by decide +kernel) (by decide +kernel)) (Cr rfl T.range (Aa (qv 2) Ab)) (C0 rfl (by rfl)) (fun _ _ _ _=>Ax (i:=0) Zm1 rfl (Or.inl rfl)) (fun _ _ _ _=>C9) (fun _ _ _ _=>Kd (N4 K) (qv 1) (Ai C__law_digit hr.m (Aa (qv 2) (Aa Ac Ab))) (fun _ _=>rfl))) Ab)))
   (Ae (A2 (A0 (Ex K) (qv 3) (Az (Aa Au (Aa Au (Aa Au Ab)))) (by rfl)) (Af (Aj (qv 3))) A3)
   (Ae (A2 (QW.qt (Gi (A0 Db (Ba (Bs K) (by rfl) T.len (by decide +kernel) (Aa (qv 3) Ab)) Ac (Av _)) (Jb (Dz (Ai C__law_all_of hr.m (Aa (qv 3) (Aa Au Ab))))))) (Af (Aj (Aq (Bk K) (qv 3) Au))) A3)
   (Ae (A2 (QW.qt (Gi (A0 Db (Ba (Bs K) (by rfl) T.len (by decide +kernel) (Aa (qv 3) Ab)) Ac (Av _)) (Gi (Dz (Ai C__law_all_of hr.m (Aa (qv 3) (Aa Au Ab)))) (Jb (QW.qt (Iy (A0 (Bv K hr.u200) (qv 3) Au (Av _)) (Jo (A0 (Gh K hr.u200) (Ak K (qv 3) Ac) Au (Av _))))))))) (Af (Aj (Aq (Bk K) (qv 3) Au))) A3)
   (Ae (A2 (A0 (Ex K) (qv 3) (Az (Ky (xs:=[.str "?",.str "+",.str "-",.str "<"]) rfl)) (by rfl)) (Af (Aj (Aq (Bk K) (qv 3) Au))) A3)
   (Af (Aj (qv 3))))))))),?_⟩
  have bg:=big
  walk_at "r"
  refine ⟨B4,fun p hp=>?_⟩
  have np:=hb.ne hp
  have b0:=hb.off (o:=.lst [.int 60,.int 6]) np
  have s0:=(Same.upd (o:=.lst [.int 60,.int 6]) hp).b b
  have e0':upd H p (.lst [.int 60,.int 6]) p=some (.lst [.int 60,.int 6]):=Ad
  revert b0 s0 e0'
  generalize upd H p (.lst [.int 60,.int 6])=G
  intro b0 s0 ep
  walk_at "r"
  refine ⟨b,4,rfl,b0,by decide,by decide,fun d H1 s1 b1 d0 d1=>?_⟩
  walk_at "r"
  have pick:∃ m:Int,Bm ([.int 60,.int 6]:List V) (if decide (0 < d)=true then 1 else 0)=some (.int m)/\0 < m/\m<=60:=by
   cases decide (0 < d)
   ·exact ⟨60,rfl,by decide,by decide⟩
   ·exact ⟨6,rfl,by decide,by decide⟩
  obtain ⟨m,hm,m0,m1⟩:=pick
  refine Bj (SqL.of (s1 _ _ np ep)) hm ?_
  walk_at "r"
  refine ⟨b,m,rfl,b1,m0,by omega,fun k H2 s2 b2 k0 k1=>?_⟩
  walk_at "r"
  refine ⟨rfl,?_⟩
  walk_at "r"
  refine ⟨by omega,by omega,fun D hD=>?_⟩
  have nD:=b2.ne hD
  refine G8 (n:=(1+k).toNat) (Pv:=fun i ys σ' H'=>∃ kv cs,σ'=[kv,some (.str SIG91),some (.ref b)]/\ys=(cs.map fun k=>(⟨#[k]⟩:Str)).map V.str/\cs.length=i/\(∀ c∈cs,C8 c=true)/\BoxAt H' b/\SameB b H2 H') ⟨none,[],rfl,rfl,rfl,(fun c h=>nomatch h),b2.off nD,(Same.upd hD).b b⟩ ?_ ?_
  ·rintro i ys σ' H' hi hys ⟨kv,cs,rfl,rfl,hl,hc,bb,sb⟩
   walk_at "r"
   refine ⟨b,91,rfl,bb,by decide,by decide,fun e H3 s3 b3 e0 e1=>?_⟩
   obtain ⟨c,hc1,hcm⟩:=Fs (xs:=SIG91.cps.toList) (i:=e) e0 (by rw [Zi2];exact e1)
   refine Kc Zox hc1 ?_
   walk_at "r"
   have ey:=s3 _ _ nD hys
   refine ⟨_,ey,by rw [O1,O1];omega,_,Ad,?_⟩
   refine ⟨_,cs++[c],rfl,by simp,by simp [hl],fun c' h'=>?_,b3.off nD,(sb.trans s3).over hD⟩
   rcases Pr.mp h' with h' | h'
   ·exact hc c' h'
   ·rw [Qo.mp h'];exact O4.mp Zo1 c hcm
  ·rintro ys σ' H3 hys ⟨kv,cs,rfl,rfl,hl,hc,bb,sb⟩
   walk_at "r"
   refine Zfg (K:=K) (SqL.of hys) (by rw [Zd5,e0];omega) ?_
   rw [Zex]
   have al:∀ c∈(⟨cs.toArray⟩:Str).cps.toList,C8 c=true:=fun c h=>hc c (by simpa using h)
   have ln:(⟨cs.toArray⟩:Str).length=cs.length:=by show cs.toArray.size=_;simp
   have hd:Bm (⟨cs.toArray⟩:Str).cps.toList 0=(⟨cs.toArray⟩:Str).cps.toList.head?:=by
    cases cs with
    | nil=>rfl
    | cons x r=>show Bm (x::r) ((0:Nat):Int)=some x;exact Dh rfl
   generalize (⟨cs.toArray⟩:Str)=t at al ln hd
   have t1:1<=t.length:=by omega
   have t2:t.length<=60:=by omega
   have sb:=s0.trans (s1.trans (s2.trans sb))
   clear hl hc hys ln
   have bang:t.length<=59->∀ H4,Same H3 H4->Dg K (.str t) (.str "!") H4 fun x H'=>Q x H':=fun h59 H4 s4 =>
    Zd0 (by have l1:(Pw "!").length=1:=(by decide +kernel);omega) (q _ _ (sb.trans (s4.b b)) (bb.same s4) (Zj9 h59 al) (by have l1:(Pw "!").length=1:=(by decide +kernel);rw [Lm,l1];omega))
   have w2:∀ H4,Same H3 H4->¬ (t.length<=8/\Bg t LET=true)->¬ (t.length<=18/\Bg t DIG=true/\(t = "0" \/ F5 t=false))->(F8 (F6 (Dp (Bp (Fu K false) (Be 3) (E8 (Ig [.str "?",.str "+",.str "-",.str "<"])))) (D8 (Bp (Dg K) (Be 3) (tC (.str "!")))) Gp) (D8 (Be 3))) { nx:=fun _ H'=>Q V.non H',rt:=Q } [some (.ref b),some (.str SIG91),some (.int (1+k)),some (.str t)] H4:=by
    intro H4 s4 na nb
    walk_at "r"
    refine ⟨sz4,fun p5 h5=>?_⟩
    have s5:=s4.put (o:=.tup [.str "?",.str "+",.str "-",.str "<"]) h5
    refine D3 (.inr (SqT.of Ad)) rfl rfl ?_
    rw [if_neg Ot,in4]
    cases hs:Bu t S4 with
    | true =>
     walk_at "r"
     refine bang ?_ _ s5
     have:=O4.mp Zhz t (Lg hs)
     have:=of_decide_eq_true this
     omega
    | false =>
     walk_at "r"
     exact q t _ (sb.trans (s5.b b)) (bb.same s5) (Zng t1 t2 al na nb hs) t2
   have w1:∀ H4,Same H3 H4->¬ (t.length<=8/\Bg t LET=true)->(F8 (F6 (Ir (Dp (Bp Zag (E5 (E4 K) (Br (Be 3) Ce)) (tC (V.int 18)))) (Ir (tB (Es Li [] E0 (Br (Be 3) (Br (tC (V.str "0123456789")) Ce)))) (tOr (Dp (Bp (Jp K) (Be 3) (tC (V.str "0")))) (Dp (Bp (Ki K) (Bp (Ep K) (Be 3) (tC (V.int 0))) (tC (V.str "0"))))))) (D8 (Bp (Dg K) (Be 3) (tC (.str "!")))) Gp) (F8 (F6 (Dp (Bp (Fu K false) (Be 3) (E8 (Ig [.str "?",.str "+",.str "-",.str "<"])))) (D8 (Bp (Dg K) (Be 3) (tC (.str "!")))) Gp) (D8 (Be 3)))) { nx:=fun _ H'=>Q V.non H',rt:=Q } [some (.ref b),some (.str SIG91),some (.int (1+k)),some (.str t)] H4:=by
    intro H4 s4 na
    walk_at "r"
    refine Ht (by omega) ?_
    walk_at "r"
    by_cases h18:t.length<=18
    ·rw [decide_eq_true (show ((t.length:Nat):Int)<=18 by omega)]
     walk_at "r"
     refine ⟨t,DIG,rfl,by omega,by decide +kernel,?_⟩
     refine ⟨_,rfl,?_⟩
     cases hdg:Bg t DIG with
     | false =>
      (repeat with_reducible refine iteF ?_);refine s_next ?_
      exact w2 H4 s4 na (fun z=>by rw [hdg] at z;cases z.2.1)
     | true =>
      walk_at "r"
      by_cases h0:t = "0"
      ·subst h0
       rw [decide_eq_true (Eq.refl _)]
       walk_at "r"
       exact bang (by omega) H4 s4
      ·rw [decide_eq_false (fun z=>h0 (V.str.inj z))]
       walk_at "r"
       obtain ⟨c0,hc0⟩:∃ c0,t.cps.toList.head?=some c0:=by
        cases e:t.cps.toList with
        | nil=>exact absurd t1 (by show ¬ 1<=t.cps.size;rw [<- Rr,e];decide)
        | cons x r=>exact ⟨x,rfl⟩
       refine Kc (by omega) (hd.trans hc0) ?_
       walk_at "r"
       by_cases hz:c0=48
       ·subst hz
        have ec:(⟨#[48]⟩:Str) = "0" := by decide +kernel
        rw [ec,decide_eq_true (Eq.refl _)]
        (repeat with_reducible refine iteF ?_);refine s_next ?_
        refine w2 H4 s4 na (fun z=>?_)
        rcases z.2.2 with z | z
        ·exact h0 z
        ·unfold F5 at z;rw [hc0] at z;cases z
       ·rw [decide_eq_false (fun z=>hz (by
         have z:=V.str.inj z
         have:(⟨#[c0]⟩:Str).cps.toList=("0" : Str).cps.toList:=by rw [z]
         rw [show ("0" : Str).cps.toList=[48] by decide +kernel] at this
         simpa using this))]
        walk_at "r"
        exact bang (by omega) H4 s4
    ·rw [decide_eq_false (show ¬ ((t.length:Nat):Int)<=18 by omega)]
     (repeat with_reducible refine iteF ?_);refine s_next ?_
     exact w2 H4 s4 na (fun z=>h18 z.1)
   walk_at "r"
   refine ⟨Cd,fun p4 h4=>?_⟩
   have s4:=Same.upd (o:=.tup [.str "in",.str "then",.str "else"]) h4
   refine D3 (.inr (SqT.of Ad)) rfl rfl ?_
   rw [if_neg Ot,in3]
   cases hw:Bu t W3 with
   | true =>
    walk_at "r"
    exact q t _ (sb.trans (s4.b b)) (bb.same s4) (O4.mp Zhb t (Lg hw)) t2
   | false =>
   walk_at "r"
   refine Ht (by omega) ?_
   walk_at "r"
   by_cases h8:t.length<=8
   ·rw [decide_eq_true (show ((t.length:Nat):Int)<=8 by omega)]
    walk_at "r"
    refine ⟨t,LET,rfl,by omega,by decide +kernel,?_⟩
    refine ⟨_,rfl,?_⟩
    cases hlt:Bg t LET with
    | false =>
     (repeat with_reducible refine iteF ?_);refine s_next ?_
     exact w1 _ s4 (fun z=>by rw [hlt] at z;cases z.2)
    | true =>
     walk_at "r"
     exact bang (by omega) _ s4
   ·rw [decide_eq_false (show ¬ ((t.length:Nat):Int)<=8 by omega)]
    (repeat with_reducible refine iteF ?_);refine s_next ?_
    exact w1 _ s4 (fun z=>h8 z.1)
theorem Zmo {wd:Str}:Cv (.str wd) [.str "name",.str "fn",.str "let"]=decide (wd∈(["name", "fn", "let"]:List Str)):=by
 have:=Fw (t:=wd) (ws:=["name", "fn", "let"])
 rw [show ([V.str "name",V.str "fn",V.str "let"]:List V)=(["name", "fn", "let"]:List Str).map V.str from rfl,this]
 by_cases hm:wd∈(["name", "fn", "let"]:List Str)
 ·rw [decide_eq_true hm,Zdl hm]
 ·rw [decide_eq_false hm,Ik hm]
noncomputable def Zds (K:Og):Sp:=fun vs H Q _=>∃(wd:Str)(b p:Addr),vs=[.str wd,.ref b,.ref p]/\BoxAt H b/\PoolAt H p/\p≠b/\∀(note:V)(n:Dt)(nt:Nt)(H':Hp),SameB b H H'->BoxAt H' b->IsN K H' note n->Dx n nt->B7 wd nt=true->Q note H'
theorem Zgc:A1 ["_law_word", "_law_box_here", "_law_pool"] ["_law_word", "_law_box_here", "_law_pool"] (An Ib):=by walk_at "sc"
theorem Zph {f:Addr}{fd:FuncData}(F:Fun K "_law_remark" "_law_remark" Ib f fd)(T:Txt K mg)(C__law_digit:Ao P w K mg base 1 "_law_digit" ["_law_box_here", "_law_many_here"] Du)(C__law_odd:Ao P w K mg base 2 "_law_odd" ["_law_box_here"] Zbh)(C__law_one_of:Ao P w K mg base 3 "_law_one_of" ["_law_box_here", "_law_pool"] Zde):Ar P w K mg base As 4 f fd ["_law_word", "_law_box_here", "_law_pool"] (Zds K):=by
 refine F.okq Zgc (fun vs H Q E h=>?_) (fun cdv A outer s H vs Q E hr h=>?_)
 ·obtain ⟨wd,b,p,rfl,_⟩:=h
  rfl
 ·obtain ⟨wd,b,p,rfl,hb,hp,np,q⟩:=h
  refine ⟨_,Ae (A2 (A0 (Bv K hr.u200) (qv 0) Au (Av _)) (Af (Aj (Ai C__law_odd hr.m (Aa (qv 1) Ab)))) A3)
   (Ae (A2 (A0 (Bv K hr.u200) (qv 0) Au (Av _)) (Af (Aj (Ai C__law_digit hr.m (Aa (qv 1) (Aa (Ak K (B0 (Aa (Aq Zak Ac Ac) (Aa Ac Ab))) (Ai C__law_digit hr.m (Aa (qv 1) (Aa Ac Ab)))) Ab))))) A3)
   (Ae (A2 (A0 (Bv K hr.u200) (qv 0) Au (Av _)) (Af (Aj (Bx (Bv K hr.u200) (Ai C__law_digit hr.m (Aa (qv 1) (Aa Ac Ab))) Ac (Av _)))) A3)
   (Ae (A2 (A0 (Ex K) (qv 0) (Az (Aa Au (Aa Au (Aa Au Ab)))) (by rfl)) (Af (Aj (Ai C__law_one_of hr.m (Aa (qv 1) (Aa (qv 2) Ab))))) A3)
   (Ae (A2 (A0 (Bv K hr.u200) (qv 0) Au (Av _)) (Af (Aj (Az (Aa (Ai C__law_one_of hr.m (Aa (qv 1) (Aa (qv 2) Ab))) (Aa (Ai C__law_one_of hr.m (Aa (qv 1) (Aa (qv 2) Ab))) Ab))))) A3)
   (Af (Aj F2)))))),?_⟩
  have bg:=big
  have nb:∀ nt,B7 wd nt=(if wd = "odd" then Kt nt else if wd = "num" then Gr nt else if wd = "truth" then K6 nt else if wd∈(["name", "fn", "let"]:List Str) then Kh nt else if wd = "rec" then twoN nt else G2 nt):=fun _=>rfl
  walk_at "r"
  rw [Dk]
  refine A4 (fun h=>?_) (fun h=>?_)
  ·walk_at "r"
   refine ⟨b,rfl,hb,fun t H1 s1 b1 ho hl=>?_⟩
   exact q _ _ _ H1 s1 b1 (.inl ⟨rfl,rfl⟩) (.fl (show t.length<=1000 by omega)) (by rw [nb,if_pos (of_decide_eq_true h)];exact ho)
  have g1:¬ wd = "odd" := fun x=>h (decide_eq_true x)
  walk_at "r"
  rw [Dk]
  refine A4 (fun h=>?_) (fun h=>?_)
  ·walk_at "r"
   rw [show (10:Int) ^ Ri 18=1000000000000000000 by decide]
   refine ⟨B4,fun p1 h1=>?_⟩
   have n1:=hb.ne h1
   have s1:=Same.upd (o:=.lst [.int 1000000000000000000,.int 4]) h1
   have b1:=hb.same s1
   have sb1:=s1.b b
   have e1:upd H p1 (.lst [.int 1000000000000000000,.int 4]) p1=some (.lst [.int 1000000000000000000,.int 4]):=Ad
   revert b1 sb1 e1
   generalize upd H p1 _=H1
   intro b1 sb1 e1
   walk_at "r"
   refine ⟨b,2,rfl,b1,by decide,by decide,fun e H2 s2 b2 e0 e2=>?_⟩
   have pick:∃ m:Int,Bm ([.int 1000000000000000000,.int 4]:List V) e=some (.int m)/\0 < m/\m<=10 ^ 18:=by
    obtain rfl | rfl:e=0\/e=1:=by omega
    ·exact ⟨1000000000000000000,rfl,by decide,by decide⟩
    ·exact ⟨4,rfl,by decide,by decide⟩
   obtain ⟨m,hm,m0,m1⟩:=pick
   refine Bj (SqL.of (s2 _ _ n1 e1)) hm ?_
   walk_at "r"
   refine ⟨b,m,rfl,b2,m0,m1,fun d H3 s3 b3 d0 d1=>?_⟩
   exact q _ _ _ H3 (sb1.trans (s2.trans s3)) b3 (.inl ⟨rfl,rfl⟩) (.fl (v:=.int d) trivial) (by rw [nb,if_neg g1,if_pos (of_decide_eq_true h)];show (decide (0<=d) && decide (d < 10 ^ 18))=true;rw [decide_eq_true d0,decide_eq_true (show d < 10 ^ 18 by omega)];rfl)
  have g2:¬ wd = "num" := fun x=>h (decide_eq_true x)
  walk_at "r"
  rw [Dk]
  refine A4 (fun h=>?_) (fun h=>?_)
  ·walk_at "r"
   refine ⟨b,2,rfl,hb,by decide,by decide,fun d H1 s1 b1 d0 d1=>?_⟩
   walk_at "r"
   exact q _ _ _ H1 s1 b1 (.inl ⟨rfl,rfl⟩) (.fl (v:=.bl _) trivial) (by rw [nb,if_neg g1,if_neg g2,if_pos (of_decide_eq_true h)];rfl)
  have g3:¬ wd = "truth" := fun x=>h (decide_eq_true x)
  walk_at "r"
  refine ⟨Cd,fun p4 h4=>?_⟩
  refine D3 (.inr (SqT.of Ad)) rfl rfl ?_
  have s4:=Same.upd (o:=.tup [.str "name",.str "fn",.str "let"]) h4
  rw [if_neg Ot,Zmo]
  have b4:=hb.same s4
  have p4':=hp.sameB np (s4.b b)
  have sb4:=s4.b b
  revert b4 p4' sb4
  generalize upd H p4 _=H4
  intro b4 hp4 sb4
  walk_at "r"
  refine A4 (fun h=>?_) (fun h=>?_)
  ·walk_at "r"
   refine ⟨b,p,rfl,b4,hp4,np,fun t H1 s1 b1 hnt=>?_⟩
   exact q _ _ _ H1 (sb4.trans s1) b1 (.inl ⟨rfl,rfl⟩) (.fl (show t.length<=1000 by have:=(Gj hnt).2;omega)) (by rw [nb,if_neg g1,if_neg g2,if_neg g3,if_pos (of_decide_eq_true h)];exact hnt)
  have g4:¬ wd∈(["name", "fn", "let"]:List Str):=fun x=>h (decide_eq_true x)
  walk_at "r"
  rw [Dk]
  refine A4 (fun h=>?_) (fun h=>?_)
  ·walk_at "r"
   refine ⟨b,p,rfl,b4,hp4,np,fun t H1 s1 b1 hnt=>?_⟩
   walk_at "r"
   refine ⟨b,p,rfl,b1,hp4.sameB np s1,np,fun u H2 s2 b2 hnu=>?_⟩
   walk_at "r"
   refine ⟨B4,fun p5 h5=>?_⟩
   have s5:=Same.upd (o:=.tup [.str t,.str u]) h5
   have l1:=(Gj hnt).2
   have l2:=(Gj hnu).2
   refine q _ _ _ _ (sb4.trans (s1.trans (s2.trans (s5.b b)))) (b2.same s5) (.inr ⟨p5,[.str t,.str u],rfl,SqT.of Ad,rfl,rfl⟩) (.tp (fun v hv=>?_)) (by rw [nb,if_neg g1,if_neg g2,if_neg g3,if_neg g4,if_pos (of_decide_eq_true h)];show (Bd t && Bd u)=true;rw [hnt,hnu];rfl)
   simp only [Ow,P8,or_false] at hv
   rcases hv with rfl | rfl
   ·show t.length<=1000
    omega
   ·show u.length<=1000
    omega
  ·have g5:¬ wd = "rec" := fun x=>h (decide_eq_true x)
   walk_at "r"
   exact q _ _ _ _ sb4 b4 (.inl ⟨rfl,rfl⟩) (.fl (v:=.non) trivial) (by rw [nb,if_neg g1,if_neg g2,if_neg g3,if_neg g4,if_neg g5];rfl)
noncomputable def Gn:List V:=[.str "odd",.str "num",.str "truth",.str "name",.str "plus",.str "minus",.str "less",.str "call",.str "if",.str "fn",.str "rec",.str "let"]
noncomputable def La (K:Og):Sp:=fun vs H Q _=>∃(b p:Addr),vs=[.ref b,.ref p,.int 0]/\BoxAt H b/\PoolAt H p/\p≠b /\
 ∀(a:Addr)(wd:Str)(note:V)(n:Dt)(nt:Nt)(H':Hp),SameB b H H'->BoxAt H' b->SqT K H' a [.str wd,note]->IsN K H' note n->(B6 wd).isSome=true->wd ≠ "gap" -> Dx n nt->B7 wd nt=true->Q (.ref a) H'
theorem Lb:A1 ["_law_box_here", "_law_pool", "_law_first", "_law_heads", "_law_word"] ["_law_box_here", "_law_pool", "_law_first"] (An Hi):=by walk_at "sc"
theorem Zk7 {f:Addr}{fd:FuncData}(F:Fun K "_law_head" "_law_head" Hi f fd)(T:Txt K mg)(C__law_digit:Ao P w K mg base 1 "_law_digit" ["_law_box_here", "_law_many_here"] Du)(C__law_remark:Ao P w K mg base 4 "_law_remark" ["_law_word", "_law_box_here", "_law_pool"] (Zds K)):Ar P w K mg base As 5 f fd ["_law_box_here", "_law_pool", "_law_first"] (La K):=by
 refine F.okq Lb (fun vs H Q E h=>?_) (fun cdv A outer s H vs Q E hr h=>?_)
 ·obtain ⟨b,p,rfl,_⟩:=h
  rfl
 ·obtain ⟨b,p,rfl,hb,hp,np,q⟩:=h
  refine ⟨_,Ae (Aw 3 Lb (B0 (Ky (xs:=[.str "odd",.str "num",.str "truth",.str "name",.str "plus",.str "minus",.str "less",.str "call",.str "if",.str "fn",.str "rec",.str "let"]) rfl)))
   (Ae (Aw 4 Lb (Ak K (qv 3) (Aq (Bk K) (qv 2) (Ai C__law_digit hr.m (Aa (qv 0) (Aa (Aq Zcg Ac (qv 2)) Ab))))))
   (Af (Aj (Az (Aa (qv 4) (Aa (Ai C__law_remark hr.m (Aa (qv 4) (Aa (qv 0) (Aa (qv 1) Ab)))) Ab)))))),?_⟩
  walk_at "r"
  refine ⟨sz12,fun p1 h1=>?_⟩
  have s1:=Same.upd (o:=.lst Gn) h1
  have n1:=hb.ne h1
  have e1:upd H p1 (.lst Gn) p1=some (.lst Gn):=Ad
  have b1:=hb.same s1
  have hp1:=hp.sameB np (s1.b b)
  have sb1:=s1.b b
  revert e1 b1 hp1 sb1
  unfold Gn
  generalize upd H p1 _=H1
  intro e1 b1 hp1 sb1
  walk_at "r"
  refine ⟨b,_,rfl,b1,by decide,by decide,fun d H2 s2 b2 d0 d1=>?_⟩
  walk_at "r"
  obtain ⟨v,hv,m⟩:=Fs (xs:=Gn) (i:=0+d) (by omega) (by show 0+d < 12;omega)
  obtain ⟨wd,rfl,hps,hng⟩:∃ t,v=V.str t/\(B6 t).isSome=true/\t ≠ "gap" := by
   unfold Gn at m
   simp only [Ow,P8,or_false] at m
   rcases m with h | h | h | h | h | h | h | h | h | h | h | h <;> exact ⟨_,h,by decide +kernel,by decide +kernel⟩
  refine Bj (SqL.of (s2 _ _ n1 e1)) hv ?_
  walk_at "r"
  refine ⟨wd,b,p,rfl,b2,hp1.sameB np s2,np,fun note n nt H3 s3 b3 hn hd hnb=>?_⟩
  walk_at "r"
  refine ⟨B4,fun p4 h4=>?_⟩
  have s4:=Same.upd (o:=.tup [.str wd,note]) h4
  exact q p4 wd note n nt _ (sb1.trans (s2.trans (s3.trans (s4.b b)))) (b3.same s4) (SqT.of Ad) (hn.same s4.t) hps hng hd hnb
noncomputable def Zao (K:Og):Sp:=fun vs H Q _=>∃(a:Addr)(wd:Str)(note:V)(n:Dt)(k:Nat),vs=[.ref a]/\SqT K H a [.str wd,note]/\IsN K H note n/\B6 wd=some k/\∀(r pp:Addr)(us:List V)(H':Hp),Same H H'->SqT K H' r [.str wd,note,.ref pp]->SqT K H' pp us->us.length=k->(∀ u∈us,TrAt K H' u gapT)->Q (.ref r) H'
theorem Zoe:(["_law_k"]:List Str).Nodup:=by decide +kernel
theorem Zf2:A1 ["_law_head_here"] ["_law_head_here"] (An Iz):=by walk_at "sc"
theorem Zgl {f:Addr}{fd:FuncData}(F:Fun K "_law_bare" "_law_bare" Iz f fd)(T:Txt K mg)(C__law_many:Ao P w K mg base 1 "_law_many" ["_law_word"] Zdm):Ar P w K mg base As 2 f fd ["_law_head_here"] (Zao K):=by
 refine F.okq Zf2 (fun vs H Q E h=>?_) (fun cdv A outer s H vs Q E hr h=>?_)
 ·obtain ⟨a,wd,note,n,k,rfl,_⟩:=h
  rfl
 ·obtain ⟨a,wd,note,n,k,rfl,qa,hn,hk,q⟩:=h
  refine ⟨_,Af (Aj (Az (Aa (Ak K (qv 0) Ac) (Aa (Ak K (qv 0) Ac) (Aa (Fn (J6 K) (by rfl) T.tuple (by decide +kernel) (Aa (Dv (N:=["_law_k"]) (σ0:=B8 1 []) rfl (C3 rfl (by decide +kernel) (by decide +kernel) (by decide +kernel)) (Cr rfl T.range (Aa (Ai C__law_many hr.m (Aa (Ak K (qv 0) Ac) Ab)) Ab)) (C0 rfl (by rfl)) (fun _ _ _ _=>Ax (i:=0) Zoe rfl (Or.inl rfl)) (fun _ _ _ _=>C9) (fun _ _ _ _=>Az (Aa Au (Aa F2 (Aa (Az Ab) Ab))))) Ab)) Ab))))),?_⟩
  have bg:=big
  have k3:=(F1 hk).2.2.2.1
  walk_at "r"
  refine A6 qa rfl ?_
  walk_at "r"
  refine A6 qa rfl ?_
  walk_at "r"
  refine A6 qa rfl ?_
  walk_at "r"
  refine ⟨wd,k,rfl,hk,fun H1 s1=>?_⟩
  walk_at "r"
  refine ⟨by omega,by omega,fun D hD=>?_⟩
  refine G8 (n:=((k:Nat):Int).toNat) (Pv:=fun i ys σ' H'=>∃ kv,σ'=[kv]/\ys.length=i/\(∀ u∈ys,TrAt K H' u gapT)/\Same H H') ⟨none,rfl,rfl,(fun u h=>nomatch h),s1.put hD⟩ ?_ ?_
  ·rintro i ys σ' H' hi hys ⟨kv,rfl,hl,hg,sm⟩
   walk_at "r"
   refine ⟨C1,fun p2 h2=>?_⟩
   have s2:=Same.upd (o:=.tup []) h2
   walk_at "r"
   refine ⟨Cd,fun p3 h3=>?_⟩
   have s3:=Same.upd (o:=.tup [.str "gap",.non,.ref p2]) h3
   have s23:=s2.trans s3
   have gp:=TrAt.gap (K:=K) (SqT.of Ad) (s3.tup (SqT.of Ad))
   have ey:=s23 _ _ hys
   revert s23 gp ey
   generalize upd (upd H' p2 (.tup [])) p3 (.tup [.str "gap",.non,.ref p2])=H3
   intro s23 gp ey
   walk_at "r"
   refine ⟨_,ey,by omega,_,Ad,?_⟩
   have st:=SameT.set (o:=.lst (ys++[.ref p3])) ey
   refine ⟨_,rfl,by simp [hl],fun u hu=>?_,(sm.trans s23).over (s1.free hD)⟩
   rcases Pr.mp hu with hu | hu
   ·exact (hg u hu).sameT (s23.t.trans st)
   ·rw [Qo.mp hu];exact gp.sameT st
  ·rintro ys σ' H2 hys ⟨kv,rfl,hl,hg,sm⟩
   walk_at "r"
   refine Ka (SqL.of hys) fun p5 h5=>?_
   have s5:=Same.upd (o:=.tup ys) h5
   walk_at "r"
   refine ⟨Cd,fun p6 h6=>?_⟩
   have s6:=Same.upd (o:=.tup [.str wd,note,.ref p5]) h6
   exact q p6 p5 ys _ (sm.trans (s5.trans s6)) (SqT.of Ad) (s6.tup (SqT.of Ad)) (by omega) fun u hu=>(hg u hu).same (s5.trans s6)
noncomputable def Mx (K:Og):Sp:=fun vs H Q _=>∃(b p:Addr)(m:Nat),vs=[.ref b,.ref p,.int (m:Nat)]/\m<=10/\BoxAt H b/\PoolAt H p/\p≠b /\
 ∀(v:V)(t:Tr)(H':Hp),SameB b H H'->BoxAt H' b->TrAt K H' v t->TrOk t->t.size<=1+5 * m->Bq t<=2+2 * m->Q v H'
theorem Al.set {α:Type}{R:V->α->Prop}{vs:List V}{xs:List α}{j:Nat}{v:V}{x:α}(h:Al R vs xs)(r:R v x):Al R (vs.set j v) (xs.set j x):=by
 refine ⟨by rw [Q1,Q1];exact h.1,fun i y z e1 e2=>?_⟩
 by_cases e:j=i
 ·subst e
  by_cases hl:j < vs.length
  ·rw [Rm hl] at e1
   rw [Rm (by rw [<- h.1];exact hl)] at e2
   cases e1
   cases e2
   exact r
  ·rw [Q8 (by rw [Q1];omega)] at e1
   cases e1
 ·rw [Tj e] at e1 e2
  exact h.2 i y z e1 e2
theorem Zcd (n:Nat):Am (Oo n gapT)=n:=by
 induction n with
 | zero=>rw [List.replicate_zero,Am]
 | succ n ih=>rw [Qe,Am,ih,Nz];omega
theorem Zbj (n:Nat):A5 (Oo n gapT)<=1:=by
 induction n with
 | zero=>rw [List.replicate_zero,A5];omega
 | succ n ih=>rw [Qe,A5,Ms];omega
theorem Za4 {ts:List Tr}{j:Nat}{t u:Tr}(h:ts[j]?=some t):Am (ts.set j u)+t.size=Am ts+u.size:=by
 induction ts generalizing j with
 | nil=>simp at h
 | cons x r ih =>
  cases j with
  | zero =>
   have h:x=t:=by simpa using h
   subst h
   rw [U0,Am,Am]
   omega
  | succ j =>
   have:=ih (j:=j) (by simpa using h)
   rw [U1,Am,Am]
   omega
theorem Zjy {n j:Nat}(h:j < n):Da n ((j:Nat):Int)=some j:=by
 unfold Da
 rw [if_pos (by omega),if_pos (by omega)]
 simp
structure TJ (K:Og)(H:Hp)(b pl:Addr)(lt:List Tr)(H':Hp):Prop where
 box:BoxAt H' b
 sb:SameB b H H'
 ex:∃ lv,H' pl=some (.lst lv)/\Al (TrAt K H') lv lt
 ok:∀ t∈lt,TrOk t
theorem sc_law_tree:A1 ["_law_box_here", "_law_pool", "_law_most", "_law_left", "_law_j", "_law_form_here", "_law_parts", "_law_k", "_law_tree_here"] ["_law_box_here", "_law_pool", "_law_most"] (An Ii):=by walk_at "sc"
theorem Zlo {f:Addr}{fd:FuncData}(F:Fun K "_law_tree" "_law_tree" Ii f fd)(T:Txt K mg)(C__law_digit:Ao P w K mg base 1 "_law_digit" ["_law_box_here", "_law_many_here"] Du)(C__law_head:Ao P w K mg base 5 "_law_head" ["_law_box_here", "_law_pool", "_law_first"] (La K))(C__law_bare:Ao P w K mg base 2 "_law_bare" ["_law_head_here"] (Zao K)):Ar P w K mg base As 6 f fd ["_law_box_here", "_law_pool", "_law_most"] (Mx K):=by
 refine F.okq sc_law_tree (fun vs H Q E h=>?_) (fun cdv A outer s H vs Q E hr h=>?_)
 ·obtain ⟨b,p,m,rfl,_⟩:=h
  rfl
 ·obtain ⟨b,p,m,rfl,hm,hb,hp,np,q⟩:=h
  refine ⟨_,Ae (Aw 3 sc_law_tree (B0 Ab))
   (Ae (Cj O8 rfl (Cr rfl T.range (Aa (Ai C__law_digit hr.m (Aa (qv 0) (Aa (Aq (Bk K) (qv 2) Ac) Ab))) Ab)) (Ax (i:=4) sc_law_tree.nd rfl (Or.inl rfl)) (Ae (Aw 5 sc_law_tree (Ai C__law_bare hr.m (Aa (Ai C__law_head hr.m (Aa (qv 0) (Aa (qv 1) (Aa Ac Ab)))) Ab)))
   (Ae (Aw 6 sc_law_tree (Fn (Zog K) (by rfl) T.list (by decide +kernel) (Aa (Ak K (qv 5) Ac) Ab)))
   (Ae (Cj O8 rfl (Zmv rfl T.reversed rfl T.range (Aa (Ba (Bs K) (by rfl) T.len (by decide +kernel) (Aa (qv 6) Ab)) Ab)) (Ax (i:=7) sc_law_tree.nd rfl (Or.inl rfl)) (Af (A2 (QW.qt (Gi (A0 Dc (Ba (Bs K) (by rfl) T.len (by decide +kernel) (Aa (qv 3) Ab)) Ac (Av _)) (Jb (A0 Dc (Ai C__law_digit hr.m (Aa (qv 0) (Aa Ac Ab))) Ac (Av _))))) (Af (E7 (Gm K Pg Rp Rq Gk (qv 3)) (N2 (qv 6) (qv 7) Lh))) A3)))
   (Af (Eu (Dr K Pg Qy Qz El (qv 3) (Aa (Az (Aa (Ak K (qv 5) Ac) (Aa (Ak K (qv 5) Ac) (Aa (Fn (J6 K) (by rfl) T.tuple (by decide +kernel) (Aa (qv 6) Ab)) Ab)))) Ab))))))))
   (Ae (Aw 8 sc_law_tree (Az (Aa Au (Aa F2 (Aa (Az Ab) Ab)))))
   (Ae (A2 (A0 Dc (Ba (Bs K) (by rfl) T.len (by decide +kernel) (Aa (qv 3) Ab)) Ac (Av _)) (Af (Aw 8 sc_law_tree (Gm K Pg Rp Rq Gk (qv 3)))) A3)
   (Ae (J9 O8 (A0 Dc (Ba (Bs K) (by rfl) T.len (by decide +kernel) (Aa (qv 3) Ab)) Ac (Av _)) (Af (Aw 8 sc_law_tree (Az (Aa Au (Aa F2 (Aa (Az (Aa (Gm K Pg Rp Rq Gk (qv 3)) (Aa (qv 8) Ab))) Ab)))))))
   (Af (Aj (qv 8))))))),?_⟩
  have bg:=big
  walk_at "r"
  refine ⟨C1,fun pl hpl=>?_⟩
  have npl:=hb.ne hpl
  have s0:=Same.upd (o:=.lst []) hpl
  walk_at "r"
  refine ⟨b,_,rfl,hb.same s0,by omega,by omega,fun d H1 s1 b1 d0 d1=>?_⟩
  walk_at "r"
  refine ⟨by omega,by omega,?_⟩
  refine Fj (n:=d.toNat) (fun i σ' H'=>∃(v4 v5 v6 v7 v8:Option V)(lt:List Tr),σ'=[some (.ref b),some (.ref p),some (.int (m:Nat)),some (.ref pl),v4,v5,v6,v7,v8]/\TJ K H b pl lt H'/\Am lt<=4 * i/\lt.length<=i/\A5 lt<=i+1)
   ⟨_,_,_,_,_,[],rfl,⟨b1,(s0.b b).trans s1,⟨[],s1 _ _ npl Ad,.nil⟩,(fun t h=>nomatch h)⟩,by rw [Am];omega,by simp,by rw [Kb];omega⟩ ?_ ?_
  ·rintro i σ' H2 hi ⟨v4,v5,v6,v7,v8,lt,rfl,J,hz,hl,hd⟩
   walk_at "r"
   refine ⟨b,p,rfl,J.box,hp.sameB np J.sb,np,fun ha wd note n nt H3 s3 b3 qa hn hps hng hdn hnb=>?_⟩
   obtain ⟨k,hk⟩:=Q6.mp hps
   have k3:=(F1 hk).2.2.2.1
   walk_at "r"
   refine ⟨ha,wd,note,n,k,rfl,qa,hn,hk,fun r pp us H4 s4 qr qpp hul hug=>?_⟩
   walk_at "r"
   refine A6 qr rfl ?_
   walk_at "r"
   refine ⟨pp,us,rfl,.inr qpp,fun ps hps=>?_⟩
   have b4:=b3.same s4
   have nps:=b4.ne hps
   have sb4:=J.sb.trans (s3.trans (s4.b b))
   obtain ⟨lv,el,al⟩:=J.ex
   have el4:=s4 _ _ (s3 _ _ npl el)
   have nlp:pl≠ps:=Bf el4 hps
   have hps0:H ps=none:=sb4.free nps hps
   have s5:=Same.upd (o:=.lst us) hps
   have t24:SameT H2 H4:=(s3.t J.box).trans s4.t
   have al5:=TrAt.al al (t24.trans s5.t)
   have alp:Al (TrAt K (upd H4 ps (.lst us))) us (Oo k gapT):=⟨by rw [Qm];exact hul,fun j v t e1 e2=>by rw [Ql (Oz e2)];exact (hug v (Oz e1)).same s5⟩
   have el5:=s5 _ _ el4
   have ep5:upd H4 ps (.lst us) ps=some (.lst us):=Ad
   have b5:=b4.same s5
   have sb5:=sb4.trans (s5.b b)
   have t5:=s5.t
   revert al5 alp el5 ep5 b5 sb5 t5
   generalize upd H4 ps (.lst us)=H5
   intro al5 alp el5 ep5 b5 sb5 t5
   walk_at "r"
   refine Znc ?_
   walk_at "r"
   refine Ds (SqL.of ep5) ?_
   walk_at "r"
   refine ⟨_,rfl,by omega,?_⟩
   refine Zd6 (n:=us.length) (fun j σ6 H6=>∃(v7:Option V)(lv6 pv6:List V)(lt6 pt6:List Tr),σ6=[some (.ref b),some (.ref p),some (.int (m:Nat)),some (.ref pl),some (.int (0+(i:Int))),some (.ref r),some (.ref ps),v7,v8]/\H6 pl=some (.lst lv6)/\H6 ps=some (.lst pv6)/\Al (TrAt K H6) lv6 lt6/\Al (TrAt K H6) pv6 pt6/\pt6.length=k/\(∀ t∈lt6,TrOk t)/\(∀ t∈pt6,TrOk t)/\Am lt6+Am pt6<=Am lt+k/\lt6.length<=i/\A5 lt6<=i+1/\A5 pt6<=i+1/\BoxAt H6 b/\SameB b H H6/\SameT H4 H6)
    ⟨_,lv,us,lt,Oo k gapT,rfl,el5,ep5,al5,alp,Qm ..,J.ok,(fun t ht=>by rw [Ql ht];exact TrOk.gap),by rw [Zcd];omega,hl,hd,by have:=Zbj k;omega,b5,sb5,t5⟩ ?_ ?_
   ·rintro j σ6 H6 hj ⟨v7',lv6,pv6,lt6,pt6,rfl,e6l,e6p,al6,ap6,hpt,ok6,okp,hs6,hl6,hd6,hq6,b6,sb6,t6⟩
    have hki:(us.length:Int) - 1 - (j:Int)=((us.length - 1 - j:Nat):Int):=by omega
    rw [hki]
    walk_at "r"
    refine Ds (SqL.of e6l) ?_
    walk_at "r"
    by_cases hlv:lv6=[]
    ·subst hlv
     refine iteF ?_
     walk_at "r"
     exact ⟨_,[],pv6,lt6,pt6,rfl,e6l,e6p,al6,ap6,hpt,ok6,okp,hs6,hl6,hd6,hq6,b6,sb6,t6⟩
    have hne:decide ((0:Int) < (lv6.length:Int))=true:=decide_eq_true (by have:0 < lv6.length:=Uu.mpr hlv;omega)
    rw [hne]
    walk_at "r"
    refine ⟨b,4,rfl,b6,by decide,by decide,fun e H7 s7 b7 e0 e1=>?_⟩
    have t67:=s7.t b6
    have e7l:=s7 _ _ npl e6l
    have e7p:=s7 _ _ nps e6p
    have al7:=TrAt.al al6 t67
    have ap7:=TrAt.al ap6 t67
    walk_at "r"
    refine A4 (fun _=>?_) (fun _=>?_)
    ·obtain ⟨lv8,x8,lt8,t8,rfl,rfl,al8,hx8⟩:=al7.last hlv
     walk_at "r"
     refine Cq (SqL.of e7l) ?_
     refine Gz e7l ?_
     have e8p:upd H7 pl (.lst lv8) ps=some (.lst pv6):=by rw [Ah nlp.symm];exact e7p
     have hpv:pv6.length=us.length:=by rw [ap7.1,hpt,hul]
     have hjk:us.length - 1 - j < pt6.length:=by omega
     walk_at "r"
     refine Mq e8p (j:=us.length - 1 - j) (Zjy (by omega)) ?_
     have t8':SameT H7 (upd (upd H7 pl (.lst lv8)) ps (.lst (pv6.set (us.length - 1 - j) x8))):=(SameT.set e7l).trans (SameT.set e8p)
     have hs8:Am (lt8++[t8])=Am lt8+t8.size:=by rw [F9,Am,Am];omega
     have hst:=Za4 (u:=t8) (Oi hjk)
     have hds:=Zdg pt6 (us.length - 1 - j) t8
     have hg1:1<=(pt6[us.length - 1 - j]).size:=by have:=Tr.size_eq pt6[us.length - 1 - j];omega
     rw [Ih] at hd6
     refine ⟨_,lv8,_,lt8,pt6.set (us.length - 1 - j) t8,rfl,by rw [Ah nlp,Ad],Ad,TrAt.al al8 t8',Al.set (TrAt.al ap7 t8') (hx8.sameT t8'),by rw [Q1];exact hpt,fun t ht=>ok6 t (Q9 _ ht),fun t ht=>?_,by omega,by rw [Ou,Pz] at hl6;omega,by omega,by omega,(b7.off npl).off nps,((sb6.trans s7).over hpl).over hps0,t6.trans (t67.trans t8')⟩
     rcases List.mem_or_eq_of_mem_set ht with ht | rfl
     ·exact okp t ht
     ·exact ok6 _ (by simp)
    ·walk_at "r"
     exact ⟨_,lv6,pv6,lt6,pt6,rfl,e7l,e7p,al7,ap7,hpt,ok6,okp,hs6,hl6,hd6,hq6,b7,sb6.trans s7,t6.trans t67⟩
   ·rintro σ6 H6 ⟨v7',lv6,pv6,lt6,pt6,rfl,e6l,e6p,al6,ap6,hpt,ok6,okp,hs6,hl6,hd6,hq6,b6,sb6,t6⟩
    walk_at "r"
    refine Cq (SqL.of e6l) ?_
    walk_at "r"
    refine A6 (t6.tup qr) rfl ?_
    walk_at "r"
    refine A6 (t6.tup qr) rfl ?_
    walk_at "r"
    refine Ka (SqL.of e6p) fun pq hpq=>?_
    have s7:=Same.upd (o:=.tup pv6) hpq
    walk_at "r"
    refine ⟨Cd,fun pr hpr=>?_⟩
    have s8:=Same.upd (o:=.tup [.str wd,note,.ref pq]) hpr
    have s78:=s7.trans s8
    have e8l:=s78 _ _ e6l
    walk_at "r"
    have hll:lv6.length<=i:=by rw [al6.1];exact hl6
    have st:=SameT.set (o:=.lst (lv6++[.ref pr])) e8l
    have t69:=s78.t.trans st
    refine Fk e8l (by omega) ?_
    have ap9:=TrAt.al ap6 t69
    refine ⟨_,_,_,_,_,lt6++[.mk wd n pt6],rfl,⟨(b6.same s78).off npl,(sb6.trans (s78.b b)).over hpl,⟨_,Ad,(TrAt.al al6 t69).snoc (.mk (st.tup (SqT.of Ad)) ((hn.same s4.t).same (t6.trans t69)) ((s8.t.trans st).tup (SqT.of Ad)) ap9.1 ap9.2)⟩,Zeg ok6 (.mk (by rw [hpt];exact hk) hdn hnb okp)⟩,?_,by rw [Ou,Pz];omega,by rw [Ih,Fm];omega⟩
    rw [F9,Am,Am,Tr.size]
    omega
  ·rintro σ' H2 ⟨v4,v5,v6,v7,v8,lt,rfl,J,hz,hl,hd⟩
   obtain ⟨lv,el,al⟩:=J.ex
   walk_at "r"
   refine ⟨C1,fun pa hpa=>?_⟩
   have s3:=Same.upd (o:=.tup []) hpa
   walk_at "r"
   refine ⟨Cd,fun pb hpb=>?_⟩
   have s4:=Same.upd (o:=.tup [.str "gap",.non,.ref pa]) hpb
   have s34:=s3.trans s4
   have gp:=TrAt.gap (K:=K) (SqT.of Ad) (s4.tup (SqT.of Ad))
   have el4:=s34 _ _ el
   have al4:=TrAt.al al s34.t
   have b4:=J.box.same s34
   have sb4:=J.sb.trans (s34.b b)
   revert gp el4 al4 b4 sb4
   generalize upd (upd H2 pa (.tup [])) pb (.tup [.str "gap",.non,.ref pa])=H4
   intro gp el4 al4 b4 sb4
   have hdm:d.toNat<=m:=by omega
   have fin:∀(tv:V)(t:Tr)(lv5:List V)(lt5:List Tr)(H5:Hp),H5 pl=some (.lst lv5)->Al (TrAt K H5) lv5 lt5->TrAt K H5 tv t->TrOk t->(∀ t∈lt5,TrOk t)->BoxAt H5 b->SameB b H H5->lt5.length<=d.toNat->A5 lt5<=d.toNat+1->Bq t+lt5.length<=2 * d.toNat+1->t.size+Am lt5+lt5.length<=1+5 * d.toNat ->
     F8 (M7 (Dp (Bp (Dj fun i j=>V.bl (decide (j < i))) (E5 (E4 K) (Br (Be 3) Ce)) (tC (V.int 0)))) (Em (E8 (Br (tC (V.str "call")) (Br (tC .non) (Br (E8 (Br (Hz K "list" N7 (Be 3)) (Br (Be 8) Ce))) Ce)))) (D9 8))) (D8 (Be 8)) { nx:=fun _ H'=>Q V.non H',rt:=Q } [some (.ref b),some (.ref p),some (.int (m:Nat)),some (.ref pl),v4,v5,v6,v7,some tv] H5:=by
    intro tv t lv5 lt5 H5 e5 al5 htv okt ok5 b5 sb5 h1 h2 h3 h4
    refine s_seq ?_
    refine ⟨fun mm σ6 H6=>∃(tv:V)(t:Tr)(lv5:List V)(lt5:List Tr),σ6=[some (.ref b),some (.ref p),some (.int (m:Nat)),some (.ref pl),v4,v5,v6,v7,some tv]/\mm=lt5.length/\H6 pl=some (.lst lv5)/\Al (TrAt K H6) lv5 lt5/\TrAt K H6 tv t/\TrOk t/\(∀ t∈lt5,TrOk t)/\BoxAt H6 b/\SameB b H H6/\lt5.length<=d.toNat/\A5 lt5<=d.toNat+1/\Bq t+lt5.length<=2 * d.toNat+1/\t.size+Am lt5+lt5.length<=1+5 * d.toNat,⟨_,tv,t,lv5,lt5,rfl,rfl,e5,al5,htv,okt,ok5,b5,sb5,h1,h2,h3,h4⟩,?_⟩
    clear tv t lv5 lt5 H5 e5 al5 htv okt ok5 b5 sb5 h1 h2 h3 h4
    rintro mm σ6 H6 ⟨tv,t,lv5,lt5,rfl,rfl,e5,al5,htv,okt,ok5,b5,sb5,h1,h2,h3,h4⟩
    walk_at "r"
    refine Ds (SqL.of e5) ?_
    walk_at "r"
    by_cases hlv:lv5=[]
    ·subst hlv
     have hlt:lt5=[]:=Qw al5.1.symm
     subst hlt
     refine iteF ?_
     walk_at "r"
     rw [Am,T4] at h4
     exact q tv t H6 sb5 b5 htv okt (by omega) (by rw [T4] at h3;omega)
    have hne:decide ((0:Int) < (lv5.length:Int))=true:=decide_eq_true (by have:0 < lv5.length:=Uu.mpr hlv;omega)
    rw [hne]
    obtain ⟨lv8,x8,lt8,t8,rfl,rfl,al8,hx8⟩:=al5.last hlv
    refine iteT ?_
    refine ⟨fun σ2 H2=>∃ m',m' < (lt8++[t8]).length/\∃(tv:V)(t:Tr)(lv5:List V)(lt5:List Tr),σ2=[some (.ref b),some (.ref p),some (.int (m:Nat)),some (.ref pl),v4,v5,v6,v7,some tv]/\m'=lt5.length/\H2 pl=some (.lst lv5)/\Al (TrAt K H2) lv5 lt5/\TrAt K H2 tv t/\TrOk t/\(∀ t∈lt5,TrOk t)/\BoxAt H2 b/\SameB b H H2/\lt5.length<=d.toNat/\A5 lt5<=d.toNat+1/\Bq t+lt5.length<=2 * d.toNat+1/\t.size+Am lt5+lt5.length<=1+5 * d.toNat,fun _ _ h=>h,?_⟩
    walk_at "r"
    refine Cq (SqL.of e5) ?_
    refine Gz e5 ?_
    have st:=SameT.set (o:=.lst lv8) e5
    have e6:upd H6 pl (.lst lv8) pl=some (.lst lv8):=Ad
    have b6:=b5.off (o:=.lst lv8) npl
    have sb6:=sb5.over (o:=.lst lv8) hpl
    revert st e6 b6 sb6
    generalize upd H6 pl (.lst lv8)=H7
    intro st e7 b7 sb7
    walk_at "r"
    refine ⟨B4,fun p8 h8=>?_⟩
    have s8:=Same.upd (o:=.tup [x8,tv]) h8
    walk_at "r"
    refine ⟨Cd,fun p9 h9=>?_⟩
    have s9:=Same.upd (o:=.tup [.str "call",.non,.ref p8]) h9
    have s89:=s8.trans s9
    have t69:=st.trans s89.t
    walk_at "r"
    rw [Ou,Pz] at h1 h3 h4 ⊢
    rw [Ih] at h2
    rw [F9,Am,Am] at h4
    refine ⟨lt8.length,by omega,.ref p9,.mk "call" (.flat .non) [t8,t],lv8,lt8,rfl,rfl,s89 _ _ e7,TrAt.al al8 t69,.mk (SqT.of Ad) (.inl ⟨rfl,rfl⟩) (s9.tup (SqT.of Ad)) rfl fun j v y f1 f2=>?_,TrOk.call (ok5 t8 (by simp)) okt,fun x hx=>ok5 x (Q9 _ hx),b7.same s89,sb7.trans (s89.b b),by omega,by omega,by rw [Fm,L9,L9,Kb];omega,by rw [Tr.size,Am,Am,Am];omega⟩
    match j,f1,f2 with
    | 0,f1,f2=>cases f1;cases f2;exact hx8.sameT t69
    | 1,f1,f2=>cases f1;cases f2;exact htv.sameT t69
   walk_at "r"
   refine Ds (SqL.of el4) ?_
   walk_at "r"
   by_cases hlv:lv=[]
   ·subst hlv
    have hlt:lt=[]:=Qw al.1.symm
    subst hlt
    refine iteF ?_
    refine s_next ?_
    exact fin (.ref pb) gapT [] [] H4 el4 al4 gp TrOk.gap J.ok b4 sb4 (by simp) (by rw [Kb];omega) (by rw [Ms];simp) (by rw [Nz,Am];simp)
   have hne:decide ((0:Int) < (lv.length:Int))=true:=decide_eq_true (by have:0 < lv.length:=Uu.mpr hlv;omega)
   rw [hne]
   obtain ⟨lv8,x8,lt8,t8,rfl,rfl,al8,hx8⟩:=al4.last hlv
   refine iteT ?_
   refine s_asg ?_
   walk_at "r1"
   walk_at "r1"
   refine Cq (SqL.of el4) ?_
   refine Gz el4 ?_
   refine s_gname ?_
   have st:=SameT.set (o:=.lst lv8) el4
   rw [F9,Am,Am] at hz
   rw [Ou,Pz] at hl
   rw [Ih] at hd
   exact fin x8 t8 lv8 lt8 _ Ad (TrAt.al al8 st) (hx8.sameT st) (J.ok t8 (by simp)) (fun x hx=>J.ok x (Q9 _ hx)) (b4.off npl) (sb4.over hpl) (by omega) (by omega) (by omega) (by omega)
noncomputable def K8 (K:Og):Sp:=fun vs H Q _=>∃(b:Addr)(v:V)(t:Tr),vs=[.ref b,v]/\BoxAt H b/\TrAt K H v t/\t.size<=2000/\∀(r:V)(x:List Nat×Tr)(H':Hp),SameB b H H'->BoxAt H' b->RowAt K H' r x->At t x.1 x.2->Q r H'
theorem Zef:A1 ["_law_box_here", "_law_tree_here", "_law_rows"] ["_law_box_here", "_law_tree_here"] (An Jf):=by walk_at "sc"
theorem Zg0 {f:Addr}{fd:FuncData}(F:Fun K "_law_picked" "_law_picked" Jf f fd)(T:Txt K mg)(C__law_digit:Ao P w K mg base 1 "_law_digit" ["_law_box_here", "_law_many_here"] Du)(C__law_walk:Ao P w K mg base 1 "_law_walk" ["_law_tree_here"] (Le K)):Ar P w K mg base As 2 f fd ["_law_box_here", "_law_tree_here"] (K8 K):=by
 refine F.okq Zef (fun vs H Q E h=>?_) (fun cdv A outer s H vs Q E hr h=>?_)
 ·obtain ⟨b,v,t,rfl,_⟩:=h
  rfl
 ·obtain ⟨b,v,t,rfl,hb,ht,hz,q⟩:=h
  refine ⟨_,Ae (Aw 2 Zef (Ai C__law_walk hr.m (Aa (qv 1) Ab)))
   (Af (Aj (Ak K (qv 2) (Ai C__law_digit hr.m (Aa (qv 0) (Aa (Ba (Bs K) (by rfl) T.len (by decide +kernel) (Aa (qv 2) Ab)) Ab)))))),?_⟩
  walk_at "r"
  refine ⟨v,t,rfl,ht,hz,fun pr rows H1 s1 hpr er al=>?_⟩
  have npr:=hb.ne hpr
  have hrl:rows.length=t.size:=by rw [al.1,D5]
  have h1:1<=t.size:=by have:=t.size_eq;omega
  walk_at "r"
  refine Ds (SqL.of er) ?_
  walk_at "r"
  refine ⟨b,_,rfl,hb.same s1,by omega,by omega,fun d H2 s2 b2 d0 d1=>?_⟩
  obtain ⟨w0,hw0,hm0⟩:=Fs (xs:=rows) (i:=d) d0 d1
  obtain ⟨k,hk⟩:=List.getElem?_of_mem hm0
  obtain ⟨x,hx,hrow⟩:=al.get hk
  refine Bj (SqL.of (s2 _ _ npr er)) hw0 ?_
  exact q w0 x H2 ((s1.b b).trans s2) b2 (RowAt.same (s2.t (hb.same s1)) _ _ hrow) (My t _ (Oz hx))
theorem At.depw {t u f:Tr}{pl:List Nat}(h:At t pl u):Bq (Bc t pl f)<=Bq t+Bq f:=by
 induction h with
 | nil t=>rw [Dm];omega
 | @cons w n ts j t u r e _ ih =>
  rw [Ed e,Fm,Fm]
  have h1:=Zdg ts j (Bc t r f)
  have h2:=Zia e
  omega
theorem At.size {t u f:Tr}{pl:List Nat}(h:At t pl u):(Bc t pl f).size+u.size=t.size+f.size:=by
 induction h with
 | nil t=>rw [Dm];omega
 | @cons w n ts j t u r e _ ih=>rw [Ed e,Tr.size,Tr.size];have:=Za4 (u:=Bc t r f) e;omega
noncomputable def Zfp (K:Og):Sp:=fun vs H Q _=>∃(v:V)(b p:Addr)(t:Tr)(m:Nat),vs=[v,.ref b,.ref p,.int (m:Nat)]/\m<=12/\TrAt K H v t/\TrOk t/\t.size<=200/\Bq t<=40/\BoxAt H b/\PoolAt H p/\p≠b /\
 ∀(v':V)(t':Tr)(r:Rw)(H':Hp),SameB b H H'->TrAt K H' v' t'->TrOk t'->t'.size<=260->Bq t'<=70->Led t r t'->r.length=m->Q v' H'
theorem sc_law_done_here:A1 ["_law_tree_here", "_law_box_here", "_law_pool", "_law_many_here", "_law_here", "_law_j", "_law_place", "_law_form_here", "_law_made"] ["_law_tree_here", "_law_box_here", "_law_pool", "_law_many_here"] (An Hq):=by walk_at "sc"
theorem viaS {t:TS}{X:St->Hp->Prop}{rt:VK}{bk ct:St->Hp->Prop}{σ:St}{H:Hp}(R:St->Hp->Prop)(h2:∀ σ' H',R σ' H'->X σ' H')(h1:∀ Y:St->Hp->Prop,(∀ σ' H',R σ' H'->Y σ' H')->t ⟨Y,rt,bk,ct⟩ σ H):t ⟨X,rt,bk,ct⟩ σ H:=h1 X h2
theorem Zp0 {f:Addr}{fd:FuncData}(F:Fun K "_law_done_here" "_law_done_here" Hq f fd)(T:Txt K mg)(C__law_picked:Ao P w K mg base 2 "_law_picked" ["_law_box_here", "_law_tree_here"] (K8 K))(C__law_digit:Ao P w K mg base 1 "_law_digit" ["_law_box_here", "_law_many_here"] Du)(C__law_head:Ao P w K mg base 5 "_law_head" ["_law_box_here", "_law_pool", "_law_first"] (La K))(C__law_bare:Ao P w K mg base 2 "_law_bare" ["_law_head_here"] (Zao K))(C__law_with:Ao P w K mg base 2 "_law_with" ["_law_tree_here", "_law_place", "_law_form_here"] (Lc K)):Ar P w K mg base As 6 f fd ["_law_tree_here", "_law_box_here", "_law_pool", "_law_many_here"] (Zfp K):=by
 refine F.okq sc_law_done_here (fun vs H Q E h=>?_) (fun cdv A outer s H vs Q E hr h=>?_)
 ·obtain ⟨v,b,p,t,m,rfl,_⟩:=h
  rfl
 ·obtain ⟨v,b,p,t,m,rfl,hm,ht,okt,szt,dpt,hb,hp,np,q⟩:=h
  refine ⟨_,Ae (Aw 4 sc_law_done_here (qv 0))
   (Ae (Cj O8 rfl (Cr rfl T.range (Aa (qv 3) Ab)) (Ax (i:=5) sc_law_done_here.nd rfl (Or.inl rfl)) (Ae (E7 (Ai C__law_picked hr.m (Aa (qv 1) (Aa (qv 4) Ab))) (Eg K (n:=2) rfl (Bt (Ax (i:=6) sc_law_done_here.nd rfl (Or.inl rfl)) (Bt (Ax (i:=7) sc_law_done_here.nd rfl (Or.inl rfl)) (D6)))))
   (Ae (A2 (QW.qt (Gi (A0 (Bv K hr.u200) (qv 5) Ac (Av _)) (Jb (A0 (Bv K hr.u200) (Ai C__law_digit hr.m (Aa (qv 1) (Aa Ac Ab))) Ac (Av _))))) (Af (Znv (i:=6) (j:=7) rfl sc_law_done_here.nd rfl rfl (by decide) rfl rfl (Aa (Az Ab) (Aa (qv 4) Ab)))) A3)
   (Ae (Aw 8 sc_law_done_here (Az (Aa Au (Aa F2 (Aa (Az Ab) Ab)))))
   (Ae (A2 (A0 (Bv K hr.u200) (Ak K (qv 7) Ac) Au (Av _)) (Af (Aw 8 sc_law_done_here (Ai C__law_bare hr.m (Aa (Ai C__law_head hr.m (Aa (qv 1) (Aa (qv 2) (Aa Ac Ab)))) Ab)))) A3)
   (Af (Aw 4 sc_law_done_here (Ai C__law_with hr.m (Aa (qv 4) (Aa (qv 6) (Aa (qv 8) Ab)))))))))))
   (Af (Aj (qv 4)))),?_⟩
  have bg:=big
  walk_at "r"
  refine ⟨by omega,by omega,?_⟩
  refine Fj (n:=((m:Nat):Int).toNat) (fun i σ' H'=>∃(v5 v6 v7 v8:Option V)(h:V)(t':Tr)(r:Rw),σ'=[some v,some (.ref b),some (.ref p),some (.int (m:Nat)),some h,v5,v6,v7,v8]/\TrAt K H' h t'/\TrOk t'/\t'.size<=200+4 * i/\Bq t'<=40+2 * i/\Led t r t'/\r.length=i/\BoxAt H' b/\SameB b H H')
   ⟨_,_,_,_,v,t,[],rfl,ht,okt,by omega,by omega,.nil _,rfl,hb,(Same.refl H).b b⟩ ?_ ?_
  ·rintro i σ' H1 hi ⟨v5,v6,v7,v8,h,t',r,rfl,hh,okt',sz',dp',hled,hrl,b1,sb1⟩
   walk_at "r"
   refine ⟨b,h,t',rfl,b1,hh,by omega,fun row x H2 s2 b2 hrow hat=>?_⟩
   obtain ⟨pl,fx⟩:=x
   obtain ⟨ra,pp,fv,rfl,qa,qp,hf⟩:=hrow
   have hh2:=hh.sameT (s2.t b1)
   refine En qa rfl ?_
   iterate 6 walk_at "r1"
   refine viaS (t:=F6 _ _ _) (R:=fun σ' H'=>∃(pp':Addr)(fv':V)(pl':List Nat)(fx':Tr),σ'=[some v,some (.ref b),some (.ref p),some (.int (m:Nat)),some h,some (.int (0+(i:Int))),some (.ref pp'),some fv',v8]/\SqT K H' pp' (Ay pl')/\TrAt K H' fv' fx'/\At t' pl' fx'/\TrAt K H' h t'/\BoxAt H' b/\SameB b H H') ?_ (fun Y hY=>?_)
   rotate_left
   ·walk_at "r"
    refine A4 (fun _=>?_) (fun _=>?_)
    ·walk_at "r"
     refine ⟨b,3,rfl,b2,by decide,by decide,fun e H3 s3 b3 e0 e1=>?_⟩
     have t23:=s3.t b2
     walk_at "r"
     refine A4 (fun _=>?_) (fun _=>?_)
     ·walk_at "r"
      refine ⟨C1,fun p3 h3=>?_⟩
      have s4:=Same.upd (o:=.tup []) h3
      walk_at "r"
      refine ⟨_,_,rfl,?_⟩
      exact hY _ _ ⟨p3,h,[],t',rfl,SqT.of Ad,(hh2.sameT t23).same s4,.nil _,(hh2.sameT t23).same s4,b3.same s4,sb1.trans (s2.trans (s3.trans (s4.b b)))⟩
     ·walk_at "r"
      exact hY _ _ ⟨pp,fv,pl,fx,rfl,t23.tup qp,hf.sameT t23,hat,hh2.sameT t23,b3,sb1.trans (s2.trans s3)⟩
    ·walk_at "r"
     exact hY _ _ ⟨pp,fv,pl,fx,rfl,qp,hf,hat,hh2,b2,sb1.trans s2⟩
   clear hh2 hf qp hat qa b2 s2
   rintro σ3 H3 ⟨pp',fv',pl',fx',rfl,qp,hf,hat,hh3,b3,sb3⟩
   walk_at "r"
   refine ⟨C1,fun p4 h4=>?_⟩
   have s4:=Same.upd (o:=.tup []) h4
   walk_at "r"
   refine ⟨Cd,fun p5 h5=>?_⟩
   have s5:=Same.upd (o:=.tup [.str "gap",.non,.ref p4]) h5
   have s45:=s4.trans s5
   have gp:=TrAt.gap (K:=K) (SqT.of Ad) (s5.tup (SqT.of Ad))
   revert s45 gp
   generalize upd (upd H3 p4 (.tup [])) p5 (.tup [.str "gap",.non,.ref p4])=H5
   intro s45 gp
   have b5:=b3.same s45
   have sb5:=sb3.trans (s45.b b)
   have hf5:=hf.same s45
   have hh5:=hh3.same s45
   have qp5:=s45.tup qp
   have okf:=(hat.ok okt').1
   obtain ⟨fa,fp,fn,rfl,qf⟩:=Zb0 hf5
   have zs:=hat.size (f:=gapT)
   have hz1:1<=fx'.size:=by have:=fx'.size_eq;omega
   have dg:=Ms
   have sg:=Nz
   have dpw:=hat.depw (f:=gapT)
   walk_at "r"
   refine A6 qf rfl ?_
   walk_at "r"
   by_cases hw:fx'.wd = "gap"
   ·rw [hw,decide_eq_true (Eq.refl _)]
    walk_at "r"
    refine ⟨b,p,rfl,b5,hp.sameB np sb5,np,fun ha wd note n nt H6 s6 b6 qa hn hps hng hdn hnb=>?_⟩
    obtain ⟨k,hk⟩:=Q6.mp hps
    have k3:=(F1 hk).2.2.2.1
    have t56:=s6.t b5
    walk_at "r"
    refine ⟨ha,wd,note,n,k,rfl,qa,hn,hk,fun rr rp us H7 s7 qr qrp hul hug=>?_⟩
    have hg7:TrAt K H7 (.ref rr) (.mk wd n (Oo k gapT)):=.mk qr (hn.same s7.t) qrp (by rw [Qm];exact hul) fun j v t e1 e2=>by rw [Ql (Oz e2)];exact hug v (Oz e1)
    have okg:TrOk (.mk wd n (Oo k gapT)):=.mk (by rw [Qm];exact hk) hdn hnb fun t ht=>by rw [Ql ht];exact TrOk.gap
    have hdo:(Op.put (.mk wd n (Oo k gapT))).does fx' (.mk wd n (Oo k gapT)):=⟨Go okf hw,rfl,hng,(fun x hx=>Ql hx),by show (Oo k gapT).length<=3;rw [Qm];exact k3,okg⟩
    walk_at "r"
    refine ⟨h,pp',.ref rr,t',fx',_,pl',rfl,(hh5.sameT t56).same s7,by omega,s7.tup (t56.tup qp5),hat,hg7,fun v9 H9 s9 h9=>?_⟩
    have zw:=hat.size (f:=.mk wd n (Oo k gapT))
    have dw:=hat.depw (f:=.mk wd n (Oo k gapT))
    rw [Tr.size,Zcd] at zw
    rw [Fm] at dw
    have dr:=Zbj k
    walk_at "r"
    exact ⟨_,_,_,_,v9,_,r++[(pl',.put (.mk wd n (Oo k gapT)))],rfl,h9,hat.okw okt' okg,by omega,by omega,hled.app (.cons hat hdo (.nil _)),by simp [hrl],(b6.same s7).same s9,sb5.trans (s6.trans ((s7.trans s9).b b))⟩
   ·rw [decide_eq_false (fun h=>hw (V.str.inj h))]
    walk_at "r"
    refine ⟨h,pp',.ref p5,t',fx',gapT,pl',rfl,hh5,by omega,qp5,hat,gp,fun v9 H9 s9 h9=>?_⟩
    walk_at "r"
    exact ⟨_,_,_,_,v9,_,r++[(pl',.cut)],rfl,h9,hat.okw okt' TrOk.gap,by omega,by omega,hled.app (.cons hat (o:=.cut) ⟨hw,rfl⟩ (.nil _)),by simp [hrl],b5.same s9,sb5.trans (s9.b b)⟩
  ·rintro σ' H1 ⟨v5,v6,v7,v8,h,t',r,rfl,hh,okt',sz',dp',hled,hrl,b1,sb1⟩
   walk_at "r"
   exact q h t' r H1 sb1 hh okt' (by omega) (by omega) hled (by omega)
noncomputable def Zd3 (K:Og):Sp:=fun vs H Q _=>∃(b p:Addr),vs=[.ref b,.ref p]/\BoxAt H b/\PoolAt H p/\p≠b /\
 ∀(r:Addr)(x y:V)(t u:Tr)(H':Hp),SameB b H H'->SqL K H' r [x,y]->TrAt K H' x t->TrAt K H' y u->TrOk t->TrOk u->t.size<=100->u.size<=100->Bq t<=40->Bq u<=40->Q (.ref r) H'
theorem Zkq:(["_law_k", "_law_box_here", "_law_pool"]:List Str).Nodup:=by decide +kernel
theorem Zjr:(["_law_k", "_law_box_here", "_law_pool"]:List Str).Nodup:=by decide +kernel
theorem sc_law_ends:A1 ["_law_box_here", "_law_pool", "_law_turn", "_law_tree_here", "_law_place", "_law_form_here"] ["_law_box_here", "_law_pool"] (An Hn):=by walk_at "sc"
theorem Zqb {f:Addr}{fd:FuncData}(F:Fun K "_law_ends" "_law_ends" Hn f fd)(T:Txt K mg)(C__law_digit:Ao P w K mg base 1 "_law_digit" ["_law_box_here", "_law_many_here"] Du)(C__law_tree:Ao P w K mg base 6 "_law_tree" ["_law_box_here", "_law_pool", "_law_most"] (Mx K))(C__law_picked:Ao P w K mg base 2 "_law_picked" ["_law_box_here", "_law_tree_here"] (K8 K))(C__law_with:Ao P w K mg base 2 "_law_with" ["_law_tree_here", "_law_place", "_law_form_here"] (Lc K)):Ar P w K mg base As 7 f fd ["_law_box_here", "_law_pool"] (Zd3 K):=by
 refine F.okq sc_law_ends (fun vs H Q E h=>?_) (fun cdv A outer s H vs Q E hr h=>?_)
 ·obtain ⟨b,p,rfl,_⟩:=h
  rfl
 ·obtain ⟨b,p,rfl,hb,hp,np,q⟩:=h
  refine ⟨_,Ae (Aw 2 sc_law_ends (Ai C__law_digit hr.m (Aa (qv 0) (Aa Ac Ab))))
   (Ae (A2 (A0 (Bv K hr.u200) (qv 2) Ac (Av _)) (Ae (Aw 3 sc_law_ends (Az (Aa Au (Aa F2 (Aa (Fn (J6 K) (by rfl) T.tuple (by decide +kernel) (Aa (Dv (N:=["_law_k", "_law_box_here", "_law_pool"]) (σ0:=B8 1 [0,1]) rfl (C3 rfl (by decide +kernel) (by decide +kernel) (by decide +kernel)) (Cr rfl T.range (Aa Ac Ab)) (C0 rfl (by rfl)) (fun _ _ _ _=>Ax (i:=0) Zkq rfl (Or.inl rfl)) (fun _ _ _ _=>C9) (fun _ _ _ _=>Ai C__law_tree hr.m (Aa (qv 1) (Aa (qv 2) (Aa Ac Ab))))) Ab)) Ab)))))
   (Af (Aj (B0 (Aa (qv 3) (Aa (Az (Aa Au (Aa F2 (Aa (Fn (J6 K) (by rfl) T.tuple (by decide +kernel) (Aa (Dv (N:=["_law_k", "_law_box_here", "_law_pool"]) (σ0:=B8 1 [0,1]) rfl (C3 rfl (by decide +kernel) (by decide +kernel) (by decide +kernel)) (Cr rfl T.range (Aa Ac Ab)) (C0 rfl (by rfl)) (fun _ _ _ _=>Ax (i:=0) Zjr rfl (Or.inl rfl)) (fun _ _ _ _=>C9) (fun _ _ _ _=>Ai C__law_tree hr.m (Aa (qv 1) (Aa (qv 2) (Aa Ac Ab))))) Ab)) Ab)))) Ab)))))) A3)
   (Ae (Aw 3 sc_law_ends (Ai C__law_tree hr.m (Aa (qv 0) (Aa (qv 1) (Aa Ac Ab)))))
   (Ae (A2 (A0 (Bv K hr.u200) (qv 2) Ac (Av _)) (Ae (E7 (Ai C__law_picked hr.m (Aa (qv 0) (Aa (qv 3) Ab))) (Eg K (n:=2) rfl (Bt (Ax (i:=4) sc_law_ends.nd rfl (Or.inl rfl)) (Bt (Ax (i:=5) sc_law_ends.nd rfl (Or.inl rfl)) (D6)))))
   (Af (Aj (B0 (Aa (qv 3) (Aa (Ai C__law_with hr.m (Aa (qv 3) (Aa (qv 4) (Aa (Ai C__law_tree hr.m (Aa (qv 0) (Aa (qv 1) (Aa Ac Ab)))) Ab)))) Ab)))))) A3)
   (Af (Aj (B0 (Aa (qv 3) (Aa (Ai C__law_tree hr.m (Aa (qv 0) (Aa (qv 1) (Aa Ac Ab)))) Ab)))))))),?_⟩
  have bg:=big
  have three:∀{g:TG}{te:TE}{σ0:St}(H1:Hp)(D:Addr)(Q':VK),g=D9 0->te=Es (Mx K) [] E0 (Br (Be 1) (Br (Be 2) (Br (tC (V.int 2)) Ce)))->σ0=[none,some (.ref b),some (.ref p)]->H1 D=none->BoxAt H1 b->PoolAt H1 p->(∀(ys:List V)(ts:List Tr)(H2:Hp),H2 D=some (.lst ys)->Al (TrAt K H2) ys ts->ts.length=3->(∀ t∈ts,TrOk t)->Am ts<=33->A5 ts<=6->BoxAt H2 b->SameB b H1 H2->Q' (.ref D) H2)->G4 (Eh 0 (Ri 3)) g K1 te σ0 H1 D Q':=by
   intro g te σ0 H1 D Q' eg ee es hD b1 hp1 fin
   subst eg ee es
   have nD:=b1.ne hD
   refine G8 (n:=Ri 3) (Pv:=fun i ys σ' H'=>∃ kv ts,σ'=[kv,some (.ref b),some (.ref p)]/\Al (TrAt K H') ys ts/\ts.length=i/\(∀ t∈ts,TrOk t)/\Am ts<=11 * i/\A5 ts<=6/\BoxAt H' b/\SameB b H1 H') ⟨none,[],rfl,.nil,rfl,(fun t h=>nomatch h),by rw [Am];omega,by rw [Kb];omega,b1.off nD,(Same.upd hD).b b⟩ ?_ ?_
   ·rintro i ys σ' H' hi hys ⟨kv,ts,rfl,al,hl,okt,hz,hd,bb,sb⟩
    walk_at "r"
    refine ⟨b,p,2,rfl,by decide,bb,hp1.sameB np sb,np,fun v t H4 s4 b4 htv okv szv dpv=>?_⟩
    walk_at "r"
    have ey:=s4 _ _ nD hys
    have hyl:ys.length=i:=by rw [al.1];exact hl
    refine ⟨_,ey,by omega,_,Ad,?_⟩
    have tt:=(s4.t bb).trans (SameT.set (o:=.lst (ys++[v])) ey)
    refine ⟨_,ts++[t],rfl,(TrAt.al al tt).snoc (htv.sameT (SameT.set ey)),by simp [hl],Zeg okt okv,?_,?_,b4.off nD,(sb.trans s4).over hD⟩
    ·rw [F9,Am,Am];omega
    ·rw [Ih];omega
   ·rintro ys σ' H2 hys ⟨kv,ts,rfl,al,hl,okt,hz,hd,bb,sb⟩
    exact fin ys ts H2 hys al hl okt hz hd bb sb
  walk_at "r"
  refine ⟨b,3,rfl,hb,by decide,by decide,fun e H1 s1 b1 e0 e1=>?_⟩
  have hp1:=hp.sameB np s1
  walk_at "r"
  refine A4 (fun _=>?_) (fun _=>?_)
  ·walk_at "r"
   refine ⟨by omega,by omega,fun D hD=>?_⟩
   refine three H1 D _ rfl rfl rfl hD b1 hp1 fun ys ts H2 hys al hl okt hz hd b2 sb2=>?_
   walk_at "r"
   refine Ka (SqL.of hys) fun p3 h3=>?_
   have s3:=Same.upd (o:=.tup ys) h3
   walk_at "r"
   refine ⟨Cd,fun p4 h4=>?_⟩
   have s4:=Same.upd (o:=.tup [.str "if",.non,.ref p3]) h4
   have s34:=s3.trans s4
   have al4:=TrAt.al al s34.t
   have x4:TrAt K _ (.ref p4) (.mk "if" (.flat .non) ts):=.mk (SqT.of Ad) (.inl ⟨rfl,rfl⟩) (s4.tup (SqT.of Ad)) al4.1 al4.2
   have b4:=b2.same s34
   have sb4:=sb2.trans (s34.b b)
   revert x4 b4 sb4
   generalize upd (upd H2 p3 (.tup ys)) p4 (.tup [.str "if",.non,.ref p3])=H4
   intro x4 b4 sb4
   have okx:TrOk (.mk "if" (.flat .non) ts):=.mk (by rw [hl];decide +kernel) (.fl (v:=.non) trivial) (by decide +kernel) okt
   walk_at "r"
   refine ⟨by omega,by omega,fun D2 hD2=>?_⟩
   refine three H4 D2 _ rfl rfl rfl hD2 b4 (hp1.sameB np sb4) fun ys5 ts5 H5 hys5 al5 hl5 okt5 hz5 hd5 b5 sb5=>?_
   walk_at "r"
   refine Ka (SqL.of hys5) fun p6 h6=>?_
   have s6:=Same.upd (o:=.tup ys5) h6
   walk_at "r"
   refine ⟨Cd,fun p7 h7=>?_⟩
   have s7:=Same.upd (o:=.tup [.str "if",.non,.ref p6]) h7
   walk_at "r"
   refine ⟨B4,fun p8 h8=>?_⟩
   have s8:=Same.upd (o:=.lst [.ref p4,.ref p7]) h8
   have s68:=s6.trans (s7.trans s8)
   have al8:=TrAt.al al5 s68.t
   have oky:TrOk (.mk "if" (.flat .non) ts5):=.mk (by rw [hl5];decide +kernel) (.fl (v:=.non) trivial) (by decide +kernel) okt5
   exact q p8 (.ref p4) (.ref p7) _ _ _ (s1.trans (sb4.trans (sb5.trans (s68.b b)))) (SqL.of Ad) ((x4.sameT (sb5.t b4)).same s68) (.mk (s8.tup (SqT.of Ad)) (.inl ⟨rfl,rfl⟩) ((s7.trans s8).tup (SqT.of Ad)) al8.1 al8.2) okx oky (by rw [Tr.size];omega) (by rw [Tr.size];omega) (by rw [Fm];omega) (by rw [Fm];omega)
  walk_at "r"
  refine ⟨b,p,10,rfl,by decide,b1,hp1,np,fun x t H2 s2 b2 hx okt szt dpt=>?_⟩
  have hp2:=hp1.sameB np s2
  walk_at "r"
  refine A4 (fun _=>?_) (fun _=>?_)
  ·walk_at "r"
   refine ⟨b,x,t,rfl,b2,hx,by omega,fun row y H3 s3 b3 hrow hat=>?_⟩
   obtain ⟨pl,fx⟩:=y
   obtain ⟨ra,pp,fv,rfl,qa,qp,hf⟩:=hrow
   have hat:At t pl fx:=hat
   refine En qa rfl ?_
   walk_at "r"
   refine ⟨b,p,2,rfl,by decide,b3,hp2.sameB np s3,np,fun y u H4 s4 b4 hy oku szu dpu=>?_⟩
   have t34:=s4.t b3
   have t24:=(s3.t b2).trans t34
   walk_at "r"
   refine ⟨x,pp,y,t,fx,u,pl,rfl,hx.sameT t24,by omega,t34.tup qp,hat,hy,fun v5 H5 s5 h5=>?_⟩
   walk_at "r"
   refine ⟨B4,fun p6 h6=>?_⟩
   have s6:=Same.upd (o:=.lst [x,v5]) h6
   have zw:=At.size (f:=u) hat
   have dw:=At.depw (f:=u) hat
   exact q p6 x v5 t _ _ (s1.trans (s2.trans (s3.trans (s4.trans ((s5.trans s6).b b))))) (SqL.of Ad) ((hx.sameT t24).same (s5.trans s6)) (h5.same s6) okt (At.okw hat okt oku) (by omega) (by omega) (by omega) (by omega)
  ·walk_at "r"
   refine ⟨b,p,10,rfl,by decide,b2,hp2,np,fun y u H3 s3 b3 hy oku szu dpu=>?_⟩
   walk_at "r"
   refine ⟨B4,fun p6 h6=>?_⟩
   have s6:=Same.upd (o:=.lst [x,y]) h6
   exact q p6 x y t u _ (s1.trans (s2.trans (s3.trans (s6.b b)))) (SqL.of Ad) ((hx.sameT (s3.t b2)).same s6) (hy.same s6) okt oku (by omega) (by omega) (by omega) (by omega)
noncomputable def Zbp (K:Og):Sp:=fun vs H Q _=>∃(v:V)(t:Tr),vs=[v]/\TrAt K H v t/\t.size<=2000/\∀ H',Same H H'->Q (.int ((fp t).length:Nat)) H'
theorem Zff:(["_law_place", "_law_form_here"]:List Str).Nodup:=by decide +kernel
theorem Zkz:A1 ["_law_tree_here"] ["_law_tree_here"] (An Hg):=by walk_at "sc"
theorem Zoz {f:Addr}{fd:FuncData}(F:Fun K "_law_size" "_law_size" Hg f fd)(T:Txt K mg)(C__law_walk:Ao P w K mg base 1 "_law_walk" ["_law_tree_here"] (Le K)):Ar P w K mg base As 2 f fd ["_law_tree_here"] (Zbp K):=by
 refine F.okq Zkz (fun vs H Q E h=>?_) (fun cdv A outer s H vs Q E hr h=>?_)
 ·obtain ⟨v,t,rfl,_⟩:=h
  rfl
 ·obtain ⟨v,t,rfl,ht,hz,q⟩:=h
  refine ⟨_,Af (Aj (Ba (Bs K) (by rfl) T.len (by decide +kernel) (Aa (Dv (N:=["_law_place", "_law_form_here"]) (σ0:=B8 2 []) rfl (C3 rfl (by decide +kernel) (by decide +kernel) (by decide +kernel)) (D7 K (Ai C__law_walk hr.m (Aa (qv 0) Ab))) (C0 rfl (by rfl)) (fun _ _ _ _=>Eg K (n:=2) rfl (Bt (Ax (i:=0) Zff rfl (Or.inl rfl)) (Bt (Ax (i:=1) Zff rfl (Or.inl rfl)) (D6)))) (fun _ _ _ _=>Zc3 (A0 (Gh K hr.u200) (Ak K (qv 1) Ac) Au (Av _))) (fun _ _ _ _=>qv 0)) Ab))),?_⟩
  have bg:=big
  walk_at "r"
  refine ⟨v,t,rfl,ht,hz,fun p rows H1 s1 hp e1 al=>?_⟩
  have hrl:rows.length<=2000:=by have:=al.1;rw [D5] at this;omega
  refine .inl ⟨p,rfl,⟨_,SqL.of e1⟩,fun D hD=>?_⟩
  have nD:p≠D:=Bf e1 hD
  refine Ko (K:=K) (a:=p) (xs:=rows) (Pv:=fun i ys σ' H'=>∃ v0 v1,σ'=[v0,v1]/\H' p=some (.lst rows)/\ys.length=(((walk [] t).take i).filter Ci).length/\ys.length<=i/\SameT H1 H'/\Same H H') ⟨none,none,rfl,by rw [Ah nD];exact e1,rfl,Ol _,SameT.new hD,s1.put hD⟩ ?_ ?_ ?_
  ·rintro i ys σ' H' _ ⟨_,_,_,e,_⟩
   exact SqL.of e
  ·rintro i x ys σ' H' hx hys ⟨v0,v1,rfl,e,hl,hli,tt,sm⟩
   obtain ⟨⟨pl,y⟩,hy,hrow⟩:=al.get hx
   obtain ⟨a,pp,u,rfl,qa,qp,hu⟩:=id hrow
   have hi:=(O6.mp hx).1
   cases hu with
   | @mk b p3 wd nv n vs ts qb hn qpp hlv hch =>
   refine En (tt.tup qa) rfl ?_
   walk_at "r"
   refine A6 (tt.tup qb) rfl ?_
   walk_at "r"
   have eg:(!decide (V.str wd=V.str ("gap" : Str)))=Ci (pl,.mk wd n ts):=by
    show (!decide (V.str wd=V.str ("gap" : Str)))=!decide (wd=("gap" : Str))
    congr 1
    rw [P9]
    simp
   show if (!decide (V.str wd=V.str ("gap" : Str)))=true then _ else _
   rw [eg]
   cases hg:Ci (pl,.mk wd n ts) with
   | true =>
    walk_at "r"
    refine ⟨_,hys,by omega,_,Ad,?_⟩
    refine ⟨_,_,rfl,by rw [Ah nD];exact e,?_,by simp;omega,tt.trans (SameT.set hys),sm.over (s1.free hD)⟩
    rw [Kp hy,hg,if_pos rfl,Ou,Ou,hl]
    rfl
   | false =>
    walk_at "r"
    refine ⟨_,hys,?_⟩
    refine ⟨_,_,rfl,e,?_,by omega,tt,sm⟩
    rw [Kp hy,hg,if_neg Ot,Pt]
    exact hl
  ·rintro ys σ' H' hys ⟨v0,v1,rfl,e,hl,hli,tt,sm⟩
   walk_at "r"
   refine Ds (SqL.of hys) ?_
   rw [al.1,Tw] at hl
   rw [hl]
   exact q H' sm
theorem Zeq {w:Str}{xs:List V}(h:B7 w (.tp xs)=true):w = "rec" := by
 unfold B7 at h
 repeat' split at h
 all_goals first | (cases h;done) | assumption
theorem Zm5 {w w':Str}{n n':Dt}{nt nt':Nt}(hd:Dx n nt)(hd':Dx n' nt')(hb:B7 w nt=true)(hb':B7 w' nt'=true):Jt w w' n n':=by
 by_cases hw:w=w'
 ·subst hw
  have pu:∀ s t:Str,Pu (.tup ([V.str s,.str t].map Dt.flat)):=fun s t=>.tup fun d hd=>by
   simp only [O9,Ud,Ow,P8,or_false] at hd
   rcases hd with rfl | rfl
   ·exact .str s
   ·exact .str t
  obtain ⟨s1,s2,rfl,rfl⟩ | ⟨s1,s2,rfl,rfl⟩ | ⟨s1,s2,rfl,rfl⟩ | ⟨rfl,rfl⟩ | ⟨a1,a2,a3,a4,rfl,rfl⟩:=Zcb hb hb'
  ·cases hd;cases hd';exact .inl ⟨_,_,rfl,rfl,fun _=>rfl⟩
  ·cases hd;cases hd';exact .inl ⟨_,_,rfl,rfl,fun _=>rfl⟩
  ·cases hd;cases hd';exact .inl ⟨_,_,rfl,rfl,fun _=>rfl⟩
  ·cases hd;cases hd';exact .inl ⟨_,_,rfl,rfl,fun _=>rfl⟩
  ·cases hd;cases hd';exact .inr (.inl ⟨pu _ _,pu _ _,rfl⟩)
 ·cases hd with
  | fl _=>exact .inr (.inr ⟨hw,.inl ⟨_,rfl⟩⟩)
  | tp _ =>
   cases hd' with
   | fl _=>exact .inr (.inr ⟨hw,.inr ⟨_,rfl⟩⟩)
   | tp _=>exact absurd ((Zeq hb).trans (Zeq hb').symm) hw
mutual
theorem Zfn:∀ t t':Tr,TrOk t->TrOk t'->Ez t t'
 | .mk w n ts,.mk w' n' ts',ok,ok'=>by
  have h:Jt w w' n n':=by
   cases ok with
   | mk _ hd hb _ =>
   cases ok' with
   | mk _ hd' hb' _=>exact Zm5 hd hd' hb hb'
  exact .mk h fun a ha b hb=>Zci ts (Ek ok) a ha b (Ek ok' b hb)
theorem Zci:∀ ts:List Tr,(∀ x∈ts,TrOk x)->∀ a∈ts,∀ b,TrOk b->Ez a b
 | [],_,a,ha,_,_=>by cases ha
 | t::r,h,a,ha,b,hb=>by
  rcases Ow.mp ha with e | ha
  ·rw [e]
   exact Zfn t b (h t Pl) hb
  ·exact Zci r (fun x hx=>h x (Pd _ hx)) a ha b hb
end
mutual
theorem dpl:∀(t:Tr)(n:Nat),Bq t<=n->Fg n t
 | .mk w d ts,n,h=>by
  rw [Fm] at h
  obtain ⟨m,rfl⟩:∃ m,n=m+1:=⟨n - 1,by omega⟩
  exact .mk fun t ht=>dpls ts m (by omega) t ht
theorem dpls:∀(ts:List Tr)(n:Nat),A5 ts<=n->∀ t∈ts,Fg n t
 | [],_,_,t,ht=>by cases ht
 | x::r,n,h,t,ht=>by
  rw [L9] at h
  rcases Ow.mp ht with e | ht
  ·rw [e]
   exact dpl x n (by omega)
  ·exact dpls r n (by omega) t ht
end
theorem SameB.old {b:Addr}{H0 H1 H2:Hp}(e:SameB b H1 H2)(s:Same H0 H1)(h:H0 b=none):Same H0 H2:=fun c o hc=>e c o (fun z=>by rw [z,h] at hc;cases hc) (s c o hc)
noncomputable def dV (t:Tr)(T:List Tr):List V:=T.map fun u=>V.int ((A8 t u:Nat):Int)
noncomputable def RowI (H:Hp)(pm:Addr)(T:List Tr)(v:V)(t:Tr):Prop:=∃ q,v=.ref q/\q≠pm/\H q=some (.lst (dV t T))
theorem RowI.same {H H':Hp}{pm:Addr}{T:List Tr}(e:Same H H')(v:V)(t:Tr)(h:RowI H pm T v t):RowI H' pm T v t:=by
 obtain ⟨q,h1,h2,h3⟩:=h
 exact ⟨q,h1,h2,e _ _ h3⟩
theorem RowI.off {H:Hp}{pm:Addr}{T:List Tr}{o:HO}(v:V)(t:Tr)(h:RowI H pm T v t):RowI (upd H pm o) pm T v t:=by
 obtain ⟨q,h1,h2,h3⟩:=h
 exact ⟨q,h1,h2,by rw [Ah h2];exact h3⟩
theorem Zld {t u:Tr}{T:List Tr}{j:Nat}(h:T[j]?=some u):(dV t T)[j]?=some (.int ((A8 t u:Nat):Int)):=by unfold dV;rw [Qq,h];rfl
noncomputable def Zdt (K:Og):Sp:=fun vs H Q _=>∃(a:Addr)(ns:List Int),vs=[.ref a]/\SqL K H a (ns.map V.int)/\ns.length<=63/\∀ H',Q (.bl true) H'
theorem Zjx:(["_law_k", "_law_box_here"]:List Str).Nodup:=by decide +kernel
theorem Zj1:(["_law_other", "_law_one"]:List Str).Nodup:=by decide +kernel
theorem sc_law:A1 ["_law_script", "_law_box_here", "_law_pool", "_law_tree_here", "_law_last", "_law_deeds", "_law_middle", "_law_three", "_law_many_here", "_law_one", "_law_k", "_law_j", "_law_here", "_law_most", "_law_amid"] ["_law_script"] (An Hm):=by walk_at "sc"
theorem Zi6 {c:Cs}{f:Addr}{fd:FuncData}(F:Fun K "law" "law" Hm f fd)(T:Txt K mg)(C__law_box:Ao P w K mg base 1 "_law_box" ["_law_script", "_law_k"] (Zbq K))(C__law_name:Ao P w K mg base 2 "_law_name" ["_law_box_here"] M3)(C__law_ends:Ao P w K mg base 7 "_law_ends" ["_law_box_here", "_law_pool"] (Zd3 K))(C__law_digit:Ao P w K mg base 1 "_law_digit" ["_law_box_here", "_law_many_here"] Du)(C__law_done_here:Ao P w K mg base 6 "_law_done_here" ["_law_tree_here", "_law_box_here", "_law_pool", "_law_many_here"] (Zfp K))(C_row_to:Ao P w K mg base 9 "row_to" ["tree", "other"] (Zfl K c))(C__law_size:Ao P w K mg base 2 "_law_size" ["_law_tree_here"] (Zbp K)):Ar P w K mg base As 10 f fd ["_law_script"] (Zdt K):=by
 refine F.okq sc_law (fun vs H Q E h=>?_) (fun cdv A outer s H vs Q E hr h=>?_)
 ·obtain ⟨a,ns,rfl,_⟩:=h
  rfl
 ·obtain ⟨a,ns,rfl,hS,hn,q⟩:=h
  have S:Script K H a:=⟨ns,hS,hn⟩
  refine ⟨_,Ae (L5 (i:=1) sc_law.nd rfl (Or.inr rfl) (Ai C__law_box hr.m (Aa (qv 0) (Aa Ac Ab))))
   (Ae (Mm (i:=2) (N:=["_law_k", "_law_box_here"]) (σ0:=B8 1 [1]) rfl (C3 rfl (by decide +kernel) (by decide +kernel) (by decide +kernel)) (Cr rfl T.range (Aa Ac Ab)) (C0 rfl (by rfl)) (fun _ _ _ _=>Ax (i:=0) Zjx rfl (Or.inl rfl)) (fun _ _ _ _=>C9) (fun _ _ _ _=>Ai C__law_name hr.m (Aa (qv 1) Ab)) sc_law.nd rfl (Or.inl rfl))
   (Ae (E7 (Ai C__law_ends hr.m (Aa (Ai C__law_box hr.m (Aa (qv 0) (Aa Ac Ab))) (Aa (qv 2) Ab))) (Zgf K (n:=2) rfl (Bt (Ax (i:=3) sc_law.nd rfl (Or.inl rfl)) (Bt (Ax (i:=4) sc_law.nd rfl (Or.inl rfl)) (D6)))))
   (Ae (Aw 5 sc_law (Ai C__law_digit hr.m (Aa (qv 1) (Aa Ac Ab))))
   (Ae (Aw 6 sc_law (Ai C__law_done_here hr.m (Aa (qv 3) (Aa (Ai C__law_box hr.m (Aa (qv 0) (Aa Ac Ab))) (Aa (qv 2) (Aa (qv 5) Ab))))))
   (Ae (Aw 7 sc_law (B0 (Aa (qv 3) (Aa (qv 6) (Aa (qv 4) Ab)))))
   (Ae (Aw 8 sc_law (B0 Ab))
   (Ae (Cj O8 rfl (D7 K (qv 7)) (Ax (i:=9) sc_law.nd rfl (Or.inr rfl)) (Af (Eu (Dr K Pg Qy Qz El (qv 8) (Aa (Dv (N:=["_law_other", "_law_one"]) (σ0:=B8 1 [9]) rfl (C3 rfl (by decide +kernel) (by decide +kernel) (by decide +kernel)) (D7 K (qv 7)) (C0 rfl (by rfl)) (fun _ _ _ _=>Ax (i:=0) Zj1 rfl (Or.inl rfl)) (fun _ _ _ _=>C9) (fun _ _ _ _=>Ba (Bs K) (by rfl) T.len (by decide +kernel) (Aa (Ai C_row_to hr.m (Aa (qv 1) (Aa (qv 0) Ab))) Ab))) Ab)))))
   (Ae (A2 (A0 Dc (Ak K (Ak K (qv 8) Ac) Ac) (qv 5) (Av _)) (Af (Aj Di)) A3)
   (Ae (Cj O8 rfl (Cr rfl T.range (Aa Ac Ab)) (Ax (i:=10) sc_law.nd rfl (Or.inl rfl)) (Af (Cj O8 rfl (Cr rfl T.range (Aa Ac Ab)) (Ax (i:=11) sc_law.nd rfl (Or.inl rfl)) (Ae (Aw 12 sc_law (Ak K (Ak K (qv 8) (qv 10)) (qv 11)))
   (Ae (Aw 13 sc_law (Aq (Bk K) (Ai C__law_size hr.m (Aa (Ak K (qv 7) (qv 11)) Ab)) (Fn Mw (by rfl) T.int (by decide +kernel) (Aa (Bx (Gh K hr.u200) (Ak K (Ak K (qv 7) (qv 10)) Ac) Au (Av _)) Ab))))
   (Ae (A2 (QW.qt (Iy (A0 Dc (qv 12) (qv 13) (Av _)) (Jo (A0 (Gh K hr.u200) (Bx (Zdc K hr.u200) (qv 12) Ac (Av _)) (Bx (Zdc K hr.u200) (Ak K (qv 7) (qv 10)) (Ak K (qv 7) (qv 11)) (Av _)) (Av _))))) (Af (Aj Di)) A3)
   (Af (Cj O8 rfl (Cr rfl T.range (Aa Ac Ab)) (Ax (i:=14) sc_law.nd rfl (Or.inl rfl)) (Af (A2 (A0 Dc (qv 12) (Aq (Bk K) (Ak K (Ak K (qv 8) (qv 10)) (qv 14)) (Ak K (Ak K (qv 8) (qv 14)) (qv 11))) (Av _)) (Af (Aj Di)) A3))))))))))
   (Af (Aj Di))))))))))),?_⟩
  have bg:=big
  walk_at "r"
  refine ⟨a,1,rfl,S,by decide,by decide,fun b H1 s1 hb0 b1=>?_⟩
  walk_at "r"
  refine ⟨by decide,by decide,fun D hD=>?_⟩
  have nD:=b1.ne hD
  refine G8 (n:=Ri 3) (Pv:=fun i ys σ' H'=>∃ kv ts,σ'=[kv,some (.ref b)]/\ys=(ts:List Str).map V.str/\ts.length=i/\(∀ t∈ts,Bd t=true)/\BoxAt H' b/\SameB b H1 H') ⟨none,[],rfl,rfl,rfl,(fun t h=>nomatch h),b1.off nD,(Same.upd hD).b b⟩ ?_ ?_
  ·rintro i ys σ' H' hi hys ⟨kv,ts,rfl,rfl,hl,hc,bb,sb⟩
   walk_at "r"
   refine ⟨b,rfl,bb,fun t H2 s2 b2 hnt=>?_⟩
   walk_at "r"
   have ey:=s2 _ _ nD hys
   refine ⟨_,ey,by rw [O1];omega,_,Ad,?_⟩
   refine ⟨_,ts++[t],rfl,by simp,by simp [hl],fun t' h'=>?_,b2.off nD,(sb.trans s2).over hD⟩
   rcases Pr.mp h' with h' | h'
   ·exact hc t' h'
   ·rw [Qo.mp h'];exact hnt
  rintro ys σ' H2 hys ⟨kv,ts,rfl,rfl,hl,hc,b2,sb2⟩
  have pool:PoolAt H2 D:=by
   match ts,hl with
   | [t0,t1,t2],_=>exact ⟨t0,t1,t2,hys,hc t0 (by simp),hc t1 (by simp),hc t2 (by simp)⟩
  have s02:=sb2.old s1 hb0
  clear hys hc hl sb2
  walk_at "r"
  refine ⟨a,2,rfl,S.same s02,by decide,by decide,fun bx H3 s3 hx0 bx3=>?_⟩
  have nDx:D≠bx:=by
   obtain ⟨_,_,_,h,_⟩:=pool
   exact Bf h hx0
  walk_at "r"
  refine ⟨bx,D,rfl,bx3,by obtain ⟨t0,t1,t2,h1,h2⟩:=pool;exact ⟨t0,t1,t2,s3 _ _ h1,h2⟩,nDx,fun r x z t l H4 s4 qr hx hz okt okl szt szl dpt dpl'=>?_⟩
  have s24:=s4.old s3 hx0
  have s04:=s02.trans s24
  have b4:=b2.same s24
  have pool4:PoolAt H4 D:=by obtain ⟨t0,t1,t2,h1,h2⟩:=pool;exact ⟨t0,t1,t2,s24 _ _ h1,h2⟩
  refine Zqa qr rfl ?_
  walk_at "r"
  refine ⟨b,13,rfl,b4,by decide,by decide,fun d H5 s5 b5 d0 d1=>?_⟩
  have t45:=s5.t b4
  have s05:=s5.old s04 hb0
  walk_at "r"
  refine ⟨a,3,rfl,S.same s05,by decide,by decide,fun by_ H6 s6 hy0 by6=>?_⟩
  have pool5:=pool4.sameB nD s5
  have nDy:D≠by_:=by
   obtain ⟨_,_,_,h,_⟩:=pool5
   exact Bf h hy0
  obtain ⟨k,rfl⟩:∃ k:Nat,d=(k:Nat):=⟨d.toNat,by omega⟩
  walk_at "r"
  refine ⟨x,by_,D,t,k,rfl,by omega,(hx.sameT t45).same s6,okt,by omega,by omega,by6,by obtain ⟨t0,t1,t2,h1,h2⟩:=pool5;exact ⟨t0,t1,t2,s6 _ _ h1,h2⟩,nDy,fun y u rw H7 s7 hy oku szu dpu hled hrl=>?_⟩
  have s57:=s7.old s6 hy0
  have hx7:=(hx.sameT t45).same s57
  have hz7:=(hz.sameT t45).same s57
  clear s1 s3 s4 s24 s04 s5 s6 s7 b1 b2 b4 b5 by6 bx3 pool pool4 pool5 s02 s05 s57 hx hz t45 qr
  walk_at "r"
  refine ⟨Cd,fun pt hpt=>?_⟩
  have s8:=Same.upd (o:=.lst [x,y,z]) hpt
  have e8:upd H7 pt (.lst [x,y,z]) pt=some (.lst [x,y,z]):=Ad
  have al8:Al (TrAt K (upd H7 pt (.lst [x,y,z]))) [x,y,z] [t,u,l]:=((Al.nil.snoc (hx7.same s8)).snoc (hy.same s8)).snoc (hz7.same s8)
  revert e8 al8
  generalize upd H7 pt (.lst [x,y,z])=H8
  intro e8 al8
  have okT:∀ v∈[t,u,l],TrOk v:=fun v hv=>by
   simp only [Ow,P8,or_false] at hv
   rcases hv with rfl | rfl | rfl <;> assumption
  have szT:∀ v∈[t,u,l],v.size<=300:=fun v hv=>by
   simp only [Ow,P8,or_false] at hv
   rcases hv with rfl | rfl | rfl <;> omega
  have dpT:∀ v∈[t,u,l],Bq v<=70:=fun v hv=>by
   simp only [Ow,P8,or_false] at hv
   rcases hv with rfl | rfl | rfl <;> omega
  have h01:A8 t u<=k:=by have:=Zik hled okt oku;omega
  clear hx7 hy hz7 s8 hpt
  walk_at "r"
  refine ⟨C1,fun pm hpm=>?_⟩
  have npm:pt≠pm:=Bf e8 hpm
  walk_at "r"
  refine .inl ⟨pt,rfl,⟨_,SqL.of (by rw [Ah npm];exact e8)⟩,?_⟩
  refine Zm6 (K:=K) (a:=pt) (xs:=[x,y,z]) (fun i σ' H'=>∃(v9:Option V)(mv:List V),σ'=[some (.ref a),some (.ref b),some (.ref D),some x,some z,some (.int (k:Nat)),some y,some (.ref pt),some (.ref pm),v9,none,none,none,none,none]/\H' pm=some (.lst mv)/\Al (RowI H' pm [t,u,l]) mv ([t,u,l].take i)/\Same H8 H') ⟨_,[],rfl,Ad,.nil,Same.upd hpm⟩ ?_ ?_ ?_
  ·rintro i σ' H' _ ⟨_,_,_,_,_,sm⟩
   exact SqL.of (sm _ _ e8)
  ·rintro i xv σ' H9 hxv ⟨v9,mv,rfl,em,alm,sm⟩
   obtain ⟨ti,hti,hxi⟩:=al8.get hxv
   have hi3:=(O6.mp hti).1
   have hi3:i < 3:=hi3
   have mti:=Oz hti
   have hml:mv.length<=3:=by rw [alm.1,Pq];omega
   walk_at "r"
   refine Cq (SqL.of em) ?_
   walk_at "r"
   refine .inl ⟨pt,rfl,⟨_,SqL.of (sm _ _ e8)⟩,fun D2 hD2=>?_⟩
   have nD2:D2≠pm:=(Bf em hD2).symm
   refine Ko (K:=K) (a:=pt) (xs:=[x,y,z]) (Pv:=fun j ys σ' H'=>∃ kv,σ'=[kv,some xv]/\ys=dV ti ([t,u,l].take j)/\Same H9 H') ⟨none,rfl,rfl,Same.upd hD2⟩ ?_ ?_ ?_
   ·rintro j ys σ' H' _ ⟨_,_,_,s⟩
    exact SqL.of ((sm.trans s) _ _ e8)
   ·rintro j yv ys σ' H10 hyv hys ⟨kv,rfl,rfl,s10⟩
    obtain ⟨tj,htj,hyj⟩:=al8.get hyv
    have mtj:=Oz htj
    have hj3:j < 3:=(O6.mp htj).1
    walk_at "r"
    refine ⟨xv,yv,ti,tj,rfl,hxi.same (sm.trans s10),hyj.same (sm.trans s10),okT ti mti,okT tj mtj,by have:=szT ti mti;omega,by have:=szT tj mtj;omega,fun q1 H11 s11 hq1 h11=>?_⟩
    obtain ⟨vs,ev,alv⟩:=h11
    walk_at "r"
    refine Ds (SqL.of ev) ?_
    walk_at "r"
    have ey:=s11 _ _ hys
    refine ⟨_,ey,by unfold dV;rw [O1,Pq];omega,_,Ad,?_⟩
    refine ⟨_,rfl,?_,(s10.trans s11).over hD2⟩
    rw [Rt,htj]
    unfold dV
    rw [Pm,alv.1]
    rfl
   ·rintro ys σ' H10 hys ⟨kv,rfl,rfl,s10⟩
    walk_at "r"
    have em10:=s10 _ _ em
    refine Fk em10 (by omega) ?_
    walk_at "r"
    refine ⟨_,_,rfl,Ad,?_,(sm.trans s10).over hpm⟩
    rw [Rt,hti]
    refine (alm.mono fun v w h=>RowI.off v w (RowI.same s10 v w h)).snoc (RowI.off _ _ ⟨D2,rfl,nD2,?_⟩)
    rw [hys]
    rfl
  ·rintro σ' H9 ⟨v9,mv,rfl,em,alm,sm⟩
   have alm:Al (RowI H9 pm [t,u,l]) mv [t,u,l]:=alm
   have acc:∀(i j:Nat)(ti tj:Tr)(H':Hp),Same H9 H'->[t,u,l][i]?=some ti->[t,u,l][j]?=some tj->∃ q,Bm mv ((i:Nat):Int)=some (.ref q)/\SqL K H' q (dV ti [t,u,l])/\Bm (dV ti [t,u,l]) ((j:Nat):Int)=some (.int ((A8 ti tj:Nat):Int)):=fun i j ti tj H' s hi hj=>by
    obtain ⟨v,hv,q,rfl,_,hq⟩:=alm.get' hi
    exact ⟨q,Dh hv,SqL.of (s _ _ hq),Dh (Zld hj)⟩
   have al9:Al (TrAt K H9) [x,y,z] [t,u,l]:=TrAt.al al8 sm.t
   have e9:=sm _ _ e8
   walk_at "r"
   obtain ⟨q0,a1,a2,a3⟩:=acc 0 1 t u H9 (Same.refl _) rfl rfl
   refine Bj (SqL.of em) a1 ?_
   walk_at "r"
   refine Bj a2 a3 ?_
   walk_at "r"
   rw [decide_eq_false (show ¬ ((k:Nat):Int) < ((A8 t u:Nat):Int) by omega)]
   walk_at "r"
   refine ⟨by decide,by decide,?_⟩
   refine Fj (n:=Ri 3) (fun i σ' H'=>∃(v10 v11 v12 v13 v14:Option V),σ'=[some (.ref a),some (.ref b),some (.ref D),some x,some z,some (.int (k:Nat)),some y,some (.ref pt),some (.ref pm),v9,v10,v11,v12,v13,v14]/\Same H9 H') ⟨_,_,_,_,_,rfl,Same.refl _⟩ ?_ ?_
   ·rintro i σ' H10 hi ⟨v10,v11,v12,v13,v14,rfl,s10⟩
    have hi:i < 3:=hi
    have hti:[t,u,l][i]?=some [t,u,l][i]:=Oi (by show i < 3;exact hi)
    generalize [t,u,l][i]=ti at hti
    have mti:=Oz hti
    rw [R6]
    walk_at "r"
    refine ⟨by decide,by decide,?_⟩
    refine Fj (n:=Ri 3) (fun j σ' H'=>∃(v11 v12 v13 v14:Option V),σ'=[some (.ref a),some (.ref b),some (.ref D),some x,some z,some (.int (k:Nat)),some y,some (.ref pt),some (.ref pm),v9,some (.int (i:Nat)),v11,v12,v13,v14]/\Same H9 H') ⟨_,_,_,_,rfl,s10⟩ ?_ ?_
    ·rintro j σ' H11 hj ⟨v11,v12,v13,v14,rfl,s11⟩
     have hj:j < 3:=hj
     have htj:[t,u,l][j]?=some [t,u,l][j]:=Oi (by show j < 3;exact hj)
     generalize [t,u,l][j]=tj at htj
     have mtj:=Oz htj
     obtain ⟨xi,hxi,hai⟩:=al9.get' hti
     obtain ⟨xj,hxj,haj⟩:=al9.get' htj
     rw [R6]
     walk_at "r"
     obtain ⟨qi,a1,a2,a3⟩:=acc i j ti tj H11 s11 hti htj
     refine Bj (SqL.of (s11 _ _ em)) a1 ?_
     walk_at "r"
     refine Bj a2 a3 ?_
     walk_at "r"
     refine Bj (SqL.of (s11 _ _ e9)) (Dh hxj) ?_
     walk_at "r"
     refine ⟨xj,tj,rfl,haj.same s11,by have:=szT tj mtj;omega,fun H12 s12=>?_⟩
     have s912:=s11.trans s12
     walk_at "r"
     refine Bj (SqL.of (s912 _ _ e9)) (Dh hxi) ?_
     walk_at "r"
     obtain ⟨ia,ip,inn,rfl,iq⟩:=Zb0 (hai.same s912)
     refine A6 iq rfl ?_
     walk_at "r"
     have most:A8 ti tj<=(fp tj).length+(if (!decide (V.str ti.wd=V.str ("gap" : Str)))=true then 1 else 0):=by
      have:=Zk1 ti tj (okT ti mti)
      by_cases hw:ti.wd = "gap"
      ·rw [if_pos hw] at this
       omega
      ·rw [if_neg hw] at this
       rw [decide_eq_false (fun h=>hw (V.str.inj h))]
       exact this
     rw [decide_eq_false (by
      intro hlt
      revert most hlt
      cases (!decide (V.str ti.wd=V.str ("gap" : Str))) <;> simp <;> omega)]
     walk_at "r"
     refine Zjp rfl ?_
     walk_at "r"
     refine Bj (SqL.of (s912 _ _ e9)) (Dh hxi) ?_
     walk_at "r"
     refine Bj (SqL.of (s912 _ _ e9)) (Dh hxj) ?_
     refine Zop (n:=70) (by decide) (dpl ti 70 (dpT ti mti)) (hai.same s912) (haj.same s912) (Zfn ti tj (okT ti mti) (okT tj mtj)) fun bb hbb=>?_
     have same:decide (V.int ((A8 ti tj:Nat):Int)=V.int 0)=bb:=by
      have hz:=Zmh (okT ti mti) (okT tj mtj)
      rw [P9,decide_eq_true_iff,hbb,<- hz]
      constructor
      ·intro h
       have:=V.int.inj h
       omega
      ·intro h
       rw [h]
       rfl
     rw [same]
     walk_at "r"
     rw [decide_eq_true (Eq.refl (V.bl bb))]
     walk_at "r"
     refine ⟨by decide,by decide,?_⟩
     refine Fj (n:=Ri 3) (fun e σ' H'=>∃(v13 v14:Option V),σ'=[some (.ref a),some (.ref b),some (.ref D),some x,some z,some (.int (k:Nat)),some y,some (.ref pt),some (.ref pm),v9,some (.int (i:Nat)),some (.int (j:Nat)),some (.int ((A8 ti tj:Nat):Int)),v13,v14]/\H'=H12) ⟨_,_,rfl,rfl⟩ ?_ ?_
     ·rintro e σ' H13 he ⟨v13',v14',rfl,rfl⟩
      have he:e < 3:=he
      have hte:[t,u,l][e]?=some [t,u,l][e]:=Oi (by show e < 3;exact he)
      generalize [t,u,l][e]=te at hte
      have mte:=Oz hte
      rw [R6]
      walk_at "r"
      obtain ⟨qi,a1,a2,a3⟩:=acc i e ti te _ s912 hti hte
      refine Bj (SqL.of (s912 _ _ em)) a1 ?_
      walk_at "r"
      refine Bj a2 a3 ?_
      walk_at "r"
      obtain ⟨qe,c1,c2,c3⟩:=acc e j te tj _ s912 hte htj
      refine Bj (SqL.of (s912 _ _ em)) c1 ?_
      walk_at "r"
      refine Bj c2 c3 ?_
      walk_at "r"
      have tri:=Zh7 (okT ti mti) (okT te mte) (okT tj mtj)
      rw [decide_eq_false (show ¬ ((A8 ti te:Nat):Int)+((A8 te tj:Nat):Int) < ((A8 ti tj:Nat):Int) by omega)]
      walk_at "r"
      exact ⟨_,_,rfl,rfl⟩
     ·rintro σ' H13 ⟨v13',v14',rfl,rfl⟩
      exact ⟨_,_,_,_,rfl,s912⟩
    ·rintro σ' H11 ⟨v11,v12,v13,v14,rfl,s11⟩
     exact ⟨_,_,_,_,_,rfl,s11⟩
   ·rintro σ' H10 ⟨v10,v11,v12,v13,v14,rfl,s10⟩
    walk_at "r"
    exact q H10
end
end K28
namespace K28
open PySem L2
local macro_rules | `(tactic| walk_at "zF")=>`(tactic| exact (let +zeta a:=_; let +zeta b:=_; let +zeta c:=_; let +zeta d:=_; let +zeta e:=_; let +zeta f:=_; let +zeta g:=_; let +zeta h:=_; let +zeta i:=_; let +zeta j:=_; have +usedOnly q:(‹Stmt›:Stmt)=.FunctionDef a b c d e f g h i j:=rfl; .FunctionDef a b c d e f g h i j))
local macro_rules | `(tactic| walk_at "zA")=>`(tactic| exact (let +zeta a:=_; let +zeta b:=_; let +zeta c:=_; have +usedOnly q:(‹Stmt›:Stmt)=.Assign a b c:=rfl; .Assign a b c))
local macro_rules | `(tactic| walk_at "zC")=>`(tactic| exact (let +zeta a:=_; let +zeta b:=_; let +zeta c:=_; let +zeta d:=_; let +zeta e:=_; let +zeta f:=_; let +zeta g:=_; let +zeta h:=_; let +zeta i:=_; let +zeta j:=_; let +zeta k:=_; have +usedOnly q:(‹Stmt›:Stmt)=.ClassDef a b c d e f g h i j k:=rfl; .ClassDef a b c d e f g h i j k))
noncomputable def w0:Stmt:=by let +zeta s:=top 0;walk_at "zF"
noncomputable def w1:Stmt:=by let +zeta s:=top 1;walk_at "zA"
noncomputable def w2:Stmt:=by let +zeta s:=top 2;walk_at "zC"
noncomputable def w3:Stmt:=by let +zeta s:=top 3;walk_at "zC"
noncomputable def w4:Stmt:=by let +zeta s:=top 4;walk_at "zA"
noncomputable def w5:Stmt:=by let +zeta s:=top 5;walk_at "zA"
noncomputable def w6:Stmt:=by let +zeta s:=top 6;walk_at "zA"
noncomputable def w7:Stmt:=by let +zeta s:=top 7;walk_at "zA"
noncomputable def w8:Stmt:=by let +zeta s:=top 8;walk_at "zA"
noncomputable def w9:Stmt:=by let +zeta s:=top 9;walk_at "zA"
noncomputable def w10:Stmt:=by let +zeta s:=top 10;walk_at "zA"
noncomputable def w11:Stmt:=by let +zeta s:=top 11;walk_at "zF"
noncomputable def w12:Stmt:=by let +zeta s:=top 12;walk_at "zF"
noncomputable def w13:Stmt:=by let +zeta s:=top 13;walk_at "zF"
noncomputable def w14:Stmt:=by let +zeta s:=top 14;walk_at "zF"
noncomputable def w15:Stmt:=by let +zeta s:=top 15;walk_at "zF"
noncomputable def w16:Stmt:=by let +zeta s:=top 16;walk_at "zF"
noncomputable def w17:Stmt:=by let +zeta s:=top 17;walk_at "zF"
noncomputable def w18:Stmt:=by let +zeta s:=top 18;walk_at "zF"
noncomputable def w19:Stmt:=by let +zeta s:=top 19;walk_at "zF"
noncomputable def w20:Stmt:=by let +zeta s:=top 20;walk_at "zF"
noncomputable def w21:Stmt:=by let +zeta s:=top 21;walk_at "zA"
noncomputable def w22:Stmt:=by let +zeta s:=top 22;walk_at "zF"
noncomputable def w23:Stmt:=by let +zeta s:=top 23;walk_at "zA"
noncomputable def w24:Stmt:=by let +zeta s:=top 24;walk_at "zC"
noncomputable def Zgu:Stmt:=by let +zeta s:=(Df 25 0);walk_at "zF"
noncomputable def Zap:Stmt:=by let +zeta s:=(Df 25 1);walk_at "zF"
noncomputable def Zaa:Stmt:=by let +zeta s:=(Df 25 2);walk_at "zF"
noncomputable def w25:Stmt:=let +zeta a:=_;let +zeta b:=_;let +zeta c:=_;let +zeta d:=_;let +zeta e:=_;let +zeta f:=_;let +zeta g:=_;let +zeta h:=_;let +zeta i:=_;let +zeta j:=_;let +zeta k:=_;have +usedOnly q:top 25=.ClassDef a b c d e f g h i j k:=rfl;.ClassDef a b c [Zgu,Zap,Zaa] e f g h i j k
noncomputable def w26:Stmt:=by let +zeta s:=top 26;walk_at "zC"
noncomputable def w27:Stmt:=by let +zeta s:=top 27;walk_at "zA"
noncomputable def w28:Stmt:=by let +zeta s:=top 28;walk_at "zF"
noncomputable def w29:Stmt:=by let +zeta s:=top 29;walk_at "zF"
noncomputable def w30:Stmt:=by let +zeta s:=top 30;walk_at "zF"
noncomputable def w31:Stmt:=by let +zeta s:=top 31;walk_at "zF"
noncomputable def w32:Stmt:=by let +zeta s:=top 32;walk_at "zF"
noncomputable def w33:Stmt:=by let +zeta s:=top 33;walk_at "zF"
noncomputable def w34:Stmt:=by let +zeta s:=top 34;walk_at "zA"
noncomputable def w35:Stmt:=by let +zeta s:=top 35;walk_at "zF"
noncomputable def w36:Stmt:=by let +zeta s:=top 36;walk_at "zF"
noncomputable def w37:Stmt:=by let +zeta s:=top 37;walk_at "zF"
noncomputable def w38:Stmt:=by let +zeta s:=top 38;walk_at "zF"
noncomputable def w39:Stmt:=by let +zeta s:=top 39;walk_at "zF"
noncomputable def w40:Stmt:=by let +zeta s:=top 40;walk_at "zF"
noncomputable def w41:Stmt:=by let +zeta s:=top 41;walk_at "zF"
noncomputable def w42:Stmt:=by let +zeta s:=top 42;walk_at "zF"
noncomputable def w43:Stmt:=by let +zeta s:=top 43;walk_at "zF"
noncomputable def w44:Stmt:=by let +zeta s:=top 44;walk_at "zF"
noncomputable def w45:Stmt:=by let +zeta s:=top 45;walk_at "zF"
noncomputable def w46:Stmt:=by let +zeta s:=top 46;walk_at "zF"
noncomputable def w47:Stmt:=by let +zeta s:=top 47;walk_at "zF"
noncomputable def w48:Stmt:=by let +zeta s:=top 48;walk_at "zF"
noncomputable def w49:Stmt:=by let +zeta s:=top 49;walk_at "zF"
noncomputable def w50:Stmt:=by let +zeta s:=top 50;walk_at "zF"
noncomputable def w51:Stmt:=by let +zeta s:=top 51;walk_at "zF"
noncomputable def w52:Stmt:=by let +zeta s:=top 52;walk_at "zF"
noncomputable def w53:Stmt:=by let +zeta s:=top 53;walk_at "zF"
noncomputable def w54:Stmt:=by let +zeta s:=top 54;walk_at "zF"
noncomputable def PWc:Program:=let +zeta a:=_;let +zeta b:=_;let +zeta c:=_;let +zeta d:=_;let +zeta e:=_;let +zeta f:=_;let +zeta g:=_;let +zeta h:=_;let +zeta i:=_;let +zeta j:=_;have +usedOnly q:Rj=⟨⟨a,b,c,d,e⟩,f,g,h,i,j⟩:=rfl;⟨⟨[w0,w1,w2,w3,w4,w5,w6,w7,w8,w9,w10,w11,w12,w13,w14,w15,w16,w17,w18,w19,w20,w21,w22,w23,w24,w25,w26,w27,w28,w29,w30,w31,w32,w33,w34,w35,w36,w37,w38,w39,w40,w41,w42,w43,w44,w45,w46,w47,w48,w49,w50,w51,w52,w53,w54],b,c,d,e⟩,f,g,h,i,j⟩
theorem e_PW:PWc=PWc:=rfl
name_quick x_PW for K28.PWc by K28.e_PW
end K28
noncomputable def PySem.W.Fast.tw8204849832525437512:PySem.Program:=PySem.W.Fast.tw8435259449619889849
theorem PySem.W.Fast.te8204849832525437512:Rj=PySem.W.Fast.tw8204849832525437512:=(rfl:Rj=K28.PWc).trans PySem.W.Fast.te8435259449619889849
namespace K28
open PySem L2
noncomputable def VWc:Program:={ Rj with main:={ Rj.main with body:=[w0,w2,w3,w5,w6,w7,w8,w9,w10,w11,w12,w13,w14,w15,w16,w17,w18,w19,w20,w22,w24,w25,w26,w28,w29,w30,w31,w32,w33,w35,w36,w37,w38,w39,w40,w41,w42,w43,w44,w45,w46,w47,w48,w49,w50,w51,w52,w53,w54] } }
noncomputable def S0:List Stmt:=[w6,w7,w8,w9,w10,w11,w12,w13,w14,w15]
noncomputable def S1:List Stmt:=[w25]
noncomputable def S2:List Stmt:=[w0,w1,w2]
noncomputable def S3:List Stmt:=[w3,w4,w5]
noncomputable def S4:List Stmt:=[w44,w45,w46,w47,w48,w49,w50,w51,w52,w53,w54]
noncomputable def S5:List Stmt:=[w24]
noncomputable def S6:List Stmt:=[w31,w32,w33,w34,w35,w36,w37,w38,w39,w40,w41,w42,w43]
noncomputable def S7:List Stmt:=[w16,w17,w18,w19,w20,w21,w22,w23]
noncomputable def S8:List Stmt:=[w26,w27,w28,w29,w30]
noncomputable def SB:Program×List (List Stmt):=(VWc,[S0,S1,S2,S3,S4,S5,S6,S7,S8])
theorem e_SB:SB=SB:=rfl
name_quick x_SB for K28.SB by K28.e_SB
end K28
noncomputable def PySem.W.Fast.tw9878934788431221612:PySem.Program:=PySem.W.Fast.tw10040753337686336175
theorem PySem.W.Fast.te9878934788431221612:K28.VWc=PySem.W.Fast.tw9878934788431221612:=PySem.W.Fast.te10040753337686336175
noncomputable def PySem.W.Fast.tw11472516247036551459:List Qv:=PySem.W.Fast.tw6167941473673121123
theorem PySem.W.Fast.te11472516247036551459:K28.S0=PySem.W.Fast.tw11472516247036551459:=PySem.W.Fast.te6167941473673121123
noncomputable def PySem.W.Fast.tw17562985955005799204:List Qv:=PySem.W.Fast.tw10664643651753909566
theorem PySem.W.Fast.te17562985955005799204:K28.S1=PySem.W.Fast.tw17562985955005799204:=PySem.W.Fast.te10664643651753909566
noncomputable def PySem.W.Fast.tw12772034121102311208:List Qv:=PySem.W.Fast.tw13505834632013557657
theorem PySem.W.Fast.te12772034121102311208:K28.S2=PySem.W.Fast.tw12772034121102311208:=PySem.W.Fast.te13505834632013557657
noncomputable def PySem.W.Fast.tw16007808310343421136:List Qv:=PySem.W.Fast.tw6129502640892643327
theorem PySem.W.Fast.te16007808310343421136:K28.S3=PySem.W.Fast.tw16007808310343421136:=PySem.W.Fast.te6129502640892643327
noncomputable def PySem.W.Fast.tw16703918373267212656:List Qv:=PySem.W.Fast.tw5289562955969008618
theorem PySem.W.Fast.te16703918373267212656:K28.S4=PySem.W.Fast.tw16703918373267212656:=PySem.W.Fast.te5289562955969008618
noncomputable def PySem.W.Fast.tw11293406964234164913:List Qv:=PySem.W.Fast.tw6877150372938192594
theorem PySem.W.Fast.te11293406964234164913:K28.S5=PySem.W.Fast.tw11293406964234164913:=PySem.W.Fast.te6877150372938192594
noncomputable def PySem.W.Fast.tw6783291077731510129:List Qv:=PySem.W.Fast.tw1879632649901718603
theorem PySem.W.Fast.te6783291077731510129:K28.S6=PySem.W.Fast.tw6783291077731510129:=PySem.W.Fast.te1879632649901718603
noncomputable def PySem.W.Fast.tw11390753663722893883:List Qv:=PySem.W.Fast.tw13778967012829859531
theorem PySem.W.Fast.te11390753663722893883:K28.S7=PySem.W.Fast.tw11390753663722893883:=PySem.W.Fast.te13778967012829859531
noncomputable def PySem.W.Fast.tw9451910367845725564:List Qv:=PySem.W.Fast.tw14698387743008195092
theorem PySem.W.Fast.te9451910367845725564:K28.S8=PySem.W.Fast.tw9451910367845725564:=PySem.W.Fast.te14698387743008195092
namespace K28
open PySem L2 PySem.W
noncomputable def zs (i j:Nat):Stmt:=match top i with | .ClassDef _ _ _ b _ _ _ _ _ _ _=>b.getD j (.Pass ⟨0,0,0,0⟩) | s=>s
noncomputable def ze (P:Params)(s:Str)(t:Tok)(v:Value):DictEntry:=⟨PyData.keyHash P s,.str s t,v⟩
noncomputable abbrev B:=Qc
noncomputable def evb (l:List Obj):Bool->List Obj:=@List.rec Obj (fun _=>Bool->List Obj) (fun _=>[]) (fun a _ ih b=>@Bool.rec (fun _=>List Obj) (ih true) (a::ih false) b) l
noncomputable def tO (l:List Obj):B:=@Nat.rec (fun _=>List Obj->B) (fun _=>.nil) (fun _ ih l=>@List.rec Obj (fun _=>B) .nil (fun x r _=>.node x (ih (evb r true)) (ih (evb r false))) l) 12 l
noncomputable def zv:List (Str×Tok)->List Value
 | []=>[]
 | (a,b)::t=>.str a b::zv t
noncomputable def zu (l:List (Str×Tok)):Obj:=⟨.type "tuple",none,.seq ⟨zv l⟩,#[]⟩
noncomputable def zt (c:String)(d:Data):Obj:=⟨.type c,none,d,#[]⟩
noncomputable def zf (n q:Str)(s:Stmt)(m:Str)(t:Tok)(c:Addr):Obj:=⟨.type "function",none,.func (Pn n q (C2 s) (Cf s) (An s) .none .none .none (.str m t) none (.ref c) .none),#[]⟩
noncomputable def zh (n q:Str)(s:Stmt):Obj:=⟨.none,none,.func ⟨n,q,C2 s,.stmts (Cf s),An s,0,[],.none,.none,.none,.none,none,.none,.none,0⟩,#[]⟩
noncomputable def zk (n q:Str)(t:Tok)(l a g:Int)(r:Addr)(b:Bool)(x:Value)(u:Int)(v:Tok):Obj:=⟨.type "code",none,.fields #[.str n t,.str q (t+1),.str "/claim/cut.py" (t+2),.int l 0,.int a 0,.int 0 0,.int 0 0,.int g 0,.ref r,.bool b,.int 181 0,.ref (r+1),.none,.none,.none,x,.int u 0,.int l 0,.str "/claim/cut.py" v],#[]⟩
noncomputable def zw:List (Int×Int×Addr)->List Value
 | []=>[]
 | (a,b,c)::t=>.int a 0::.int b 0::.ref c::zw t
noncomputable def zy (l:List (Int×Int×Addr)):Obj:=⟨.none,none,.fields ⟨zw l⟩,#[]⟩
noncomputable def zc (n q:Str)(t:Tok)(l a g:Int)(r:Addr)(u:Int)(v:Tok):Obj:=⟨.type "code",none,.fields #[.str n t,.str q (t+1),.str "/claim/cut.py" (t+2),.int l 0,.int a 0,.int 0 0,.int 0 0,.int g 0,.ref r,.bool true,.int 181 0,.ref (r+1),.none,.ref (r+2),.ref (r+3),.ref (r+4),.int u 0,.int l 0,.str "/claim/cut.py" v],#[]⟩
noncomputable def zb (n:Str):=zc n n
noncomputable def zi (n:Str):=zf n n
noncomputable def zj (n:Str):=zh n n
noncomputable section
def d0 (P:Params):=[ze P "__name__" 165 (.str "gapscribe.errors" 194),ze P "__doc__" 166 .none,ze P "__package__" 167 .none,ze P "__loader__" 168 (.builtin "__main__.__loader__#opaque"),ze P "__spec__" 169 .none,ze P "__annotations__" 170 (.ref 6),ze P "__builtins__" 171 (.ref 4),ze P "__file__" 173 (.str "/claim/cut.py" 172),ze P "__cached__" 174 .none,ze P "_wall" 193 (.ref 21),ze P "GapError" 213 (.ref 31)]
def z0 (P:Params):=zt "dict" (.dict ⟨d0 P⟩ 11)
def z1:=zt "tuple" (.seq #[])
noncomputable def y0:List (Int×Int×Addr):=[(1,0,20),(5,0,27)]
def z2:=zy y0
def z3:=zk "<module>" "<module>" 182 1 0 0 11 false .none 185 186
noncomputable def Gg (x0:Nat)(x1:Nat)(x2:Str)(x3:Nat):Obj:=Obj.mk (.type "frame") none Data.plain #[some (.ref x0),some (.ref 3),some (.ref x1),none,some (.str x2 x3),none,some (.ref 0)]
def z4:=Gg 13 3 "__main__" 164
def h0_0 (P:Params)(t:List Obj):=(boot_o_0 P)::(boot_o_1 P)::(boot_o_2 P)::(z0 P)::(boot_o_4 P)::(boot_o_5 P)::(boot_o_6 P)::(boot_o_7 P)::(boot_o_8 P)::(boot_o_9 P)::(boot_o_10 P)::z1::z2::z3::z4::z1::t
noncomputable def z5:=Obj.mk .none none (.fields #[]) #[]
def z6:=zu [("k",190)]
def z7:=zj "_wall" w0
def z8:=zb "_wall" 187 1 1 3 15 191 192
def z9:=zi "_wall" w0 "__main__" 164 20
def z10:=zt "tuple" (.seq #[.type "ValueError"])
def z11:=zt "builtin_function_or_method" (.fields #[.builtin "type.__prepare__",.type "type"])
def z12 (P:Params):=zt "dict" (.dict #[ze P "__module__" 203 (.str "gapscribe.errors" 194),ze P "__qualname__" 205 (.str "GapError" 204),ze P "__firstlineno__" 207 (.int 5 206),ze P "__static_attributes__" 208 (.ref 29)] 4)
def z13:=zk "GapError" "GapError" 198 5 0 0 25 false .none 201 202
def z14:=Gg 27 24 "gapscribe.errors" 194
def z15 (P:Params):=zt "dict" (.dict #[ze P "__module__" 203 (.str "gapscribe.errors" 194),ze P "__firstlineno__" 207 (.int 5 206),ze P "__static_attributes__" 208 (.ref 29),ze P "__weakref__" 210 (.ref 32),ze P "__doc__" 211 .none] 3)
noncomputable def z16:=Obj.mk (.type "type") none (.cls (ClassData.mk "GapError" [.type "ValueError"] [.ref 31,.type "ValueError",.type "Exception",.type "BaseException",.type "object"] 30 "GapError" true [] [] false none false)) #[some (.ref 22),none,some (.str "GapError" 196),some (.str "GapError" 204),some (.builtin "ValueError.__new__"),some (.bool true)]
def h1_0 (P:Params)(t:List Obj):=z5::z6::z1::z7::z8::z9::z10::z11::(z12 P)::z1::z5::z13::z14::z1::(z15 P)::z16::t
def z17:=zt "getset_descriptor" (.fields #[.str "__weakref__" 209,.ref 31,.builtin "ExceptionGroup.__weakref__",.none])
def z18:=zt "super" (.fields #[.ref 31,.ref 31,.ref 31])
def zq1 (x0:Nat):Obj:=zt "builtin_function_or_method" (.fields #[.builtin "object.__init_subclass__",.ref x0])
def z19:=zq1 31
def h2_0 (P:Params)(t:List Obj):=z17::z18::z19::t
def Rtree_70:Params->B:=fun P=>tO (h0_0 P (h1_0 P (h2_0 P [])))
def d1 (P:Params):=[ze P "__name__" 165 (.str "gapscribe.forms" 230),ze P "__doc__" 166 .none,ze P "__package__" 167 .none,ze P "__loader__" 168 (.builtin "__main__.__loader__#opaque"),ze P "__spec__" 169 .none,ze P "__annotations__" 170 (.ref 6),ze P "__builtins__" 171 (.ref 4),ze P "__file__" 173 (.str "/claim/cut.py" 172),ze P "__cached__" 174 .none,ze P "_wall" 193 (.ref 21),ze P "GapError" 213 (.ref 31),ze P "NoForm" 229 (.ref 44),ze P "GAP" 233 (.ref 48)]
def z20 (P:Params):=zt "dict" (.dict ⟨d1 P⟩ 13)
def y1:List (Int×Int×Addr):=y0++[(7,0,40)]
def z21:=zy y1
def Fb (P:Params)(x0 x1:Obj)(t:List Obj):List Obj:=(boot_o_0 P)::(boot_o_1 P)::(boot_o_2 P)::x0::(boot_o_4 P)::(boot_o_5 P)::(boot_o_6 P)::(boot_o_7 P)::(boot_o_8 P)::(boot_o_9 P)::(boot_o_10 P)::z1::x1::z3::z4::z1::t
def h3_0 (P:Params)(t:List Obj):=Fb P (z20 P) z21 t
noncomputable def z22:=Obj.mk (.type "type") none (.cls (ClassData.mk "GapError" [.type "ValueError"] [.ref 31,.type "ValueError",.type "Exception",.type "BaseException",.type "object"] 30 "GapError" true [] [.ref 44] false none false)) #[some (.ref 22),none,some (.str "GapError" 196),some (.str "GapError" 204),some (.builtin "ValueError.__new__"),some (.bool true)]
def Ev (P:Params)(t:List Obj):List Obj:=z5::z6::z1::z7::z8::z9::z10::z11::(z12 P)::z1::z5::z13::z14::z1::(z15 P)::z22::t
def z23:=zt "tuple" (.seq #[.ref 31])
def z24 (P:Params):=zt "dict" (.dict #[ze P "__module__" 221 (.str "gapscribe.errors" 194),ze P "__qualname__" 223 (.str "NoForm" 222),ze P "__firstlineno__" 225 (.int 7 224),ze P "__static_attributes__" 226 (.ref 42)] 4)
def z25:=zk "NoForm" "NoForm" 216 7 0 0 38 false .none 219 220
def z26:=Gg 40 37 "gapscribe.errors" 194
def z27 (P:Params):=zt "dict" (.dict #[ze P "__module__" 221 (.str "gapscribe.errors" 194),ze P "__firstlineno__" 225 (.int 7 224),ze P "__static_attributes__" 226 (.ref 42),ze P "__doc__" 227 .none] 2)
noncomputable def z28:=Obj.mk (.type "type") none (.cls (ClassData.mk "NoForm" [.ref 31] [.ref 44,.ref 31,.type "ValueError",.type "Exception",.type "BaseException",.type "object"] 43 "NoForm" true [] [] false none false)) #[some (.ref 35),none,some (.str "NoForm" 214),some (.str "NoForm" 222),some (.builtin "ValueError.__new__"),some (.bool true)]
def z29:=zt "super" (.fields #[.ref 44,.ref 44,.ref 44])
def z30:=zq1 44
def Ef (P:Params)(t:List Obj):List Obj:=z17::z18::z19::z23::z11::(z24 P)::z1::z5::z25::z26::z1::(z27 P)::z28::z29::z30::z1::t
def z31:=zt "tuple" (.seq #[.str "gap" 232,.none,.ref 47])
def h6_0 (P:Params)(t:List Obj):=z31::t
def Rtree_87:Params->B:=fun P=>tO (h3_0 P (Ev P (Ef P (h6_0 P []))))
def d2 (P:Params):=d1 P++[ze P "PARTS_OF_WORDS" 273 (.ref 49),ze P "NAME_SIGNS" 275 (.str "abcdefghijklmnopqrstuvwxyz_" 274),ze P "FIGURES" 277 (.str "0123456789" 276),ze P "WORDS_NO_NAMES" 287 (.ref 50),ze P "WORDS_NOT_ODD" 298 (.ref 51),ze P "is_whole" 305 (.ref 58),ze P "is_name" 311 (.ref 63),ze P "is_figures" 317 (.ref 68),ze P "is_odd_sign" 324 (.ref 75),ze P "is_odd" 330 (.ref 80)]
def z32 (P:Params):=zt "dict" (.dict ⟨d2 P⟩ 23)
def y2:List (Int×Int×Addr):=y1++[(16,0,57),(18,0,62),(22,0,67),(26,0,74),(28,0,79)]
def z33:=zy y2
def h7_0 (P:Params)(t:List Obj):=Fb P (z32 P) z33 t
def d3 (P:Params):=[ze P "gap" 234 (.int 0 235),ze P "odd" 236 (.int 0 237),ze P "num" 238 (.int 0 239),ze P "truth" 240 (.int 0 241),ze P "name" 242 (.int 0 243),ze P "plus" 244 (.int 2 245),ze P "minus" 246 (.int 2 247),ze P "less" 248 (.int 2 249),ze P "call" 250 (.int 2 251),ze P "if" 252 (.int 3 253),ze P "fn" 254 (.int 1 255),ze P "rec" 256 (.int 1 257),ze P "let" 258 (.int 2 259)]
def z34 (P:Params):=zt "dict" (.dict ⟨d3 P⟩ 13)
def z35:=zu [("let",278),("in",279),("if",280),("then",281),("else",282),("fn",283),("rec",284),("yes",285),("no",286)]
def z36:=zu [("let",288),("if",289),("fn",290),("rec",291),("yes",292),("no",293),("?",294),("+",295),("-",296),("<",297)]
def z37:=zu [("thing",302)]
def z38:=zj "is_whole" Hr
def z39:=zb "is_whole" 299 16 1 3 52 303 304
def z40:=zi "is_whole" Hr "gapscribe.forms" 230 57
def z41:=zj "is_name" Il
def z42:=zk "is_name" "is_name" 306 18 1 3 59 true (.ref 61) 309 310
def z43:=zi "is_name" Il "gapscribe.forms" 230 62
def Fl (P:Params)(t:List Obj):List Obj:=z31::(z34 P)::z35::z36::z1::z5::z37::z1::z38::z39::z40::z1::z5::z41::z42::z43::t
def z44:=zj "is_figures" Iu
def z45:=zk "is_figures" "is_figures" 312 22 1 3 64 true (.ref 66) 315 316
def z46:=zi "is_figures" Iu "gapscribe.forms" 230 67
def z47:=zu [("sign",321)]
def z48:=zj "is_odd_sign" Hk
def z49:=zb "is_odd_sign" 318 26 1 3 69 322 323
def z50:=zi "is_odd_sign" Hk "gapscribe.forms" 230 74
def z51:=zj "is_odd" Jm
def z52:=zk "is_odd" "is_odd" 325 28 1 3 76 true (.ref 78) 328 329
def E3 (P:Params)(t:List Obj):List Obj:=z1::z5::z44::z45::z46::z1::z5::z47::z1::z48::z49::z50::z1::z5::z51::z52::t
def z53:=zi "is_odd" Jm "gapscribe.forms" 230 79
def Zpb (P:Params)(t:List Obj):List Obj:=z53::t
def Rtree_121:Params->B:=fun P=>tO (h7_0 P (Ev P (Ef P (Fl P (E3 P (Zpb P []))))))
def d4 (P:Params):=[ze P "__name__" 165 (.str "gapscribe.deeds" 383),ze P "__doc__" 166 .none,ze P "__package__" 167 .none,ze P "__loader__" 168 (.builtin "__main__.__loader__#opaque"),ze P "__spec__" 169 .none,ze P "__annotations__" 170 (.ref 6),ze P "__builtins__" 171 (.ref 4),ze P "__file__" 173 (.str "/claim/cut.py" 172),ze P "__cached__" 174 .none,ze P "_wall" 193 (.ref 21),ze P "GapError" 213 (.ref 31),ze P "NoForm" 229 (.ref 44),ze P "GAP" 233 (.ref 48),ze P "PARTS_OF_WORDS" 273 (.ref 49),ze P "NAME_SIGNS" 275 (.str "abcdefghijklmnopqrstuvwxyz_" 274),ze P "FIGURES" 277 (.str "0123456789" 276),ze P "WORDS_NO_NAMES" 287 (.ref 50),ze P "WORDS_NOT_ODD" 298 (.ref 51),ze P "is_whole" 305 (.ref 58),ze P "is_name" 311 (.ref 63),ze P "is_figures" 317 (.ref 68),ze P "is_odd_sign" 324 (.ref 75),ze P "is_odd" 330 (.ref 80),ze P "is_word" 337 (.ref 87),ze P "is_two_names" 344 (.ref 94),ze P "is_note" 352 (.ref 101),ze P "many_parts" 359 (.ref 108),ze P "bare" 368 (.ref 115),ze P "placed_forms" 382 (.ref 122)]
def z54 (P:Params):=zt "dict" (.dict ⟨d4 P⟩ 29)
def y3:List (Int×Int×Addr):=y2++[(34,0,86),(36,0,93),(38,0,100),(50,0,107),(54,0,114),(60,0,121)]
def z55:=zy y3
def Zgs (P:Params)(t:List Obj):List Obj:=Fb P (z54 P) z55 t
def z56:=zu [("thing",334)]
def z57:=zj "is_word" Ji
def z58:=zb "is_word" 331 34 1 3 81 335 336
def z59:=zi "is_word" Ji "gapscribe.forms" 230 86
def z60:=zu [("thing",341)]
def z61:=zj "is_two_names" Hh
def z62:=zb "is_two_names" 338 36 1 3 88 342 343
def z63:=zi "is_two_names" Hh "gapscribe.forms" 230 93
def Fx (P:Params)(t:List Obj):List Obj:=z53::z1::z5::z56::z1::z57::z58::z59::z1::z5::z60::z1::z61::z62::z63::z1::t
def z64:=zu [("word",348),("note",349)]
def z65:=zj "is_note" Hb
def z66:=zb "is_note" 345 38 2 3 95 350 351
def z67:=zi "is_note" Hb "gapscribe.forms" 230 100
def z68:=zu [("word",356)]
def z69:=zj "many_parts" Jn
def z70:=zb "many_parts" 353 50 1 3 102 357 358
def z71:=zi "many_parts" Jn "gapscribe.forms" 230 107
def z72:=zu [("word",363),("note",364),("many",365)]
def F4 (P:Params)(t:List Obj):List Obj:=z5::z64::z1::z65::z66::z67::z1::z5::z68::z1::z69::z70::z71::z1::z5::z72::t
def z73:=zj "bare" Jh
def z74:=zb "bare" 360 54 2 3 109 366 367
def z75:=zi "bare" Jh "gapscribe.forms" 230 114
def z76:=zu [("tree",374),("told",375),("waiting",376),("pair",377),("number",378),("part",379)]
def z77:=zj "placed_forms" Hc
def z78:=zb "placed_forms" 371 60 1 3 116 380 381
def z79:=zi "placed_forms" Hc "gapscribe.places" 369 121
def Zjo (P:Params)(t:List Obj):List Obj:=z1::z73::z74::z75::z1::z5::z76::z1::z77::z78::z79::t
def Rtree_167:Params->B:=fun P=>tO (Zgs P (Ev P (Ef P (Fl P (E3 P (Fx P (F4 P (Zjo P []))))))))
def d5 (P:Params):=d4 P++[ze P "Deed" 420 (.ref 146)]
def z80 (P:Params):=zt "dict" (.dict ⟨d5 P⟩ 30)
def y4:List (Int×Int×Addr):=y3++[(70,0,128)]
def z81:=zy y4
def Zn5 (P:Params)(t:List Obj):List Obj:=Fb P (z80 P) z81 t
def d6 (P:Params):=[ze P "__module__" 392 (.str "gapscribe.deeds" 383),ze P "__qualname__" 394 (.str "Deed" 393),ze P "__firstlineno__" 396 (.int 70 395),ze P "done" 404 (.ref 136),ze P "back" 412 (.ref 143),ze P "__static_attributes__" 413 (.ref 144)]
def z82 (P:Params):=zt "dict" (.dict ⟨d6 P⟩ 6)
noncomputable def y5:List (Int×Int×Addr):=[(72,4,135),(75,4,142)]
def z83:=zy y5
def G7 (P:Params)(t:List Obj):List Obj:=z1::z73::z74::z75::z1::z5::z76::z1::z77::z78::z79::z1::z11::(z82 P)::z1::z83::t
def z84:=zk "Deed" "Deed" 387 70 0 0 126 false .none 390 391
def z85:=Gg 128 125 "gapscribe.deeds" 383
def z86:=zu [("self",400),("form",401)]
def z87:=zh "done" "Deed.done" (Df 24 0)
def z88:=zc "done" "Deed.done" 397 72 2 3 130 402 403
def z89:=zf "done" "Deed.done" (Df 24 0) "gapscribe.deeds" 383 135
def z90:=zu [("self",408),("form",409)]
def z91:=zh "back" "Deed.back" (Df 24 1)
def z92:=zc "back" "Deed.back" 405 75 2 3 137 410 411
def z93:=zf "back" "Deed.back" (Df 24 1) "gapscribe.deeds" 383 142
def G1 (P:Params)(t:List Obj):List Obj:=z84::z85::z1::z5::z86::z1::z87::z88::z89::z1::z5::z90::z1::z91::z92::z93::t
def d7 (P:Params):=[ze P "__module__" 392 (.str "gapscribe.deeds" 383),ze P "__firstlineno__" 396 (.int 70 395),ze P "done" 404 (.ref 136),ze P "back" 412 (.ref 143),ze P "__static_attributes__" 413 (.ref 144),ze P "__dict__" 415 (.ref 147),ze P "__weakref__" 417 (.ref 148),ze P "__doc__" 418 .none]
def z94 (P:Params):=zt "dict" (.dict ⟨d7 P⟩ 4)
noncomputable def zq2 (x0:List Value):Obj:=Obj.mk (.type "type") none (.cls (ClassData.mk "Deed" [.type "object"] [.ref 146,.type "object"] 145 "Deed" true [] x0 false none false)) #[none,none,some (.str "Deed" 385),some (.str "Deed" 393),some (.builtin "object.__new__"),some (.bool true)]
def z95:=zq2 []
def z96:=zt "getset_descriptor" (.fields #[.str "__dict__" 414,.ref 146,.builtin "function.__dict__",.builtin "function.__dict__#set"])
def z97:=zt "getset_descriptor" (.fields #[.str "__weakref__" 416,.ref 146,.builtin "ExceptionGroup.__weakref__",.none])
def z98:=zt "super" (.fields #[.ref 146,.ref 146,.ref 146])
def z99:=zq1 146
def Zlv (P:Params)(t:List Obj):List Obj:=z1::(z94 P)::z95::z96::z97::z98::z99::t
def Rtree_197:Params->B:=fun P=>tO (Zn5 P (Ev P (Ef P (Fl P (E3 P (Fx P (F4 P (G7 P (G1 P (Zlv P []))))))))))
def d8 (P:Params):=d5 P++[ze P "Put" 462 (.ref 182)]
def z100 (P:Params):=zt "dict" (.dict ⟨d8 P⟩ 31)
def y6:List (Int×Int×Addr):=y4++[(77,0,156)]
def z101:=zy y6
def Zio (P:Params)(t:List Obj):List Obj:=Fb P (z100 P) z101 t
def z102:=zq2 [.ref 182]
def Nq:Obj:=zt "tuple" (.seq #[.ref 146])
def d9 (P:Params):=[ze P "__module__" 428 (.str "gapscribe.deeds" 383),ze P "__qualname__" 430 (.str "Put" 429),ze P "__firstlineno__" 432 (.int 77 431),ze P "__init__" 441 (.ref 165),ze P "done" 449 (.ref 172),ze P "back" 457 (.ref 179),ze P "__static_attributes__" 459 (.ref 180)]
def z104 (P:Params):=zt "dict" (.dict ⟨d9 P⟩ 7)
noncomputable def y7:List (Int×Int×Addr):=[(79,4,164),(84,4,171),(87,4,178)]
def z105:=zy y7
def z106:=zk "Put" "Put" 423 77 0 0 154 false .none 426 427
def z107:=Gg 156 153 "gapscribe.deeds" 383
def L3:Obj:=zt "tuple" (.seq #[.none])
def Zjs (P:Params)(t:List Obj):List Obj:=z1::(z94 P)::z102::z96::z97::z98::z99::Nq::z11::(z104 P)::z1::z105::z106::z107::L3::z1::t
def z109:=zu [("self",436),("word",437),("note",438)]
def z110:=zh "__init__" "Put.__init__" C6
def z111:=zc "__init__" "Put.__init__" 433 79 3 3 159 439 440
noncomputable def z112:=Obj.mk (Value.type "function") none (.func ⟨"__init__", "Put.__init__",C2 C6,.stmts (Cf C6),An C6,3,[],.ref 158,.none,.none,.str "gapscribe.deeds" 383,none,.ref 164,.none,0⟩) #[]
def z113:=zu [("self",445),("form",446)]
def z114:=zh "done" "Put.done" Zap
def z115:=zc "done" "Put.done" 442 84 2 3 166 447 448
def z116:=zf "done" "Put.done" Zap "gapscribe.deeds" 383 171
def z117:=zu [("self",453),("form",454)]
def Iv (P:Params)(t:List Obj):List Obj:=z5::z109::z1::z110::z111::z112::z1::z5::z113::z1::z114::z115::z116::z1::z5::z117::t
def z118:=zh "back" "Put.back" Zaa
def z119:=zc "back" "Put.back" 450 87 2 3 173 455 456
def z120:=zf "back" "Put.back" Zaa "gapscribe.deeds" 383 178
def z121:=zu [("form",458)]
def d10 (P:Params):=[ze P "__module__" 428 (.str "gapscribe.deeds" 383),ze P "__firstlineno__" 432 (.int 77 431),ze P "__init__" 441 (.ref 165),ze P "done" 449 (.ref 172),ze P "back" 457 (.ref 179),ze P "__static_attributes__" 459 (.ref 180),ze P "__doc__" 460 .none]
def Oc (P:Params):Obj:=zt "dict" (.dict ⟨d10 P⟩ 2)
noncomputable def Zaj:Obj:=Obj.mk (.type "type") none (.cls (ClassData.mk "Put" [.ref 146] [.ref 182,.ref 146,.type "object"] 181 "Put" true [] [] false none false)) #[some (.ref 151),none,some (.str "Put" 421),some (.str "Put" 429),some (.builtin "object.__new__"),some (.bool true)]
def z124:=zt "super" (.fields #[.ref 182,.ref 182,.ref 182])
def z125:=zq1 182
def Zn3 (P:Params)(t:List Obj):List Obj:=z1::z118::z119::z120::z121::(Oc P)::Zaj::z124::z125::t
def Rtree_234:Params->B:=fun P=>tO (Zio P (Ev P (Ef P (Fl P (E3 P (Fx P (F4 P (G7 P (G1 P (Zjs P (Iv P (Zn3 P []))))))))))))
def d11 (P:Params):=[ze P "__name__" 165 (.str "gapscribe.ways" 495),ze P "__doc__" 166 .none,ze P "__package__" 167 .none,ze P "__loader__" 168 (.builtin "__main__.__loader__#opaque"),ze P "__spec__" 169 .none,ze P "__annotations__" 170 (.ref 6),ze P "__builtins__" 171 (.ref 4),ze P "__file__" 173 (.str "/claim/cut.py" 172),ze P "__cached__" 174 .none,ze P "_wall" 193 (.ref 21),ze P "GapError" 213 (.ref 31),ze P "NoForm" 229 (.ref 44),ze P "GAP" 233 (.ref 48),ze P "PARTS_OF_WORDS" 273 (.ref 49),ze P "NAME_SIGNS" 275 (.str "abcdefghijklmnopqrstuvwxyz_" 274),ze P "FIGURES" 277 (.str "0123456789" 276),ze P "WORDS_NO_NAMES" 287 (.ref 50),ze P "WORDS_NOT_ODD" 298 (.ref 51),ze P "is_whole" 305 (.ref 58),ze P "is_name" 311 (.ref 63),ze P "is_figures" 317 (.ref 68),ze P "is_odd_sign" 324 (.ref 75),ze P "is_odd" 330 (.ref 80),ze P "is_word" 337 (.ref 87),ze P "is_two_names" 344 (.ref 94),ze P "is_note" 352 (.ref 101),ze P "many_parts" 359 (.ref 108),ze P "bare" 368 (.ref 115),ze P "placed_forms" 382 (.ref 122),ze P "Deed" 420 (.ref 146),ze P "Put" 462 (.ref 182),ze P "Cut" 494 (.ref 208),ze P "same_top" 504 (.ref 217),ze P "pairs_met" 518 (.ref 224),ze P "forms_to_put" 524 (.ref 229)]
def z126 (P:Params):=zt "dict" (.dict ⟨d11 P⟩ 35)
def y8:List (Int×Int×Addr):=y6++[(89,0,190),(97,0,216),(99,0,223),(109,0,228)]
def z127:=zy y8
def Zja (P:Params)(t:List Obj):List Obj:=Fb P (z126 P) z127 t
def z128:=zq2 [.ref 182,.ref 208]
def zn1 (P:Params)(x0:Obj)(t:List Obj):List Obj:=z1::(z94 P)::x0::z96::z97::z98::z99::Nq::z11::(z104 P)::z1::z105::z106::z107::L3::z1::t
def Jv (P:Params)(t:List Obj):List Obj:=zn1 P z128 t
def d12 (P:Params):=[ze P "__module__" 470 (.str "gapscribe.deeds" 383),ze P "__qualname__" 472 (.str "Cut" 471),ze P "__firstlineno__" 474 (.int 89 473),ze P "done" 482 (.ref 198),ze P "back" 490 (.ref 205),ze P "__static_attributes__" 491 (.ref 206)]
def z129 (P:Params):=zt "dict" (.dict ⟨d12 P⟩ 6)
noncomputable def y9:List (Int×Int×Addr):=[(91,4,197),(94,4,204)]
def z130:=zy y9
def z131:=zk "Cut" "Cut" 465 89 0 0 188 false .none 468 469
def z132:=Gg 190 187 "gapscribe.deeds" 383
def Kv (P:Params)(t:List Obj):List Obj:=z1::z118::z119::z120::z121::(Oc P)::Zaj::z124::z125::Nq::z11::(z129 P)::z1::z130::z131::z132::t
def z133:=zu [("self",478),("form",479)]
def z134:=zh "done" "Cut.done" (Df 26 0)
def z135:=zc "done" "Cut.done" 475 91 2 3 192 480 481
def z136:=zf "done" "Cut.done" (Df 26 0) "gapscribe.deeds" 383 197
def z137:=zu [("self",486),("form",487)]
def z138:=zh "back" "Cut.back" (Df 26 1)
def z139:=zc "back" "Cut.back" 483 94 2 3 199 488 489
def z140:=zf "back" "Cut.back" (Df 26 1) "gapscribe.deeds" 383 204
def d13 (P:Params):=[ze P "__module__" 470 (.str "gapscribe.deeds" 383),ze P "__firstlineno__" 474 (.int 89 473),ze P "done" 482 (.ref 198),ze P "back" 490 (.ref 205),ze P "__static_attributes__" 491 (.ref 206),ze P "__doc__" 492 .none]
def z141 (P:Params):=zt "dict" (.dict ⟨d13 P⟩ 2)
def Kx (P:Params)(t:List Obj):List Obj:=z1::z5::z133::z1::z134::z135::z136::z1::z5::z137::z1::z138::z139::z140::z1::(z141 P)::t
noncomputable def z142:=Obj.mk (.type "type") none (.cls (ClassData.mk "Cut" [.ref 146] [.ref 208,.ref 146,.type "object"] 207 "Cut" true [] [] false none false)) #[some (.ref 185),none,some (.str "Cut" 463),some (.str "Cut" 471),some (.builtin "object.__new__"),some (.bool true)]
def z143:=zt "super" (.fields #[.ref 208,.ref 208,.ref 208])
def z144:=zq1 208
def z145:=zu [("form",500),("other",501)]
def z146:=zj "same_top" Jr
def z147:=zb "same_top" 497 97 2 3 211 502 503
def z148:=zi "same_top" Jr "gapscribe.ways" 495 216
def z149:=zu [("tree",508),("other",509),("told",510),("waiting",511),("place",512),("form",513),("aim",514),("number",515)]
def z150:=zj "pairs_met" Hx
def z151:=zb "pairs_met" 505 99 2 3 218 516 517
def Kw (P:Params)(t:List Obj):List Obj:=z142::z143::z144::z1::z5::z145::z1::z146::z147::z148::z1::z5::z149::z1::z150::z151::t
def L0:Obj:=zi "pairs_met" Hx "gapscribe.ways" 495 223
def z153:=zj "forms_to_put" Ja
def N1:Obj:=zk "forms_to_put" "forms_to_put" 519 109 1 3 225 true (.ref 227) 522 523
def N6:Obj:=zi "forms_to_put" Ja "gapscribe.ways" 495 228
def Zqg (P:Params)(t:List Obj):List Obj:=L0::z1::z5::z153::N1::N6::t
def Rtree_282:Params->B:=fun P=>tO (Zja P (Ev P (Ef P (Fl P (E3 P (Fx P (F4 P (G7 P (G1 P (Jv P (Iv P (Kv P (Kx P (Kw P (Zqg P [])))))))))))))))
def d14 (P:Params):=[ze P "__name__" 165 (.str "law_gapscribe_k28_whole_no_shorter_row" 555),ze P "__doc__" 166 .none,ze P "__package__" 167 .none,ze P "__loader__" 168 (.builtin "__main__.__loader__#opaque"),ze P "__spec__" 169 .none,ze P "__annotations__" 170 (.ref 6),ze P "__builtins__" 171 (.ref 4),ze P "__file__" 173 (.str "/claim/cut.py" 172),ze P "__cached__" 174 .none,ze P "_wall" 193 (.ref 21),ze P "GapError" 213 (.ref 31),ze P "NoForm" 229 (.ref 44),ze P "GAP" 233 (.ref 48),ze P "PARTS_OF_WORDS" 273 (.ref 49),ze P "NAME_SIGNS" 275 (.str "abcdefghijklmnopqrstuvwxyz_" 274),ze P "FIGURES" 277 (.str "0123456789" 276),ze P "WORDS_NO_NAMES" 287 (.ref 50),ze P "WORDS_NOT_ODD" 298 (.ref 51),ze P "is_whole" 305 (.ref 58),ze P "is_name" 311 (.ref 63),ze P "is_figures" 317 (.ref 68),ze P "is_odd_sign" 324 (.ref 75),ze P "is_odd" 330 (.ref 80),ze P "is_word" 337 (.ref 87),ze P "is_two_names" 344 (.ref 94),ze P "is_note" 352 (.ref 101),ze P "many_parts" 359 (.ref 108),ze P "bare" 368 (.ref 115),ze P "placed_forms" 382 (.ref 122),ze P "Deed" 420 (.ref 146),ze P "Put" 462 (.ref 182),ze P "Cut" 494 (.ref 208),ze P "same_top" 504 (.ref 217),ze P "pairs_met" 518 (.ref 224),ze P "forms_to_put" 524 (.ref 229),ze P "puts_of" 530 (.ref 234),ze P "row_at" 542 (.ref 241),ze P "row_to" 554 (.ref 248),ze P "_law_digit" 566 (.ref 255),ze P "_law_box" 578 (.ref 262),ze P "_law_name" 584 (.ref 267),ze P "_law_one_of" 592 (.ref 274),ze P "_law_all_of" 601 (.ref 281),ze P "_law_odd" 607 (.ref 286),ze P "_law_remark" 616 (.ref 293),ze P "_law_head" 627 (.ref 300),ze P "_law_many" 634 (.ref 307)]
def z156 (P:Params):=zt "dict" (.dict ⟨d14 P⟩ 47)
def y10:List (Int×Int×Addr):=y8++[(111,0,233),(113,0,240),(123,0,247),(129,0,254),(138,0,261),(148,0,266),(154,0,273),(158,0,280),(163,0,285),(176,0,292),(188,0,299),(192,0,306)]
def z157:=zy y10
def Zkh (P:Params)(t:List Obj):List Obj:=Fb P (z156 P) z157 t
def z158:=zj "puts_of" Hu
def z159:=zk "puts_of" "puts_of" 525 111 2 3 230 true (.ref 232) 528 529
def z160:=zi "puts_of" Hu "gapscribe.ways" 495 233
def z161:=zu [("place",534),("form",535),("aim",536),("rows",537),("kept",538),("number",539)]
def z162:=zj "row_at" Im
def Mp (P:Params)(t:List Obj):List Obj:=L0::z1::z5::z153::N1::N6::z1::z5::z158::z159::z160::z1::z5::z161::z1::z162::t
def z163:=zb "row_at" 531 113 4 3 235 540 541
def z164:=zi "row_at" Im "gapscribe.ways" 495 240
def z165:=zu [("tree",546),("other",547),("rows",548),("place",549),("form",550),("aim",551)]
def z166:=zj "row_to" Hl
def z167:=zb "row_to" 543 123 2 3 242 552 553
def z168:=zi "row_to" Hl "gapscribe.ways" 495 247
def z169:=zu [("_law_box_here",560),("_law_many_here",561),("_law_digit_here",562),("_law_mixed",563)]
def z170:=zj "_law_digit" Jq
def z171:=zb "_law_digit" 557 129 2 3 249 564 565
def z172:=zi "_law_digit" Jq "law_gapscribe_k28_whole_no_shorter_row" 555 254
def Mb (P:Params)(t:List Obj):List Obj:=z163::z164::z1::z5::z165::z1::z166::z167::z168::z1::z5::z169::z1::z170::z171::z172::t
def z173:=zu [("_law_script",570),("_law_k",571),("_law_many_here",572),("_law_mixed",573),("_law_j",574),("_law_cell",575)]
def z174:=zj "_law_box" Hj
def z175:=zb "_law_box" 567 138 2 3 256 576 577
def z176:=zi "_law_box" Hj "law_gapscribe_k28_whole_no_shorter_row" 555 261
def z177:=zj "_law_name" Ia
def z178:=zk "_law_name" "_law_name" 579 148 1 3 263 true (.ref 265) 582 583
def z179:=zi "_law_name" Ia "law_gapscribe_k28_whole_no_shorter_row" 555 266
def z180:=zu [("_law_box_here",588),("_law_pool",589)]
def Zac (P:Params)(t:List Obj):List Obj:=z1::z5::z173::z1::z174::z175::z176::z1::z5::z177::z178::z179::z1::z5::z180::z1::t
def z181:=zj "_law_one_of" Ha
def z182:=zb "_law_one_of" 585 154 2 3 268 590 591
def z183:=zi "_law_one_of" Ha "law_gapscribe_k28_whole_no_shorter_row" 555 273
def z184:=zu [("_law_text",596),("_law_signs",597),("_law_sign",598)]
def z185:=zj "_law_all_of" Hd
def z186:=zb "_law_all_of" 593 158 2 3 275 599 600
def z187:=zi "_law_all_of" Hd "law_gapscribe_k28_whole_no_shorter_row" 555 280
def z188:=zj "_law_odd" Hv
def z189:=zk "_law_odd" "_law_odd" 602 163 1 3 282 true (.ref 284) 605 606
def z190:=zi "_law_odd" Hv "law_gapscribe_k28_whole_no_shorter_row" 555 285
def Me (P:Params)(t:List Obj):List Obj:=z181::z182::z183::z1::z5::z184::z1::z185::z186::z187::z1::z5::z188::z189::z190::z1::t
def z191:=zu [("_law_word",611),("_law_box_here",612),("_law_pool",613)]
def z192:=zj "_law_remark" Ib
def z193:=zb "_law_remark" 608 176 3 3 287 614 615
def z194:=zi "_law_remark" Ib "law_gapscribe_k28_whole_no_shorter_row" 555 292
def z195:=zu [("_law_box_here",620),("_law_pool",621),("_law_first",622),("_law_heads",623),("_law_word",624)]
def z196:=zj "_law_head" Hi
def z197:=zb "_law_head" 617 188 3 3 294 625 626
def z198:=zi "_law_head" Hi "law_gapscribe_k28_whole_no_shorter_row" 555 299
def z199:=zu [("_law_word",631)]
def Mo (P:Params)(t:List Obj):List Obj:=z5::z191::z1::z192::z193::z194::z1::z5::z195::z1::z196::z197::z198::z1::z5::z199::t
def z200:=zj "_law_many" Jg
def Ll:Obj:=zb "_law_many" 628 192 1 3 301 632 633
def Zal:Obj:=zi "_law_many" Jg "law_gapscribe_k28_whole_no_shorter_row" 555 306
def Zoh (P:Params)(t:List Obj):List Obj:=z1::z200::Ll::Zal::t
def Rtree_362:Params->B:=fun P=>tO (Zkh P (Ev P (Ef P (Fl P (E3 P (Fx P (F4 P (G7 P (G1 P (Jv P (Iv P (Kv P (Kx P (Kw P (Mp P (Mb P (Zac P (Me P (Mo P (Zoh P []))))))))))))))))))))
def d15 (P:Params):=d14 P++[ze P "_law_bare" 640 (.ref 312),ze P "_law_tree" 655 (.ref 319),ze P "_law_small" 664 (.ref 326),ze P "_law_walk" 676 (.ref 333),ze P "_law_picked" 685 (.ref 340),ze P "_law_form" 695 (.ref 347),ze P "_law_with" 701 (.ref 352),ze P "_law_done_here" 716 (.ref 359),ze P "_law_ends" 722 (.ref 364),ze P "_law_size" 728 (.ref 369),ze P "law" 734 (.ref 374)]
def z203 (P:Params):=zt "dict" (.dict ⟨d15 P⟩ 58)
def y11:List (Int×Int×Addr):=y10++[(198,0,311),(200,0,318),(215,0,325),(220,0,332),(229,0,339),(232,0,346),(237,0,351),(244,0,358),(255,0,363),(265,0,368),(267,0,373)]
def z204:=zy y11
def Zbn (P:Params)(t:List Obj):List Obj:=Fb P (z203 P) z204 t
def z205:=zj "_law_bare" Iz
def z206:=zk "_law_bare" "_law_bare" 635 198 1 3 308 true (.ref 310) 638 639
def z207:=zi "_law_bare" Iz "law_gapscribe_k28_whole_no_shorter_row" 555 311
def z208:=zu [("_law_box_here",644),("_law_pool",645),("_law_most",646),("_law_left",647),("_law_j",648),("_law_form_here",649),("_law_parts",650),("_law_k",651),("_law_tree_here",652)]
def z209:=zj "_law_tree" Ii
def z210:=zb "_law_tree" 641 200 3 3 313 653 654
def z211:=zi "_law_tree" Ii "law_gapscribe_k28_whole_no_shorter_row" 555 318
def Zec (P:Params)(t:List Obj):List Obj:=z1::z200::Ll::Zal::z1::z5::z205::z206::z207::z1::z5::z208::z1::z209::z210::z211::t
def z212:=zu [("_law_box_here",659),("_law_pool",660),("_law_tree_here",661)]
def z213:=zj "_law_small" w46
def z214:=zb "_law_small" 656 215 2 3 320 662 663
def z215:=zi "_law_small" w46 "law_gapscribe_k28_whole_no_shorter_row" 555 325
def z216:=zu [("_law_tree_here",668),("_law_rows",669),("_law_left",670),("_law_place",671),("_law_form_here",672),("_law_k",673)]
def z217:=zj "_law_walk" He
def z218:=zb "_law_walk" 665 220 1 3 327 674 675
def z219:=zi "_law_walk" He "law_gapscribe_k28_whole_no_shorter_row" 555 332
def Zca (P:Params)(t:List Obj):List Obj:=z1::z5::z212::z1::z213::z214::z215::z1::z5::z216::z1::z217::z218::z219::z1::z5::t
def z220:=zu [("_law_box_here",680),("_law_tree_here",681),("_law_rows",682)]
def z221:=zj "_law_picked" Jf
def z222:=zb "_law_picked" 677 229 2 3 334 683 684
def z223:=zi "_law_picked" Jf "law_gapscribe_k28_whole_no_shorter_row" 555 339
def z224:=zu [("_law_tree_here",689),("_law_place",690),("_law_form_here",691),("_law_k",692)]
def z225:=zj "_law_form" Ic
def z226:=zb "_law_form" 686 232 2 3 341 693 694
def z227:=zi "_law_form" Ic "law_gapscribe_k28_whole_no_shorter_row" 555 346
def z228:=zj "_law_with" Hw
def z229:=zk "_law_with" "_law_with" 696 237 3 3 348 true (.ref 350) 699 700
def Zdw (P:Params)(t:List Obj):List Obj:=z220::z1::z221::z222::z223::z1::z5::z224::z1::z225::z226::z227::z1::z5::z228::z229::t
def z230:=zi "_law_with" Hw "law_gapscribe_k28_whole_no_shorter_row" 555 351
def z231:=zu [("_law_tree_here",705),("_law_box_here",706),("_law_pool",707),("_law_many_here",708),("_law_here",709),("_law_j",710),("_law_place",711),("_law_form_here",712),("_law_made",713)]
def z232:=zj "_law_done_here" Hq
def z233:=zb "_law_done_here" 702 244 4 3 353 714 715
def z234:=zi "_law_done_here" Hq "law_gapscribe_k28_whole_no_shorter_row" 555 358
def z235:=zj "_law_ends" Hn
def z236:=zk "_law_ends" "_law_ends" 717 255 2 3 360 true (.ref 362) 720 721
def z237:=zi "_law_ends" Hn "law_gapscribe_k28_whole_no_shorter_row" 555 363
def z238:=zj "_law_size" Hg
def Zbb (P:Params)(t:List Obj):List Obj:=z230::z1::z5::z231::z1::z232::z233::z234::z1::z5::z235::z236::z237::z1::z5::z238::t
def z239:=zk "_law_size" "_law_size" 723 265 1 3 365 true (.ref 367) 726 727
def z240:=zi "_law_size" Hg "law_gapscribe_k28_whole_no_shorter_row" 555 368
def z241:=zj "law" Hm
def z242:=zk "law" "law" 729 267 1 3 370 true (.ref 372) 732 733
def z243:=zi "law" Hm "law_gapscribe_k28_whole_no_shorter_row" 555 373
def Zay (P:Params)(t:List Obj):List Obj:=z239::z240::z1::z5::z241::z242::z243::t
def Rtree_431:Params->B:=fun P=>tO (Zbn P (Ev P (Ef P (Fl P (E3 P (Fx P (F4 P (G7 P (G1 P (Jv P (Iv P (Kv P (Kx P (Kw P (Mp P (Mb P (Zac P (Me P (Mo P (Zec P (Zca P (Zdw P (Zbb P (Zay P []))))))))))))))))))))))))
def Rheap_432:Params->Heap:=fun P=>⟨⟨Zbn P (Ev P (Ef P (Fl P (E3 P (Fx P (F4 P (G7 P (G1 P (Jv P (Iv P (Kv P (Kx P (Kw P (Mp P (Mb P (Zac P (Me P (Mo P (Zec P (Zca P (Zdw P (Zbb P (Zay P [])))))))))))))))))))))))⟩,Life.mk [] [] [] 0 [] [] false #[] [] 0 false false false 0 [2000,10,10] false 0 true [] [] 0 false⟩
end
noncomputable def KK:Params->Og:=fun P=>(nat_lit 2,boot_o_2 P)::(nat_lit 3,z203 P)::(nat_lit 30,z15 P)::(nat_lit 31,z22)::(nat_lit 43,z27 P)::(nat_lit 44,z28)::(nat_lit 47,z1)::(nat_lit 48,z31)::(nat_lit 49,z34 P)::(nat_lit 50,z35)::(nat_lit 51,z36)::(nat_lit 57,z39)::(nat_lit 58,z40)::(nat_lit 62,z42)::(nat_lit 63,z43)::(nat_lit 67,z45)::(nat_lit 68,z46)::(nat_lit 74,z49)::(nat_lit 75,z50)::(nat_lit 79,z52)::(nat_lit 80,z53)::(nat_lit 86,z58)::(nat_lit 87,z59)::(nat_lit 93,z62)::(nat_lit 94,z63)::(nat_lit 100,z66)::(nat_lit 101,z67)::(nat_lit 107,z70)::(nat_lit 108,z71)::(nat_lit 114,z74)::(nat_lit 115,z75)::(nat_lit 121,z78)::(nat_lit 122,z79)::(nat_lit 145,z94 P)::(nat_lit 146,z128)::(nat_lit 158,L3)::(nat_lit 164,z111)::(nat_lit 165,z112)::(nat_lit 181,Oc P)::(nat_lit 182,Zaj)::(nat_lit 207,z141 P)::(nat_lit 208,z142)::(nat_lit 216,z147)::(nat_lit 217,z148)::(nat_lit 223,z151)::(nat_lit 224,L0)::(nat_lit 228,N1)::(nat_lit 229,N6)::(nat_lit 233,z159)::(nat_lit 234,z160)::(nat_lit 240,z163)::(nat_lit 241,z164)::(nat_lit 247,z167)::(nat_lit 248,z168)::(nat_lit 254,z171)::(nat_lit 255,z172)::(nat_lit 261,z175)::(nat_lit 262,z176)::(nat_lit 266,z178)::(nat_lit 267,z179)::(nat_lit 273,z182)::(nat_lit 274,z183)::(nat_lit 280,z186)::(nat_lit 281,z187)::(nat_lit 285,z189)::(nat_lit 286,z190)::(nat_lit 292,z193)::(nat_lit 293,z194)::(nat_lit 299,z197)::(nat_lit 300,z198)::(nat_lit 306,Ll)::(nat_lit 307,Zal)::(nat_lit 311,z206)::(nat_lit 312,z207)::(nat_lit 318,z210)::(nat_lit 319,z211)::(nat_lit 332,z218)::(nat_lit 333,z219)::(nat_lit 339,z222)::(nat_lit 340,z223)::(nat_lit 346,z226)::(nat_lit 347,z227)::(nat_lit 351,z229)::(nat_lit 352,z230)::(nat_lit 358,z233)::(nat_lit 359,z234)::(nat_lit 363,z236)::(nat_lit 364,z237)::(nat_lit 368,z239)::(nat_lit 369,z240)::(nat_lit 373,z242)::(nat_lit 374,z243)::[]
noncomputable def KA:List Addr:=[2,3,30,31,43,44,47,48,49,50,51,57,58,62,63,67,68,74,75,79,80,86,87,93,94,100,101,107,108,114,115,121,122,145,146,158,164,165,181,182,207,208,216,217,223,224,228,229,233,234,240,241,247,248,254,255,261,262,266,267,273,274,280,281,285,286,292,293,299,300,306,307,311,312,318,319,332,333,339,340,346,347,351,352,358,359,363,364,368,369,373,374]
noncomputable def RB (P:Params):List Qc×List Heap:=([Rtree_70 P,Rtree_87 P,Rtree_121 P,Rtree_167 P,Rtree_197 P,Rtree_234 P,Rtree_282 P,Rtree_362 P,Rtree_431 P],[Rheap_432 P])
theorem e_RB:RB=RB:=rfl
name_quick x_RB for K28.RB by K28.e_RB
end K28
namespace PySem.W.Fast
noncomputable def tw1217365622111791965:Qg->Qc:=tw15754252316183741506
theorem te1217365622111791965:K28.Rtree_70=tw1217365622111791965:=te15754252316183741506
noncomputable def tw8508256658977905360:Qg->Qc:=tw3418761040337595135
theorem te8508256658977905360:K28.Rtree_87=tw8508256658977905360:=te3418761040337595135
noncomputable def tw1378329534285470352:Qg->Qc:=tw9256539717016457915
theorem te1378329534285470352:K28.Rtree_121=tw1378329534285470352:=te9256539717016457915
noncomputable def tw12873690964908451379:Qg->Qc:=tw1508348390613311720
theorem te12873690964908451379:K28.Rtree_167=tw12873690964908451379:=te1508348390613311720
noncomputable def tw8958182842650437437:Qg->Qc:=tw18248572930266785057
theorem te8958182842650437437:K28.Rtree_197=tw8958182842650437437:=te18248572930266785057
noncomputable def tw10043696133242593416:Qg->Qc:=tw8273903357659397700
theorem te10043696133242593416:K28.Rtree_234=tw10043696133242593416:=te8273903357659397700
noncomputable def tw11169857679262377488:Qg->Qc:=tw15722038913615382389
theorem te11169857679262377488:K28.Rtree_282=tw11169857679262377488:=te15722038913615382389
noncomputable def tw9491530520142741732:Qg->Qc:=tw11564838407245637732
theorem te9491530520142741732:K28.Rtree_362=tw9491530520142741732:=te11564838407245637732
noncomputable def tw17156373196477453767:Qg->Qc:=tw3712419401103349718
theorem te17156373196477453767:K28.Rtree_431=tw17156373196477453767:=te3712419401103349718
noncomputable def tw5495916090856730514:Qg->PySem.Heap:=tw14687325941092310947
theorem te5495916090856730514:K28.Rheap_432=tw5495916090856730514:=te14687325941092310947
end PySem.W.Fast
local macro_rules | `(tactic| walk_at "gd")=>`(tactic| (refine' ⟨?ka,_,L2.fun_mk ?kl ?kc ?kk⟩; (case ka=>k_is); (case kl=>k_is); (case kc=>k_is); (case kk=>k_is)))
local macro_rules | `(tactic| walk_at "gm")=>`(tactic| (refine' ⟨?ka,?ki,_,L2.fun_mk ?kl ?kc ?kk⟩; (case ka=>k_is); (case ki=>k_is); (case kl=>k_is); (case kc=>k_is); (case kk=>k_is)))
namespace K28
open PySem L2 K10 K19
noncomputable abbrev L1:=Zdt
theorem all1 {α:Type}{P:List α->Prop}(h:∀ a,P [a]):∀ us:List α,us.length=1->P us
 | [a],_=>h a
theorem all2 {α:Type}{P:List α->Prop}(h:∀ a b,P [a,b]):∀ us:List α,us.length=2->P us
 | [a,b],_=>h a b
theorem all3 {α:Type}{P:List α->Prop}(h:∀ a b c,P [a,b,c]):∀ us:List α,us.length=3->P us
 | [a,b,c],_=>h a b c
theorem all4 {α:Type}{P:List α->Prop}(h:∀ a b c d,P [a,b,c,d]):∀ us:List α,us.length=4->P us
 | [a,b,c,d],_=>h a b c d
local macro_rules | `(tactic| walk_at "bi")=>`(tactic| first | exact fun _ _ _ _ _ _=>K28.all1 fun _=>rfl | exact fun _ _ _ _ _ _=>K28.all2 fun _ _=>rfl | exact fun _ _ _ _ _ _=>K28.all3 fun _ _ _=>rfl | exact fun _ _ _ _ _ _=>K28.all4 fun _ _ _ _=>rfl)
theorem Zhd {K:Og}{a e:Addr}{od:Option Addr}{its:Array Value}{n:Nat}{sl:Array (Option Value)}{tk:Tok}(l:K.lookup a=some ⟨.type "tuple",od,.seq its n,sl⟩)(h:its.toList=[.str "gap" tk,.none,.ref e]):∀ H,SqT K H a [.str "gap",.non,.ref e]:=fun H=>by
 have v:Vals [.str "gap",.non,.ref e] its.toList:=by rw [h];exact .cons ⟨tk,rfl⟩ (.cons rfl (.cons rfl .nil))
 refine .inr ⟨_,its,n,l,rfl,rfl,?_,v⟩
 have b:1000<=sizeLine:=by decide
 have e2:its.toList.length=its.size:=Rr
 have e3:its.toList.length=3:=by rw [h];rfl
 omega
theorem calm {P:Program}{w:World}{K:Og}{mg:Str->Option Value}{base:Heap}{k:Nat}{f:Addr}{fd:FuncData}{ps:List Str}{sp:Sp}(F:Ar P w K mg base (CXR P w) k f fd ps sp):Ar P w K mg base As k f fd ps (fun vs H Q _=>sp vs H Q E0):=by
 refine ⟨fun vs H Q E h=>F.len vs H Q E0 h,fun A outer s H args us vs Q E hr he hb hv h=>So (F.run A outer s H args us vs Q E0 hr he hb hv h) fun r s' hq=>?_⟩
 cases r with
 | error e =>
  obtain ⟨_,_,_,_,_,_,_,_,_,_,_,_,_,_,_,x⟩:=hq
  exact x.elim
 | ok fl =>
  cases fl with
  | ret u=>exact hq
  | _=>exact hq.elim
theorem kbP2 {K:Og}{TD:Addr}{o1:Option Addr}{n1:Nat}{s1:Array (Option Value)}{kV doc pm cdv ct:Value}{an:Option Addr}(ho:K.lookup TD=some ⟨.type "tuple",o1,.seq #[.none] n1,s1⟩):Zaf K (Pn "__init__" "Put.__init__" (C2 C6) (Cf C6) (An C6) (.ref TD) kV doc pm an cdv ct) ["self", "word", "note"] [] (fun us _=>us) (fun vs _=>vs) :=
 ⟨fun s us ws X hl=>by
  match us,(show us.length=3 by simpa using hl) with
  | [a,b,c],_=>exact PySem.W.binds_K X rfl ho rfl rfl rfl,fun h _=>h⟩
noncomputable abbrev Gd (K:Og)(n:Str)(st:Stmt)(f:Addr):Prop:=O5 K mainGlobals n=some (some (.ref f))/\∃ fd,Fun K n n st f fd
noncomputable abbrev Bi (n q:Str)(st:Stmt)(ps:List Str):Prop:=∀(kV doc pm:Value)(an:Option Addr)(cdv ct:Value)(us:List Value),us.length=ps.length->bindArgs (Pn n q (C2 st) (Cf st) (An st) .none kV doc pm an cdv ct) ⟨us,[]⟩=pure (ps.zip us)
section
variable {P:Program}{w:World}{K:Og}{mg:Str->Option Value}{base h:Heap}(X:K.In h)(G:h.Ns mainGlobals mg){n q:Str}{st:Stmt}{f C:Addr}{k:Nat}{ps:List Str}{sp:Sp}
include X G
theorem cal (g:Gd K n st f)(ok:∀ fd,Fun K n n st f fd->Ar P w K mg base As k f fd ps sp)(b:Bi n n st ps:=by walk_at "bi"):Ao P w K mg base k n ps sp:=by
 obtain ⟨a,fd,F⟩:=g
 exact Zhr (ok fd F) (PySem.W.mg_of X G a) F.kp (F.binds b)
end
theorem all_mk {l:Vj}{w:World}{K:Og}{h:Heap}{mg:Str->Option Value}{fa f1 f2 f3 f4 f5 f6 f7 f8 f9 f10 f11 f12 f13 f14 f15 f16 f17 f18 f19 f20 f21 f22 f23 f24 f25 f26 f27 f28 f29 f30 f31 f32 f33 f34 f35 f36:Addr}(X:K.In h)(G:h.Ns mainGlobals mg)(hfa:mg "law" = some (.ref fa))
  (a1:Gd K "is_whole" Hr f1) (a2:Gd K "is_name" Il f2) (a3:Gd K "is_figures" Iu f3) (a4:Gd K "is_odd_sign" Hk f4) (a5:Gd K "is_odd" Jm f5) (a6:Gd K "is_word" Ji f6) (a7:Gd K "is_two_names" Hh f7) (a8:Gd K "is_note" Hb f8) (a9:Gd K "many_parts" Jn f9) (a10:Gd K "bare" Jh f10) (a11:Gd K "placed_forms" Hc f11) (a12:Gd K "same_top" Jr f12) (a13:Gd K "pairs_met" Hx f13) (a14:Gd K "forms_to_put" Ja f14) (a15:Gd K "puts_of" Hu f15) (a16:Gd K "row_at" Im f16)
  (a17:Gd K "row_to" Hl f17) (a18:Gd K "_law_digit" Jq f18) (a19:Gd K "_law_box" Hj f19) (a20:Gd K "_law_name" Ia f20) (a21:Gd K "_law_one_of" Ha f21) (a22:Gd K "_law_all_of" Hd f22) (a23:Gd K "_law_odd" Hv f23) (a24:Gd K "_law_remark" Ib f24) (a25:Gd K "_law_head" Hi f25) (a26:Gd K "_law_many" Jg f26) (a27:Gd K "_law_bare" Iz f27) (a28:Gd K "_law_tree" Ii f28) (a29:Gd K "_law_walk" He f29) (a30:Gd K "_law_picked" Jf f30) (a31:Gd K "_law_form" Ic f31)
  (a32:Gd K "_law_with" Hw f32) (a33:Gd K "_law_done_here" Hq f33) (a34:Gd K "_law_ends" Hn f34) (a35:Gd K "_law_size" Hg f35) (a36:Gd K "law" Hm f36) (z1:O5 K mainGlobals "isinstance" = some none) (z2:O5 K mainGlobals "int" = some none) (z3:O5 K mainGlobals "bool" = some none) (z4:O5 K mainGlobals "str" = some none) (z5:O5 K mainGlobals "len" = some none) (z6:O5 K mainGlobals "all" = some none) (z7:O5 K mainGlobals "tuple" = some none) (z8:O5 K mainGlobals "reversed" = some none)
  (z9:O5 K mainGlobals "list" = some none) (z10:O5 K mainGlobals "enumerate" = some none) (z11:O5 K mainGlobals "range" = some none) (z12:O5 K mainGlobals "divmod" = some none) (z13:O5 K mainGlobals "min" = some none) {u1 u2 gt:Tok} (b1:O5 K mainGlobals "NAME_SIGNS" = some (some (.str LET u1))) (b2:O5 K mainGlobals "FIGURES" = some (some (.str DIG u2))) {wa wb pa ga ge:Addr} {wo wp go ho:Option Addr} {wi wj gi hi:Array Value} {wn wm pn gn hn:Nat} {ws wt gs hs:Array (Option Value)} {pi:Array DictEntry}
  (b3:O5 K mainGlobals "WORDS_NO_NAMES" = some (some (.ref wa))) (b4:K.lookup wa=some ⟨.type "tuple",wo,.seq wi wn,ws⟩) (b5:Fq wi.toList=some (W9.map V.str)) (b6:O5 K mainGlobals "WORDS_NOT_ODD" = some (some (.ref wb))) (b7:K.lookup wb=some ⟨.type "tuple",wp,.seq wj wm,wt⟩) (b8:Fq wj.toList=some (W10.map V.str)) (c1:O5 K mainGlobals "PARTS_OF_WORDS" = some (some (.ref pa))) (c2:K.lookup pa=some ⟨.type "dict",none,.dict pi pn,#[]⟩) (c3:(pa == sysModules)=false) (c4:Ents w.params pi.toList Hf) (d1:O5 K mainGlobals "GAP" = some (some (.ref ga)))
  (d2:K.lookup ga=some ⟨.type "tuple",go,.seq gi gn,gs⟩) (d3:gi.toList=[.str "gap" gt,.none,.ref ge]) (d4:K.lookup ge=some ⟨.type "tuple",ho,.seq hi hn,hs⟩) (d5:Fq hi.toList=some []) (e1:U5 K (.builtin "object.__class__") "__get__" = some (some (.builtin "getset_descriptor.__get__"))) (e2:Vh K (.builtin "object.__class__")=some true) {AP AC gQ TP:Addr} {cT cU cV cW cX cY:Value} {oT ou an:Option Addr} {sT su:Array (Option Value)} {nT:Nat} (yC1:O5 K mainGlobals "Cut" = some (some (.ref AC))) (yC6:Rx K AC=true)
  (yC7:P3 K (.ref AC)=true) (yP1:O5 K mainGlobals "Put" = some (some (.ref AP))) (yP2:Vc K AP Str.empty=true) (yP3:U4 K AP=true) (yP4:U3 K AP=true) (yP5:Ph K (.ref AP) "__setattr__" = some (some (.builtin "object.__setattr__"))) (yP6:Rx K AP=true) (yP7:P3 K (.ref AP)=true) (yP8:Ph K (.ref AP) "form" = some none) (yP9:Ph K (.ref AP) "__class__" = some (some (.builtin "object.__class__"))) (yP0:PySem.W.mroIn K AP (.type "object")=some true)
  (i1:Ph K (.ref AP) "__init__" = some (some (.ref gQ))) (i2:PySem.W.isFn K (.ref gQ)=true) (i3:K.lookup gQ=some ⟨cT,ou,.func (Pn "__init__" "Put.__init__" (C2 C6) (Cf C6) (An C6) (.ref TP) cU cV cW an cX cY),su⟩) (i4:Rz K cX "Put.__init__" = true) (i5:P3 K (.ref gQ)=true) (i6:K.lookup TP=some ⟨.type "tuple",oT,.seq #[.none] nT,sT⟩) (q1:Ph K (.ref AC) "__init__" = some (some (.builtin "object.__init__"))) :
  ∃ fd:FuncData,(∀(s:Shared)(v:Value),BindsTo s fd ⟨[v],[]⟩ [("_law_script",v)])/\∀ base:Heap,K.In base->base.Ns mainGlobals mg->Ar l.prog w K mg base As 10 fa fd ["_law_script"] (L1 K):=by
 obtain ⟨aL,fd,FL⟩:=a36
 have e:=hfa.symm.trans (PySem.W.mg_of X G aL)
 cases e
 have FX:=FL
 obtain ⟨_,_,kV,doc,pm,an,cdv,ct,_,ef,_,_⟩:=FL.ex
 refine ⟨fd,fun s v=>by rw [ef];exact .of_eq rfl,fun base _ _=>?_⟩
 have gl:=fun {n v}=>@PySem.W.mg_of K h mg n v X G
 have no:=fun {n}=>@PySem.W.mg_none_of K h mg n X G
 have T:Txt K mg:=⟨no z1,no z2,no z3,no z4,no z5,no z6,no z7,no z8,no z9,no z10,no z11,no z12,no z13⟩
 have G_GAP:Et mg "GAP" (.ref ga):=⟨_,gl d1,rfl⟩
 have gA:=Zhd (K:=K) d2 d3
 have gB:=Mf (K:=K) d4 d5 (by decide)
 have GA:N3 K ga:=⟨fun H=>TrAt.gap (gA H) (gB H)⟩
 have GS:Gs l.prog w K mg:=⟨⟨_,gl b1,⟨_,rfl⟩⟩,⟨_,gl b2,⟨_,rfl⟩⟩,⟨wa,⟨_,gl b3,rfl⟩,Mf b4 b5 (by decide)⟩,⟨wb,⟨_,gl b6,rfl⟩,Mf b7 b8 (by decide)⟩,⟨pa,⟨_,gl c1,rfl⟩,Zj8 c2 c3 c4 (by decide +kernel)⟩,⟨ga,ge,G_GAP,gA,gB⟩⟩
 have clP:Cls K AP:=⟨yP2,yP3,yP4,yP5⟩
 have oP:Own K mg "Put" AP:=⟨clP,gl yP1,yP8,yP9,e1,e2,yP0⟩
 obtain ⟨c,ec⟩:∃ c:Cs,c=⟨AP,AC⟩:=⟨_,rfl⟩
 have ep:c.p=AP:=by rw [ec]
 have eq:c.c=AC:=by rw [ec]
 have MkC:Nh K mg "Cut" c.c:=by rw [eq];exact ⟨yC6,q1,yC7,gl yC1⟩
 have ca:=fun {k n st f ps sp}=>@cal l.prog w K mg base h X G n st f k ps sp
 have C_is_whole:=ca a1 fun _ F=>Zmi F T
 have C_is_name:=ca a2 fun _ F=>Zmb F T GS
 have C_is_figures:=ca a3 fun _ F=>Zpw F T GS
 have C_is_odd_sign:=ca a4 fun _ F=>Zie F T
 have C_is_odd:=ca a5 fun _ F=>Zow F T GS C_is_odd_sign C_is_name C_is_figures
 have C_is_word:=ca a6 fun _ F=>Zha F T GS
 have C_is_two_names:=ca a7 fun _ F=>Zg2 F T C_is_name
 have C_is_note:=ca a8 fun _ F=>Zju F T C_is_whole C_is_name C_is_odd C_is_two_names
 have C_many_parts:=ca a9 fun _ F=>Zml F T GS C_is_word
 have C_bare:=ca a10 fun _ F=>Zn2 F T G_GAP C_many_parts C_is_note
 have MkP:Oe As l.prog w K mg base 5 "Put" c.p ["self", "word", "note"] [] (fun vs _=>vs) (Nu K c ga):=⟨gQ,_,_,calm (Zgh (Zim (st:=C6) i3 i4 i5) T (by rw [ep];exact oP) C_bare),by rw [ep];exact ⟨yP6,i1,i2,yP7⟩,by rw [ep];exact oP.at_,kbP2 i6⟩
 have C_placed_forms:=ca a11 fun _ F=>Zl4 F T
 have C_same_top:=ca a12 fun _ F=>Zk2 F T
 have C_pairs_met:=ca a13 fun _ F=>Zod F T C_same_top
 have C_forms_to_put:=ca a14 fun _ F=>Zhy F T C_placed_forms
 have C_puts_of:=ca a15 fun _ F=>Zl0 F T GA C_forms_to_put MkP
 have C_row_at:=ca a16 fun _ F=>Zoc F T C_puts_of C_same_top C_forms_to_put MkC
 have C_row_to:=ca a17 fun _ F=>Zjk F T C_pairs_met C_row_at
 have C__law_digit:=ca a18 fun _ F=>Zi3 F T
 have C__law_box:=ca a19 fun _ F=>Znq F T
 have C__law_name:=ca a20 fun _ F=>Zou F T C__law_digit
 have C__law_one_of:=ca a21 fun _ F=>Zhp F T C__law_digit C__law_name
 have C__law_all_of:=ca a22 fun _ F=>Zon F T
 have C__law_odd:=ca a23 fun _ F=>Zgx F T C__law_digit C__law_all_of
 have C__law_remark:=ca a24 fun _ F=>Zph F T C__law_digit C__law_odd C__law_one_of
 have C__law_head:=ca a25 fun _ F=>Zk7 F T C__law_digit C__law_remark
 have C__law_many:=ca a26 fun _ F=>Zmn F T
 have C__law_bare:=ca a27 fun _ F=>Zgl F T C__law_many
 have C__law_tree:=ca a28 fun _ F=>Zlo F T C__law_digit C__law_head C__law_bare
 have C__law_walk:=ca a29 fun _ F=>Znl F T
 have C__law_picked:=ca a30 fun _ F=>Zg0 F T C__law_digit C__law_walk
 have C__law_form:=ca a31 fun _ F=>Zno F T
 have C__law_with:=ca a32 fun _ F=>Zk6 F T C__law_form
 have C__law_done_here:=ca a33 fun _ F=>Zp0 F T C__law_picked C__law_digit C__law_head C__law_bare C__law_with
 have C__law_ends:=ca a34 fun _ F=>Zqb F T C__law_digit C__law_tree C__law_picked C__law_with
 have C__law_size:=ca a35 fun _ F=>Zoz F T C__law_walk
 exact Zi6 FX T C__law_box C__law_name C__law_ends C__law_digit C__law_done_here C_row_to C__law_size
theorem walk {l:Vj}{q:Program}{loose:List Str}{XP:(Str->Option Value)->Heap->Prop}{YP:World->Heap->Prop}{d:DefRec}{K:Params->Og}(hn:l.most=some 63)(hdf:d.params.defaults=[])
  (hY:∀(w:World)(h:Heap),YP w h->(K w.params).In h)
  (F:∀(w:World)(mg:Str->Option Value)(fa:Addr)(h:Heap),(K w.params).In h->h.Ns mainGlobals mg->mg d.name=some (.ref fa) ->
   ∃ fd:FuncData,(∀(s:Shared)(u:Value),BindsTo s fd ⟨[u],[]⟩ [("_law_script",u)])/\∀ base:Heap,(K w.params).In base->base.Ns mainGlobals mg->Ar l.prog w (K w.params) mg base As 10 fa fd ["_law_script"] (L1 (K w.params))) :
  PySem.W.WalkO q loose XP YP l.row.toRowW d [] (fun f vs=>PySem.call f vs) :=
 L2.walk_of (n:=63) (k:=10) (x := "_law_script") (CX:=fun _=>As) (sp:=fun w=>L1 (K w.params)) hn (by decide) hdf ⟨rfl,by decide,by decide⟩ hY F (fun _ _ a ns hl _ hS=>⟨a,ns,rfl,hS,hl,fun _=>rfl⟩) fun _ _ _ _ _ z=>z
end K28
open PySem PySem.W PyProof.Rows
set_option maxRecDepth 100000 in
set_option maxHeartbeats 0 in
theorem PySem.Challenge.cw_gapscribe_k28_whole_no_shorter_row_holds : PySem.Challenge.rw_gapscribe_k28_whole_no_shorter_row.Holds := by
 w_on; o_law; o_head (PySem.W.kHook K28.KK K28.KA (fun _=>by kernel_rfl)); (case hw=>w_witness2)
 k_fill
 refine K28.walk (l:=PySem.Challenge.rw_gapscribe_k28_whole_no_shorter_row) rfl rfl (fun w h Y=>PySem.W.kIn_of Y) ?F
 case F =>
  intro w mg fa h KX G hmg
  refine' K28.all_mk KX G hmg ?a1 ?a2 ?a3 ?a4 ?a5 ?a6 ?a7 ?a8 ?a9 ?a10 ?a11 ?a12 ?a13 ?a14 ?a15 ?a16 ?a17 ?a18 ?a19 ?a20 ?a21 ?a22 ?a23 ?a24 ?a25 ?a26 ?a27 ?a28 ?a29 ?a30 ?a31 ?a32 ?a33 ?a34 ?a35 ?a36 ?z1 ?z2 ?z3 ?z4 ?z5 ?z6 ?z7 ?z8 ?z9 ?z10 ?z11 ?z12 ?z13 ?b1 ?b2 ?b3 ?b4 ?b5 ?b6 ?b7 ?b8 ?c1 ?c2 ?c3 ?c4 ?d1 ?d2 ?d3 ?d4 ?d5 ?e1 ?e2 ?yC1 ?yC6 ?yC7 ?yP1 ?yP2 ?yP3 ?yP4 ?yP5 ?yP6 ?yP7 ?yP8 ?yP9 ?yP0 ?i1 ?i2 ?i3 ?i4 ?i5 ?i6 ?q1
  (case a1=>walk_at "gd")
  (case a2=>walk_at "gd")
  (case a3=>walk_at "gd")
  (case a4=>walk_at "gd")
  (case a5=>walk_at "gd")
  (case a6=>walk_at "gd")
  (case a7=>walk_at "gd")
  (case a8=>walk_at "gd")
  (case a9=>walk_at "gd")
  (case a10=>walk_at "gd")
  (case a11=>walk_at "gd")
  (case a12=>walk_at "gd")
  (case a13=>walk_at "gd")
  (case a14=>walk_at "gd")
  (case a15=>walk_at "gd")
  (case a16=>walk_at "gd")
  (case a17=>walk_at "gd")
  (case a18=>walk_at "gd")
  (case a19=>walk_at "gd")
  (case a20=>walk_at "gd")
  (case a21=>walk_at "gd")
  (case a22=>walk_at "gd")
  (case a23=>walk_at "gd")
  (case a24=>walk_at "gd")
  (case a25=>walk_at "gd")
  (case a26=>walk_at "gd")
  (case a27=>walk_at "gd")
  (case a28=>walk_at "gd")
  (case a29=>walk_at "gd")
  (case a30=>walk_at "gd")
  (case a31=>walk_at "gd")
  (case a32=>walk_at "gd")
  (case a33=>walk_at "gd")
  (case a34=>walk_at "gd")
  (case a35=>walk_at "gd")
  (case a36=>walk_at "gd")
  (case z1=>k_is)
  (case z2=>k_is)
  (case z3=>k_is)
  (case z4=>k_is)
  (case z5=>k_is)
  (case z6=>k_is)
  (case z7=>k_is)
  (case z8=>k_is)
  (case z9=>k_is)
  (case z10=>k_is)
  (case z11=>k_is)
  (case z12=>k_is)
  (case z13=>k_is)
  (case b1=>k_is)
  (case b2=>k_is)
  (case b3=>k_is)
  (case b4=>k_is)
  (case b5=>rfl)
  (case b6=>k_is)
  (case b7=>k_is)
  (case b8=>rfl)
  (case c1=>k_is)
  (case c2=>k_is)
  (case c3=>rfl)
  (case c4=>(repeat (first | exact .nil | refine .cons ⟨_,rfl⟩ ?_)))
  (case d1=>k_is)
  (case d2=>k_is)
  (case d3=>rfl)
  (case d4=>k_is)
  (case d5=>rfl)
  (case e1=>k_is)
  (case e2=>k_is)
  (case yC1=>k_is)
  (case yC6=>k_is)
  (case yC7=>k_is)
  (case yP1=>k_is)
  (case yP2=>k_is)
  (case yP3=>k_is)
  (case yP4=>k_is)
  (case yP5=>k_is)
  (case yP6=>k_is)
  (case yP7=>k_is)
  (case yP8=>k_is)
  (case yP9=>k_is)
  (case yP0=>k_is)
  (case i1=>k_is)
  (case i2=>k_is)
  (case i3=>k_is)
  (case i4=>k_is)
  (case i5=>k_is)
  (case i6=>k_is)
  (case q1=>k_is)
#print axioms PySem.Challenge.cw_gapscribe_k28_whole_no_shorter_row_holds
