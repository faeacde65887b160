import PyProof.Rows.All
import Wide.All
import OpenK.AllK
import Wide.FinOn
import Lean
import PyProof.EqAt
import PyProof.EqKinds
import PyProof.TupleCall
import PyProof.StrBlock2
import KE.KDictOf
import PyProof.AttrMissHeap
import KE.KRevSl
import KE.KDictSum
import PyProof.Rows.SortStr
import KE.KRevIter
import PyProof.RangeIter
import KE.RegMulBits
import KE.IntBitsLaws
import PySem.Challenge.RW_gapscribe_k59_whole_filled_in_two_steps
set_option compiler.extract_closed false
set_option bootstrap.genMatcherCode false
set_option genSizeOfSpec false
set_option Elab.async false
set_option linter.all false
set_option maxRecDepth 100000
open Array renaming getElem?_eq_some_iff->Uz,length_toList->Vc
open Bool renaming false_ne_true->Pt,and_eq_true->Rw,false_eq_true->Uf,eq_iff_iff->Ui
open False renaming elim->Qo
open Int renaming emod_lt_of_pos->Qh,emod_nonneg->Qc,toNat_natCast->Qx,le_refl->Qy,add_zero->Q8,zero_add->Sw,add_assoc->Tp,toNat_of_nonneg->Wl
open List renaming getElem?_eq_getElem->Pj,getElem?_eq_some_iff->Ps,length_append->Pn,size_toArray->Pm,length_map->Pp,length_singleton->Py,mem_cons->Pr,getElem?_append_left->Qj,mem_singleton->P7,not_mem_nil->Pz,getElem?_append_right->Qr,length_cons->Qa,append_assoc->Qf,mem_of_getElem?->Qs,getElem?_map->Ql,map_append->Qi,length_take->Qp,eq_nil_of_length_eq_zero->R5,append_cancel_left->Rh,range->P6,mem_append_right->Ri,getElem?_set_self->Rr,take_of_length_le->Rs,replicate->Qu,map_cons->Qq,append_nil->Q0,drop_eq_getElem_cons->Sj,mem_cons_of_mem->Rt,mem_append->Q4,drop_of_length_le->Sk,find?_cons->Rb,cons_append->Ry,take_add_one->Sa,lookup_cons->Sb,all_eq_true->Sd,all_cons->Rn,getElem?_cons_succ->Tw,nil_append->Sf,reverse_append->Tc,getD_eq_getElem?_getD->U0,length_drop->Sn,append_inj'->So,mem_map->Ro,length_filter_le->T2,getElem?_set_ne->T8,mem_filter->Sq,replicate_succ->Ua,map_congr_left->Ub,reverse_singleton->U9,mem_cons_self->Uc,lookup->R3,length_set->Te,length_nil->Th,take_length->Uh,filterMap_cons->Vb,forIn_cons->Uj,length->Sx,flatten_cons->Vh,singleton_append->Wh,getElem_mem->Vl,filter_cons->Vn,getElem?_of_mem->Wj,any_cons->Up,dropLast_concat_getLast->Xa,nodup_cons->Vo,of_mem_zip->Vp,map_nil->Ur,map_map->Uu,map_singleton->Wn,map->R4,mem_range->Vu,forIn_nil->Vw,reverse_cons->Wu,mem_reverse->Wx
open List.cons renaming injEq->Vt
open Nat renaming le_refl->Pl,lt_of_lt_of_le->P9,ne_of_lt->P0,le_trans->Qb,zero_le->Qn,lt_irrefl->Q5,ne_of_gt->Q1,sub_self->Q7,zero_add->Sv,lt_succ_self->Vj,le_add_right->Vm,min_eq_left->Vs,le_of_lt->Uq,succ_pos->Us,sub_zero->Ut,not_lt_zero->W4,le_succ->V6
open Ne renaming symm->Pw
open Option renaming map_eq_some_iff->Q3,isSome_iff_exists->R6,bind_some->Rz,map_some->Ul,toList_some->Vf,bind_eq_some_iff->Wf
open Option.some renaming inj->Qg
open PyProof.Rows renaming callWith_type1->Sh,slot_tuple_getitem->Ta
open PySem renaming wpAny_bind->Pi,wpAny_pure->Pk,wpAny_field->Px,wpAny_callSpecial?_slot->Rg,wpAny_setField_rec->Rj,wpAny_call_entry->Rk,wpAny_truthy_bool->Ru,wpAny_seqItems->Rc,wpAny_holding->Q6,mem_of_lookup->Sl,wpAny_newObj_type->R9,Params->Re,builtinLookup_eq_fast->Tx,wpAny_passesOwn->Sr,wpAny_getItem_str_slice->U6,wpAny_Call_Name_kw->Ud,wpAny_pyIter_tuple->Ue,wpAny_execs_nil->Td,codeAny_builtin->Tg,wpAny_mono->Rp,plainId_quiet->Su,Stmt->Rq,wpAny_attempt->Tk,typeLookup_type->Uk,wpAny_pyIter_list->Vi,wpAny_setField->Um,codeAny_mono->Tq,wpAny_typeOf->Ts,noFill_tuple_add->Vk,wpAny_updateSeq_pair->Wi,call_meets->Sy,post_val_or_str->Vq,wpAny_updateSeq->Vr,slot_list_getitem->Ws,wpAny_rule->Tu,seq_tuple_add->Vy,wpAny_onRaise->Vz,wpAny_execs_cons->Wv,wpAny_isInstance->Ww,Within->V1,concat_meets->V3,wpAny_specialOf->W2,sizeLine_eq->V5,wpAny_letGo->V7
open PySem.Around renaming under_plainId->Tb
open PySem.AutoSeq1 renaming wpAny_loadPart'->Ux
open PySem.Builtin.List renaming listTooLong->U4,listLengthHint->V8,listExtendWith->V9
open PySem.Builtin.Slice renaming slicePlaces->U1,sliceAdjust->Wb
open PySem.Builtin.SmallTypes renaming ownedTupleIsFree->Rf,nextOf->Q2,ownedTupleHandOut->W5
open PySem.Builtin.Tuple renaming tupleExact->U3
open PySem.Calls renaming spliced_cons->Wm,spliced_nil->Wr
open PySem.Challenge renaming pw_gapscribe_k59_whole_filled_in_two_steps->Sz
open PySem.F renaming plainAttrs_list->Pu,slot_list_append->Qd,type_list_append->Qe,slot_zip_next->R8,slot_tuple_iterator_next->Uw,plain_extend_loop->Tv,slot_enumerate_next->Uy,slot_list_pop->Tz,type_list_pop->T1,args_tuple_add_2->U2,entry_tuple_add->U5,args_zip_next_1->U7,slot_tuple_add->U8,entry_zip_next->Va,excBase_ValueError->Wa,slot_list_getattribute->Wc,slot_list_extend->Wd,type_list_extend->We,args_tuple_iterator_next_1->W6,entry_tuple_iterator_next->W7,args_enumerate_next_1->W8,entry_enumerate_next->W9
open PySem.Heap renaming get?_push_of_some->Po,get?_push_size->P3,lt_size->Pq,SameBut->P4,get?_update_other->Ra,size_push->Qt,get?_update_self->R7,get?_none_of_le->T3,ExtBut->Tt,dictOf_iff->W3
open PySem.Obj renaming mapSeq->Qw,data_mapFields->Ve,mapFields->Tl,isFreed_of_fields->Wg
open PySem.Paired renaming length->Vx
open PySem.PassesOwn renaming never->Qk
open PySem.SeqAt renaming EqAt->P5
open PySem.SeqAt.EqAt renaming same->W0
open PySem.Str renaming ofString->Qv
open PySem.Txt renaming slice_le->V4,slice->Uv
open PySem.W renaming Frag->Ph,nsIn->P8,findIn->Qm,kia_one->Qz,emptyDict->Rv,keepIn->Rl,kitOne->Rm,instObj->Se,BT->Q9,fnOf->Sg,subIn->Ss,tailIn->Ti,nsOkIn->Tj,plainGet->Ug,callWith_K->Vd,clsIn->To,hasDictIn->Vg,Looks->Uo,plainGet_of->Wk,lookIn->Vv,methodObj->Wo,plainOver->Wp,kitx_list->Wq,mg_of->V0,isFn->V2,takerIn->Wy,makesIn->Wz,OpenLaw->W1
inductive eX2 {T0 T1:Type}(p:T0->T1->Prop):Prop
 |mk (x0:T0)(x1:T1)(h:p x0 x1)
inductive eX3 {T0 T1 T2:Type}(p:T0->T1->T2->Prop):Prop
 |mk (x0:T0)(x1:T1)(x2:T2)(h:p x0 x1 x2)
inductive eX4 {T0 T1 T2 T3:Type}(p:T0->T1->T2->T3->Prop):Prop
 |mk (x0:T0)(x1:T1)(x2:T2)(x3:T3)(h:p x0 x1 x2 x3)
inductive eX5 {T0 T1 T2 T3 T4:Type}(p:T0->T1->T2->T3->T4->Prop):Prop
 |mk (x0:T0)(x1:T1)(x2:T2)(x3:T3)(x4:T4)(h:p x0 x1 x2 x3 x4)
inductive eX6 {T0 T1 T2 T3 T4 T5:Type}(p:T0->T1->T2->T3->T4->T5->Prop):Prop
 |mk (x0:T0)(x1:T1)(x2:T2)(x3:T3)(x4:T4)(x5:T5)(h:p x0 x1 x2 x3 x4 x5)
inductive eX7 {T0 T1 T2 T3 T4 T5 T6:Type}(p:T0->T1->T2->T3->T4->T5->T6->Prop):Prop
 |mk (x0:T0)(x1:T1)(x2:T2)(x3:T3)(x4:T4)(x5:T5)(x6:T6)(h:p x0 x1 x2 x3 x4 x5 x6)
inductive eX8 {T0 T1 T2 T3 T4 T5 T6 T7:Type}(p:T0->T1->T2->T3->T4->T5->T6->T7->Prop):Prop
 |mk (x0:T0)(x1:T1)(x2:T2)(x3:T3)(x4:T4)(x5:T5)(x6:T6)(x7:T7)(h:p x0 x1 x2 x3 x4 x5 x6 x7)
inductive eX9 {T0 T1 T2 T3 T4 T5 T6 T7 T8:Type}(p:T0->T1->T2->T3->T4->T5->T6->T7->T8->Prop):Prop
 |mk (x0:T0)(x1:T1)(x2:T2)(x3:T3)(x4:T4)(x5:T5)(x6:T6)(x7:T7)(x8:T8)(h:p x0 x1 x2 x3 x4 x5 x6 x7 x8)
inductive eX11 {T0 T1 T2 T3 T4 T5 T6 T7 T8 T9 T10:Type}(p:T0->T1->T2->T3->T4->T5->T6->T7->T8->T9->T10->Prop):Prop
 |mk (x0:T0)(x1:T1)(x2:T2)(x3:T3)(x4:T4)(x5:T5)(x6:T6)(x7:T7)(x8:T8)(x9:T9)(x10:T10)(h:p x0 x1 x2 x3 x4 x5 x6 x7 x8 x9 x10)
inductive eX12 {T0 T1 T2 T3 T4 T5 T6 T7 T8 T9 T10 T11:Type}(p:T0->T1->T2->T3->T4->T5->T6->T7->T8->T9->T10->T11->Prop):Prop
 |mk (x0:T0)(x1:T1)(x2:T2)(x3:T3)(x4:T4)(x5:T5)(x6:T6)(x7:T7)(x8:T8)(x9:T9)(x10:T10)(x11:T11)(h:p x0 x1 x2 x3 x4 x5 x6 x7 x8 x9 x10 x11)
inductive eX13 {T0 T1 T2 T3 T4 T5 T6 T7 T8 T9 T10 T11 T12:Type}(p:T0->T1->T2->T3->T4->T5->T6->T7->T8->T9->T10->T11->T12->Prop):Prop
 |mk (x0:T0)(x1:T1)(x2:T2)(x3:T3)(x4:T4)(x5:T5)(x6:T6)(x7:T7)(x8:T8)(x9:T9)(x10:T10)(x11:T11)(x12:T12)(h:p x0 x1 x2 x3 x4 x5 x6 x7 x8 x9 x10 x11 x12)
inductive eX14 {T0 T1 T2 T3 T4 T5 T6 T7 T8 T9 T10 T11 T12 T13:Type}(p:T0->T1->T2->T3->T4->T5->T6->T7->T8->T9->T10->T11->T12->T13->Prop):Prop
 |mk (x0:T0)(x1:T1)(x2:T2)(x3:T3)(x4:T4)(x5:T5)(x6:T6)(x7:T7)(x8:T8)(x9:T9)(x10:T10)(x11:T11)(x12:T12)(x13:T13)(h:p x0 x1 x2 x3 x4 x5 x6 x7 x8 x9 x10 x11 x12 x13)
inductive eX15 {T0 T1 T2 T3 T4 T5 T6 T7 T8 T9 T10 T11 T12 T13 T14:Type}(p:T0->T1->T2->T3->T4->T5->T6->T7->T8->T9->T10->T11->T12->T13->T14->Prop):Prop
 |mk (x0:T0)(x1:T1)(x2:T2)(x3:T3)(x4:T4)(x5:T5)(x6:T6)(x7:T7)(x8:T8)(x9:T9)(x10:T10)(x11:T11)(x12:T12)(x13:T13)(x14:T14)(h:p x0 x1 x2 x3 x4 x5 x6 x7 x8 x9 x10 x11 x12 x13 x14)
inductive eX16 {T0 T1 T2 T3 T4 T5 T6 T7 T8 T9 T10 T11 T12 T13 T14 T15:Type}(p:T0->T1->T2->T3->T4->T5->T6->T7->T8->T9->T10->T11->T12->T13->T14->T15->Prop):Prop
 |mk (x0:T0)(x1:T1)(x2:T2)(x3:T3)(x4:T4)(x5:T5)(x6:T6)(x7:T7)(x8:T8)(x9:T9)(x10:T10)(x11:T11)(x12:T12)(x13:T13)(x14:T14)(x15:T15)(h:p x0 x1 x2 x3 x4 x5 x6 x7 x8 x9 x10 x11 x12 x13 x14 x15)
inductive eX17 {T0 T1 T2 T3 T4 T5 T6 T7 T8 T9 T10 T11 T12 T13 T14 T15 T16:Type}(p:T0->T1->T2->T3->T4->T5->T6->T7->T8->T9->T10->T11->T12->T13->T14->T15->T16->Prop):Prop
 |mk (x0:T0)(x1:T1)(x2:T2)(x3:T3)(x4:T4)(x5:T5)(x6:T6)(x7:T7)(x8:T8)(x9:T9)(x10:T10)(x11:T11)(x12:T12)(x13:T13)(x14:T14)(x15:T15)(x16:T16)(h:p x0 x1 x2 x3 x4 x5 x6 x7 x8 x9 x10 x11 x12 x13 x14 x15 x16)
local macro_rules | `(tactic| right)=>`(tactic| decide +kernel)
namespace L2
open PySem PySem.Spec PyProof.Rows
theorem zBzQ {p:Prop}(h:p:=by first|exact .inl rfl|exact .inr rfl|assumption):p:=h
def zQ:=zBzQ._auto_1
theorem zBzW {p:Prop}(h:p:=by decide):p:=h
def zW:=zBzW._auto_1
theorem zBzE {p:Prop}(h:p:=by intro _;rfl):p:=h
def zE:=zBzE._auto_1
theorem zBzX {p:Prop}(h:p:=by rfl):p:=h
def zX:=zBzX._auto_1
theorem zBzY {p:Prop}(h:p:=by first|exact Or.inl rfl|exact Or.inr (Or.inl rfl)|exact Or.inr (Or.inr rfl)):p:=h
def zY:=zBzY._auto_1
theorem zBzJ {p:Prop}(h:p:=by exact Or.inl rfl):p:=h
def zJ:=zBzJ._auto_1
noncomputable abbrev Aw:=Sum Int Str
noncomputable def Kz:Aw->Value->Bool
 |.inl k,v=>Value.isInt k v
 |.inr x,v=>Value.isStrOf x v
noncomputable def keyH (w:World):Aw->Int
 |.inl k=>hashInt k
 |.inr x=>hashStr w x
theorem G7:∀{k:Aw}{v:Value},Kz k v=true->(eX2 λi t=>k=Sum.inl i/\v=Value.int i t)\/(eX2 λx t=>k=Sum.inr x/\v=Value.str x t)
 |.inl i,v,h=>by
  obtain⟨t,e⟩:=Value.isInt_shape (k:=i) (v:=v) h;exact .inl ⟨i,t,rfl,e⟩
 |.inr x,v,h=>by
  obtain⟨t,e⟩:=Value.isStrOf_shape (x:=x) (v:=v) h;exact .inr ⟨x,t,rfl,e⟩
theorem Zp1 (i:Int)(t:Tok):Kz (.inl i) (.int i t)=true:=by simp[Kz,Value.isInt]
theorem Zoa (x:Str)(t:Tok):Kz (.inr x) (.str x t)=true:=by simp[Kz,Value.isStrOf]
theorem Zta (a b:Int):decide ((Sum.inl a:Aw)=Sum.inl b)=(a == b):=by
 by_cases e:a=b
 ·subst e;simp
 ·have h:¬(Sum.inl a:Aw)=Sum.inl b:=λq=>e (Sum.inl.inj q);rw[decide_eq_false h];exact(beq_eq_false_iff_ne.mpr e).symm
theorem Zo2 (a b:Str):decide ((Sum.inr a:Aw)=Sum.inr b)=decide (a=b):=by
 by_cases e:a=b
 ·subst e;simp
 ·have h:¬(Sum.inr a:Aw)=Sum.inr b:=λq=>e (Sum.inr.inj q);rw[decide_eq_false h,decide_eq_false e]
theorem Zvt (a:Int)(b:Str):decide ((Sum.inl a:Aw)=Sum.inr b)=false:=decide_eq_false (λq=>nomatch q)
theorem Zrh (a:Str)(b:Int):decide ((Sum.inr a:Aw)=Sum.inl b)=false:=decide_eq_false (λq=>nomatch q)
noncomputable def Et (prog:Program)(w:World):PySem.KeyKind prog w Aw where
 is:=Kz
 hash:=keyH w
 inj:=λv a b O hb=>by
  rcases G7 O with⟨i,t,rfl,rfl⟩|⟨x,t,rfl,rfl⟩
  ·rcases G7 hb with⟨j,u,rfl,e⟩|⟨y,u,rfl,e⟩
   ·injection e with e1 _;rw[e1]
   ·exact nomatch e
  ·rcases G7 hb with⟨j,u,rfl,e⟩|⟨y,u,rfl,e⟩
   ·exact nomatch e
   ·injection e with e1 _;rw[e1]
 byValue:=λk v h=>by
  rcases G7 h with⟨i,t,rfl,rfl⟩|⟨x,t,rfl,rfl⟩ <;> rfl
 pyHash:=λI h=>by
  rcases G7 I with⟨i,t,rfl,rfl⟩|⟨x,t,rfl,rfl⟩
  ·exact wpAny_pyHash_int h
  ·exact wpAny_pyHash_str h
 eqBool:=λU I h=>by
  rcases G7 U with⟨i,t,rfl,rfl⟩|⟨x,t,rfl,rfl⟩
  ·rcases G7 I with⟨j,u,rfl,rfl⟩|⟨y,u,rfl,rfl⟩
   ·rw[Zta]at h;exact wpAny_eqBool_int h
   ·rw[Zvt]at h;exact P5.int_str i t y u _ _ _ _ h
  ·rcases G7 I with⟨j,u,rfl,rfl⟩|⟨y,u,rfl,rfl⟩
   ·rw[Zrh]at h;exact P5.str_int x t j u _ _ _ _ h
   ·rw[Zo2]at h;exact wpAny_eqBool_str h
 «strs»:=λk x t v h=>by
  rcases G7 h with⟨i,u,rfl,e⟩|⟨y,u,rfl,e⟩
  ·exact nomatch e
  ·injection e with e1 _;subst e1;cases v <;> rfl
theorem Zuu (prog:Program)(w:World)(i:Int)(t:Tok):(Et prog w).is (.inl i) (.int i t)=true:=Zp1 i t
theorem Zlk (prog:Program)(w:World)(x:Str)(t:Tok):(Et prog w).is (.inr x) (.str x t)=true:=Zoa x t
inductive V where
 |non|bl (b:Bool)|int (i:Int)|str (x:Str)|byt (b:Array UInt8)|flt (b:UInt64)|ref (a:Addr)|ty (n:String)
 deriving DecidableEq
def RelV:V->Value->Prop
 |.non,u=>u=Value.none
 |.bl b,u=>u=Value.bool b
 |.int i,u=>∃t,u=Value.int i t
 |.str x,u=>∃t,u=Value.str x t
 |.byt b,u=>∃t,u=Value.bytes b t
 |.flt b,u=>∃t,u=Value.float b t
 |.ref a,u=>u=Value.ref a
 |.ty n,u=>u=Value.type n
noncomputable abbrev Vals:List V->List Value->Prop:=Paired RelV
theorem Vals.length (r:Vals xs us):xs.length=us.length:=Vx r
theorem Vals.get:∀{xs:List V}{us:List Value}{i:Nat}{x:V},Vals xs us->xs[i]?=some x->∃u,us[i]?=some u/\RelV x u
 |_,_,_,_,.nil,e=>by simp at e
 |_,_,0,_,.cons r _,e=>by simp at e;subst e;exact⟨_,rfl,r⟩
 |_,_,i+1,x,.cons _ t,e=>by
  obtain⟨u,h1,h2⟩:=Vals.get (i:=i) (x:=x) t (by simpa using e);exact⟨u,by simpa using h1,h2⟩
theorem Vals.set (r:RelV x u):∀{xs:List V}{us:List Value}(i:Nat),Vals xs us->Vals (xs.set i x) (us.set i u)
 |_,_,_,.nil=>.nil
 |_,_,0,.cons _ t=>.cons r t
 |_,_,i+1,.cons q t=>.cons q (Vals.set r i t)
theorem Vals.append:∀{xs ys:List V}{us ws:List Value},Vals xs us->Vals ys ws->Vals (xs++ys) (us++ws)
 |_,_,_,_,.nil,s=>s
 |_,_,_,_,.cons r t,s=>.cons r (Vals.append t s)
theorem Vals.take:∀{xs:List V}{us:List Value}(n:Nat),Vals xs us->Vals (xs.take n) (us.take n)
 |_,_,0,_=>.nil
 |_,_,_+1,.nil=>.nil
 |_,_,n+1,.cons r t=>.cons r (Vals.take n t)
theorem Vals.drop:∀{xs:List V}{us:List Value}(n:Nat),Vals xs us->Vals (xs.drop n) (us.drop n)
 |_,_,0,r=>r
 |_,_,_+1,.nil=>.nil
 |_,_,n+1,.cons _ t=>Vals.drop n t
theorem Vals.none_of:∀{xs:List V}{us:List Value}{i:Nat},Vals xs us->xs[i]?=none->us[i]?=none:=λ{xs us i} r e=>by
 have h1:=r.length;have h2:xs.length<=i:=List.getElem?_eq_none_iff.mp e;exact List.getElem?_eq_none_iff.mpr (by lia)
def RelO:Option V->Option Value->Prop
 |some v,some u=>RelV v u
 |none,none=>True
 |_,_=>False
def KV {κ:Type}:List (κ×V)->List (κ×Value)->Prop:=Paired λ(p:κ×V) (q:κ×Value)=>p.1=q.1/\RelV p.2 q.2
noncomputable def kV:Aw->V
 |.inl i=>.int i
 |.inr x=>.str x
inductive HO where
  |lst (xs:List V)
  |tup (xs:List V)
  |dK (kvs:List (Aw×V))|dT (kvs:List (List Aw×V))
  |set (S:Int->Bool) (n:Nat)
  |ins (C dx:Addr) (fs:List (Str×V))
  |own (x:Addr)
  |xd (fs:List (Str×V))
  |met (f x:Addr)
  |rng (lo hi:Int)
  |frz (o:Obj) (u:HO)
  |tbl (ps:Array Value)
  |ext (φ:Heap->Prop)
noncomputable abbrev Hp:=Addr->Option HO
noncomputable def upd (H:Hp)(a:Addr)(o:HO):Hp:=λb=>if b=a then some o else H b
theorem Ac:upd H a o a=some o:=by unfold upd;rw[if_pos rfl]
theorem Af (h:b≠a):upd H a o b=H b:=by unfold upd;rw[if_neg h]
theorem Jj:upd (upd H a o) a u=upd H a u:=by
 funext b;unfold upd;split <;> rfl
theorem Ew {H:Hp}{a b:Addr}{o u:HO}(h:H a=some o)(h':H b=some u)(d:o≠u):a≠b:=by
 intro e;subst e;rw[h]at h';exact d (Qg h')
theorem C9 {H:Hp}{a b:Addr}{o:HO}(h:H a=some o)(h':H b=none):a≠b:=by
 intro e;subst e;rw[h]at h';cases h'
section
variable (P:Program)(w:World)
def ObjOk (H:Hp)(h:Heap)(a:Addr):HO->Prop
 |.lst xs=>xs.length<=sizeLine/\eX2 λ(its:List Value)(n:Nat)=>Vals xs its/\h.get? a=some { cls:=.type "list",data:=.seq its.toArray n }
 |.tup xs=>xs.length<=sizeLine/\∃its:List Value,Vals xs its/\IsTup h a its.toArray
 |.dK kvs=>kvs.length<=sizeLine/\(a == sysModules)=false/\∃vs,KV kvs vs/\h.DictOf (Et P w) a vs
 |.dT kvs=>kvs.length<=sizeLine/\(a == sysModules)=false/\∃xs:List (List Aw×Addr×Value),
   Paired (λ(p:List Aw×V) (q:List Aw×Addr×Value)=>p.1=q.1/\H q.2.1=some (.tup (p.1.map kV))/\RelV p.2 q.2.2) kvs xs /\
   eX3 λo es ep=>h.get? a=some o/\o.ExactDict/\o.data=.dict es ep/\es.toList=xs.map (entryOfKey (tupleKind (Et P w)))/\(xs.map (·.1)).Nodup
 |.set S n=>h.SetOf (intKind P w) a S n
 |.ins C dx fs=>H dx=some (.own a)/\fs.length<=1000/\dx≠a/\h.get? a=some (Se C dx) /\
   ∃mA,h.Ns1 dx mA/\(∀f,RelO (fs.lookup f) (mA f))/\V1 mA (fs.map (·.1))
 |.own _=>∃o,h.get? a=some o
 |.xd fs=>∃mA,h.Ns1 a mA/\∀f,RelO (fs.lookup f) (mA f)
 |.rng lo hi=>eX3 λt u v=>h.get? a=some { cls:=.type "range",data:=.fields #[.int lo t,.int hi u,.int 1 v] }
 |.frz o u=>h.get? a=some o/\ObjOk H h a u
 |.tbl ps=>h.get? a=some { cls:=.none,data:=.fields ps }
 |.met f x=>h.get? a=some (Wo (.ref f) (.ref x))
 |.ext φ=>φ h/\(∃o,h.get? a=some o)/\∀h1 h2:Heap,φ h1->(∀o,h1.get? a=some o->h2.get? a=some o)->φ h2
def HOk (H:Hp)(h:Heap):Prop:=∀a o,H a=some o->ObjOk P w H h a o
end
section
variable {P:Program}{w:World}{H H':Hp}{h h':Heap}{a:Addr}{o:HO}
theorem ObjOk.lt (x:ObjOk P w H h a o):a<h.objs.size:=by
 cases o with
 |lst xs=>obtain⟨_,_,_,_,e⟩:=x;exact Pq e
 |tup xs=>obtain⟨_,_,_,p⟩:=x;exact p.lt
 |dK kvs=>obtain⟨_,_,_,_,o,_,_,e,_⟩:=x;exact Pq e
 |dT kvs=>obtain⟨_,_,_,_,o,_,_,e,_⟩:=x;exact Pq e
 |set S n=>obtain⟨o,_,_,_,e,_⟩:=x;exact Pq e
 |ins C dx fs=>obtain⟨_,_,_,e,_⟩:=x;exact Pq e
 |own y=>obtain⟨_,e⟩:=x;exact Pq e
 |xd fs=>obtain⟨_,⟨_,_,_,e,_⟩,_⟩:=x;exact Pq e
 |rng lo hi=>obtain⟨_,_,_,e⟩:=x;exact Pq e
 |frz I u=>obtain⟨e,_⟩:=x;exact Pq e
 |tbl ps=>exact Pq (show h.get? a=some _ from x)
 |met f y=>exact Pq (show h.get? a=some _ from x)
 |ext φ=>obtain⟨_,⟨_,e⟩,_⟩:=x;exact Pq e
theorem Paired.mapP {α β:Type}{F G:α->β->Prop}:∀{l₁:List α}{l₂:List β},Paired F l₁ l₂->(∀a b,F a b->G a b)->Paired G l₁ l₂
 |_,_,.nil,_=>.nil
 |_,_,.cons r t,f=>.cons (f _ _ r) (Paired.mapP t f)
theorem ObjOk.stay (x:ObjOk P w H h a o)(k:∀b u,(b=a\/H b=some (.own a))->h.get? b=some u->h'.get? b=some u)
  (ho:∀b,H b=some (.own a)->H' b=some (.own a)) (ht:∀b xs,H b=some (.tup xs)->H' b=some (.tup xs)):ObjOk P w H' h' a o:=by
 induction o with
 |lst xs=>obtain⟨z,U,n,r,e⟩:=x;exact⟨z,U,n,r,k _ _ (.inl rfl) e⟩
 |tup xs=>obtain⟨z,U,r,I,e,c⟩:=x;exact⟨z,U,r,I,k _ _ (.inl rfl) e,c⟩
 |dK kvs=>obtain⟨z,y,vs,r,I,es,O,e,c⟩:=x;exact⟨z,y,vs,r,I,es,O,k _ _ (.inl rfl) e,c⟩
 |dT kvs =>
  obtain⟨z,y,xs,r,I,es,O,e,c⟩:=x;exact⟨z,y,xs,Paired.mapP r λp q z=>⟨z.1,ht _ _ z.2.1,z.2.2⟩,I,es,O,k _ _ (.inl rfl) e,c⟩
 |set S n=>obtain⟨I,es,O,t,e,c⟩:=x;exact⟨I,es,O,t,k _ _ (.inl rfl) e,c⟩
 |ins C dx fs =>
  obtain⟨d,z,ne,e,mA,⟨od,es,O,Y,c⟩,r⟩:=x;exact⟨ho _ d,z,ne,k _ _ (.inl rfl) e,mA,⟨od,es,O,k _ _ (.inr d) Y,c⟩,r⟩
 |own y=>obtain⟨I,e⟩:=x;exact⟨I,k _ _ (.inl rfl) e⟩
 |xd fs=>obtain⟨mA,⟨od,es,O,e,c⟩,r⟩:=x;exact⟨mA,⟨od,es,O,k _ _ (.inl rfl) e,c⟩,r⟩
 |rng lo hi=>obtain⟨t,u,v,e⟩:=x;exact⟨t,u,v,k _ _ (.inl rfl) e⟩
 |frz I u Z=>obtain⟨e,q⟩:=x;exact⟨k _ _ (.inl rfl) e,Z q⟩
 |tbl ps =>
  have e:h.get? a=some { cls:=.none,data:=.fields ps }:=x;show h'.get? a=some { cls:=.none,data:=.fields ps };exact k a _ (.inl rfl) e
 |met f y =>
  have e:h.get? a=some (Wo (.ref f) (.ref y)):=x;show h'.get? a=some (Wo (.ref f) (.ref y));exact k a _ (.inl rfl) e
 |ext φ=>obtain⟨p,⟨o,e⟩,st⟩:=x;exact⟨st _ _ p λo q=>k _ _ (.inl rfl) q,⟨o,k _ _ (.inl rfl) e⟩,st⟩
theorem HOk.lt (x:HOk P w H h)(e:H a=some o):a<h.objs.size:=(x a o e).lt
theorem HOk.fresh (x:HOk P w H h)(e:h.objs.size<=a):H a=none:=by
 cases q:H a with
 |none=>rfl
 |some u=>exact absurd (P9 (x.lt q) e) (Q5 _)
theorem HOk.kept (x:HOk P w H h)(k:∀b u,h.get? b=some u->h'.get? b=some u):HOk P w H h':=λa o e =>
 (x a o e).stay (λb u _ q=>k b u q) (λ_ q=>q) λ_ _ q=>q
theorem HOk.laid (x:HOk P w H h)(k:∀b u,h.get? b=some u->h'.get? b=some u)(hp:h.objs.size<=a)(new:ObjOk P w (upd H a o) h' a o):HOk P w (upd H a o) h':=λb u e=>by
 have hn:=x.fresh hp;by_cases hb:b=a
 ·subst hb;rw[Ac]at e;cases e;exact new
 ·rw[Af hb]at e;exact(x b u e).stay (λc v _ q=>k c v q) (λc q=>by rw[Af (C9 q hn)];exact q) λc xs q=>by rw[Af (C9 q hn)];exact q
end
def Rd (H:Hp)(a:Addr)(u:HO):Prop:=H a=some u\/∃o,H a=some (.frz o u)
theorem Rd.ok (r:Rd H a u)(x:HOk P w H h):ObjOk P w H h a u:=by
 rcases r with r|⟨o,r⟩
 ·exact x a u r
 ·obtain⟨_,q⟩:=x a _ r;exact q
def Mut:Option HO->Prop
 |some (.lst _)=>True
 |some (.dK _)=>True
 |some (.dT _)=>True
 |some (.set _ _)=>True
 |some (.ins _ _ _)=>True
 |some (.ext _)=>True
 |_=>False
section
variable {P:Program}{w:World}{H:Hp}{h h':Heap}{x e:Addr}{o':HO}
theorem HOk.write (ok:HOk P w H h)(mu:Mut (H x))(he:e=x\/H e=some (.own x))(k:∀b u,b≠e->h.get? b=some u->h'.get? b=some u)(heo:∃u,h'.get? e=some u)
  (new:ObjOk P w (upd H x o') h' x o'):HOk P w (upd H x o') h':=λb u q=>by
 have O:∀c y,H c=some (.own y)->c≠x:=λc y r z=>by subst z;rw[r]at mu;exact mu
 have U:∀c xs,H c=some (.tup xs)->c≠x:=λc xs r z=>by subst z;rw[r]at mu;exact mu
 by_cases hb:b=x
 ·subst hb;rw[Ac]at q;cases q;exact new
 ·rw[Af hb]at q;by_cases I:b=e
  ·have Z:H b=some (.own x):=by
    rcases he with z|z
    ·exact absurd (I.trans z) hb
    ·rw[I];exact z
   rw[q]at Z;cases Z;obtain⟨v,hv⟩:=heo;exact⟨v,by rw[I];exact hv⟩
  ·refine(ok b u q).stay (λc v Y r=>k c v ?_ r) (λc r=>by rw[Af (O c b r)];exact r) λc xs r=>by rw[Af (U c xs r)];exact r
   rcases Y with rfl|Y
   ·exact I
   ·rintro rfl;rcases he with z|z
    ·exact O c b Y z
    ·rw[Y]at z;cases z;exact hb rfl
end
structure Un (fs ex:List Addr)(H H':Hp)(h h':Heap):Prop where
 keep:∀b o,h.get? b=some o->H b=none->b ∉ fs->b ∉ ex->h'.get? b=some o
 slot:∀b o,h.get? b=some o->H b=none->b∈fs->b ∉ ex->∃sl,h'.get? b=some { o with slots:=sl }
 free:∀b o,h.get? b=some o->H b=none->b ∉ ex->H' b=none
 there:∀b o,h.get? b=some o->b ∉ ex->∃o',h'.get? b=some o'
 tups:∀b xs,H b=some (.tup xs)->H' b=some (.tup xs)
 frzs:∀b o u,H b=some (.frz o u)->H' b=some (.frz o u)
 tbls:∀b ps,H b=some (.tbl ps)->∃more,H' b=some (.tbl (ps++more))
section
variable {fs fs' ex ex':List Addr}{H H1 H2:Hp}{h h1 h2 h':Heap}{a x e:Addr}{o:HO}
theorem Un.any (u:Un fs ex H H1 h h1)(q:h.get? b=some ob)(n:H b=none)(hx:b ∉ ex):∃sl,h1.get? b=some { ob with slots:=sl }:=by
 by_cases hb:b∈fs
 ·exact u.slot b ob q n hb hx
 ·exact⟨ob.slots,u.keep b ob q n hb hx⟩
theorem Un.kept (k:∀b u,h.get? b=some u->h'.get? b=some u):Un fs ex H H h h' :=
 ⟨λb I q _ _ _=>k b I q,λb I q _ _ _=>⟨I.slots,k b I q⟩,λ_ _ _ n _=>n,λb I q _=>⟨I,k b I q⟩,λ_ _ q=>q,λ_ _ _ q=>q,λ_ ps q=>⟨#[],by rw[q];simp⟩⟩
theorem Un.refl:Un fs ex H H h h:=Un.kept λ_ _ q=>q
theorem Un.laid (k:∀b u,h.get? b=some u->h'.get? b=some u)(hp:h.objs.size<=a)(hn:H a=none):Un fs ex H (upd H a o) h h' where
 keep:=λb u q _ _ _=>k b u q
 slot:=λb u q _ _ _=>⟨u.slots,k b u q⟩
 free:=λb u q n _=>by rw[Af (P0 (P9 (Pq q) hp))];exact n
 there:=λb u q _=>⟨u,k b u q⟩
 tups:=λb xs q=>by rw[Af (C9 q hn)];exact q
 frzs:=λb u xs q=>by rw[Af (C9 q hn)];exact q
 tbls:=λb ps q=>⟨#[],by rw[Af (C9 q hn),q];simp⟩
theorem Un.write (mu:Mut (H x))(he:e=x\/H e=some (.own x))(k:∀b u,b≠e->h.get? b=some u->h'.get? b=some u)(heo:∃u,h'.get? e=some u):Un fs ex H (upd H x o) h h':=by
 have U:∀b,H b=none->b≠x:=λb n z=>by subst z;rw[n]at mu;exact mu
 have hb:∀b,H b=none->b≠e:=λb n z=>by
  subst z;rcases he with r|r
  ·exact U b n r
  ·rw[n]at r;cases r
 have O:∀b u,H b=some u->¬Mut (some u)->b≠x:=λb u q nm z=>by subst z;rw[q]at mu;exact nm mu
 refine⟨λb u q n _ _=>k b u (hb b n) q,λb u q n _ _=>⟨u.slots,k b u (hb b n) q⟩,λb u q n _=>by rw[Af (U b n)];exact n,λb u q _=>?_,
  λb xs q=>by rw[Af (O b _ q λz=>z)];exact q,λb u xs q=>by rw[Af (O b _ q λz=>z)];exact q,λb ps q=>⟨#[],by rw[Af (O b _ q λz=>z),q];simp⟩⟩
 by_cases I:b=e
 ·subst I;exact heo
 ·exact⟨u,k b u I q⟩
end
noncomputable def trk (h:Heap)(H:Hp):List Addr:=(P6 h.objs.size).filter λa=>(H a).isSome
noncomputable def Hl (h:Heap)(H:Hp):Heap:=PySem.W.hideAll h (trk h H)
theorem Zl6 (h:Heap)(H:Hp):(Hl h H).objs.size=h.objs.size:=PySem.W.hideAll_size _ _
theorem Zwq (e:h.get? b=some o)(n:H b=none):(Hl h H).get? b=some o :=
 PySem.W.hideAll_get _ e λI=>by
  have q:(H b).isSome=true:=(Sq.mp I).2;rw[n]at q;simp at q
theorem Zk0 (e:(Hl h H).get? b=some o):h.get? b=some o/\H b=none:=by
 have I:h.get? b=some o:=PySem.W.of_hideAll (trk h H) e;refine⟨I,?_⟩;cases q:H b with
 |none=>rfl
 |some x =>
  have O:b∈trk h H:=Sq.mpr ⟨Vu.mpr (Pq I),by simp[q]⟩;have z:(Hl h H).get? b=none:=PySem.W.hideAll_none (trk h H) O;rw[z]at e;cases e
structure Mod (K:Ph)(mg:Str->Option Value)(base:Heap):Prop where
 kin:K.In base
 glob:base.Ns mainGlobals mg
 blt:∃mb,base.Ns builtinsNs mb/\∀x:Str,x≠"__name__" -> mb x=bootBuiltins x
 nolimit:base.NoLimit
structure Cx where
 prog:Program
 w:World
 K:Ph
 mg:Str->Option Value
 base:Heap
 A:Around
 N:List Str
 s₀:Shared
 H₀:Hp
 env:Env
 outer:List Env
 stack:List Env
 ex:List Addr
 fn:Str->Bool
 calm:Bool
 pn:List (Addr×Obj)
 xe:Value->Shared->Prop
noncomputable def B4 (l:List Env):List Addr:=l.filterMap (·.frame)
noncomputable abbrev Cx.fs (X:Cx):List Addr:=B4 X.outer
def Dp (sc:Scope)(x:Str):Prop:=sc.names.lookup x=some .local\/sc.names.lookup x=some .cell\/sc.names.lookup x=some .free
def Ee (sc:Scope)(x:Str):Prop:=sc.names.lookup x=some .local\/sc.names.lookup x=some .cell
def Look (env:Env)(h:Heap)(m:Str->Option Value)(x:Str)(u:Value):Prop :=
 (env.kindOf x=some .local/\m x=some u)\/((env.kindOf x=some .cell\/env.kindOf x=some .free)/\∃c,env.cells.lookup x=some c/\h.IsCell c (some u))
structure Cx.Ok (X:Cx):Prop where
 mod:Mod X.K X.mg X.base
 kind:X.env.scope.kind=.function
 glob:X.env.globals=mainGlobals
 blt:X.env.builtins=builtinsNs
 above:X.s₀.heap.objs.size<=X.env.locals
 inj:∀x y c,X.env.cells.lookup x=some c->X.env.cells.lookup y=some c->x=y
 has:∀x,(X.env.kindOf x=some .cell\/X.env.kindOf x=some .free)->∃c,X.env.cells.lookup x=some c
 cab:∀x c,X.fn x=true->X.env.cells.lookup x=some c->X.s₀.heap.objs.size<=c
 hd:X.calm=true->X.A.handled=none
 frames:X.A.frames=some X.stack
 stk:X.stack=X.outer\/(X.stack=X.env::X.outer/\X.env.frame=some X.env.locals)
 exf:∀b∈X.ex,b≠X.env.locals/\∀x c,X.env.cells.lookup x=some c->c≠b
 bs:∀b o,X.base.get? b=some o->X.s₀.heap.get? b=some o/\X.H₀ b=none
 bsz:X.base.objs.size<=X.s₀.heap.objs.size
 noex:∀b o,X.base.get? b=some o->b ∉ X.ex
 exfs:∀b∈X.ex,b ∉ X.fs
 funs:X.s₀.heap.FunFrames X.base X.outer
 frf:∀b∈X.fs,X.H₀ b=none
structure Inv (X:Cx)(pins:List (Addr×Obj))(σ:List (Option V))(H:Hp)(s:Shared):Prop where
 ok:X.Ok
 os:s.os=X.s₀.os
 bare:AllBare s.gens
 base:Un X.fs X.ex X.H₀ H X.s₀.heap s.heap
 loc:∃m,s.heap.Ns X.env.locals m/\∀(i:Nat)(x:Str)(v:V),X.N[i]?=some x->σ[i]?=some (some v)->Dp X.env.scope x->∃u,RelV v u/\Look X.env s.heap m x u
 cell:∀x c,X.env.cells.lookup x=some c->∃v,s.heap.IsCell c v
 free:H X.env.locals=none
 freeC:∀x c,X.env.cells.lookup x=some c->H c=none
 pin:∀p∈X.pn++pins,s.heap.get? p.1=some p.2/\H p.1=none/\p.1≠X.env.locals/\p.1 ∉ X.fs/\∀v,p.2.data≠.cell v
 hok:HOk X.prog X.w H s.heap
 len:σ.length=X.N.length
section
variable {X:Cx}{pins:List (Addr×Obj)}{σ:List (Option V)}{H H':Hp}{s:Shared}{h':Heap}
theorem Cx.Ok.nofr (ok:X.Ok)(e:X.base.get? b=some o):b ∉ X.fs:=λhb=>by
 have:=(ok.funs.mem hb).1;rw[e]at this;cases this
theorem Inv.bs (I:Inv X pins σ H s):∀b o,X.base.get? b=some o->s.heap.get? b=some o/\H b=none:=λb o e =>
 ⟨I.base.keep b o (I.ok.bs b o e).1 (I.ok.bs b o e).2 (I.ok.nofr e) (I.ok.noex b o e),I.base.free b o (I.ok.bs b o e).1 (I.ok.bs b o e).2 (I.ok.noex b o e)⟩
theorem Inv.bk (I:Inv X pins σ H s):∀b o,X.base.get? b=some o->s.heap.get? b=some o:=λb o e=>(I.bs b o e).1
theorem Inv.mod (I:Inv X pins σ H s):Mod X.K X.mg X.base:=I.ok.mod
theorem Inv.kIn (I:Inv X pins σ H s):X.K.In s.heap:=I.ok.mod.kin.keeps I.bk
theorem Inv.lt (I:Inv X pins σ H s):X.env.locals<s.heap.objs.size:=let ⟨_,hn,_⟩:=I.loc;hn.lt
theorem Inv.sz (I:Inv X pins σ H s):X.s₀.heap.objs.size<=s.heap.objs.size:=Qb I.ok.above (Uq I.lt)
theorem Inv.nofs (I:Inv X pins σ H s)(h:s.heap.objs.size<=a):a ∉ X.fs:=λhb=>by
 obtain⟨_,o,O,_⟩:=I.ok.funs.mem hb;exact absurd (P9 (Pq O) (Qb I.sz h)) (Q5 _)
theorem Inv.cne (I:Inv X pins σ H s):∀x c,X.env.cells.lookup x=some c->c≠X.env.locals:=λx c e z=>by
 obtain⟨v,o,Y,hd⟩:=I.cell x c e;obtain⟨m,⟨o',es,Z,O,U,_⟩,_⟩:=I.loc;rw[z,O]at Y;cases Y;rw[U]at hd;cases hd
theorem Inv.funs (I:Inv X pins σ H s):s.heap.FunFrames X.base X.outer:=by
 have all:∀(l:List Env),(∀b∈B4 l,b∈X.fs)->X.s₀.heap.FunFrames X.base l->s.heap.FunFrames X.base l:=by
  intro l
  induction l with
  |nil=>intro _ _;trivial
  |cons env r ih =>
   intro Y hl;obtain⟨hk,⟨L,o,U,hn,Z,hd⟩,hr⟩:=hl;have O:L∈X.fs:=Y L (by unfold B4;rw[Vb,U];exact Uc);obtain⟨sl,e⟩:=I.base.slot L o Z (I.ok.frf L O) O λz=>I.ok.exfs L z O;exact⟨hk,⟨L,_,U,hn,e,hd⟩,ih (λb hb=>Y b (by unfold B4;rw[Vb,U];exact Rt _ hb)) hr⟩
 exact all X.outer (λ_ hb=>hb) I.ok.funs
theorem Inv.stack (I:Inv X pins σ H s):s.heap.FunFrames X.base X.stack:=by
 rcases I.ok.stk with e|⟨e,O⟩
 ·rw[e];exact I.funs
 ·rw[e];obtain⟨m,hn,_⟩:=I.loc;refine .cons (by rw[I.ok.kind];decide) O hn ?_ I.funs;exact T3 (Qb I.ok.bsz I.ok.above)
theorem Inv.stkSub (I:Inv X pins σ H s):∀b∈B4 X.stack,b∈X.env.locals::X.fs:=λb hb=>by
 rcases I.ok.stk with e|⟨e,O⟩
 ·rw[e]at hb;exact Rt _ hb
 ·rw[e]at hb;unfold B4 at hb;rw[Vb,O]at hb;exact hb
theorem Inv.stkFree (I:Inv X pins σ H s):∀b∈B4 X.stack,H b=none:=λb hb=>by
 rcases Pr.mp (I.stkSub b hb) with e|hb
 ·rw[e];exact I.free
 ·obtain⟨_,o,O,_⟩:=I.ok.funs.mem hb;exact I.base.free b o O (I.ok.frf b hb) λz=>I.ok.exfs b z hb
theorem Inv.step {g':Array GenState}{t':Nat}{d':Drawn}{ch:List Addr}(I:Inv X pins σ H s)
  (hch:∀b∈ch,(b∈X.ex\/X.s₀.heap.objs.size<=b)/\b≠X.env.locals/\(∀x c,X.env.cells.lookup x=some c->c≠b)/\∀p∈X.pn++pins,p.1≠b)
  (keep:∀b o,b≠X.env.locals->b ∉ X.fs->b ∉ ch->s.heap.get? b=some o->H b=none->h'.get? b=some o)
  (slot:∀b o,b≠X.env.locals->b∈X.fs->b ∉ ch->s.heap.get? b=some o->H b=none->∃sl,h'.get? b=some { o with slots:=sl }) (free:∀b o,b ∉ ch->s.heap.get? b=some o->H b=none->H' b=none)
  (there:∀b o,b ∉ ch->s.heap.get? b=some o->∃o',h'.get? b=some o')
  (tups:∀b xs,H b=some (.tup xs)->H' b=some (.tup xs)) (frzs:∀b o u,H b=some (.frz o u)->H' b=some (.frz o u)) (tbls:∀b ps,H b=some (.tbl ps)->∃more,H' b=some (.tbl (ps++more)))
  (ns:∀m,s.heap.Ns X.env.locals m->h'.Ns X.env.locals m) (hok:HOk X.prog X.w H' h') (hg:AllBare g') :
  Inv X pins σ H' { s with heap:=h',gens:=g',drawn:=d',toks:=t' }:=by
 have ac:∀b o,X.s₀.heap.get? b=some o->b≠X.env.locals:=λb o e=>P0 (P9 (Pq e) I.ok.above);have aa:∀b o,X.s₀.heap.get? b=some o->b ∉ X.ex->b ∉ ch:=λb o e O hb=>by
  rcases (hch b hb).1 with z|z
  ·exact O z
  ·exact absurd (P9 (Pq e) z) (Q5 _)
 have Y:∀x c,X.env.cells.lookup x=some c->∀v,s.heap.IsCell c v->h'.IsCell c v:=λx c e v ⟨o,ho,hd⟩=>by
  have U:c ∉ ch:=λz=>(hch c z).2.2.1 x c e rfl;by_cases hc:c∈X.fs
  ·obtain⟨sl,q⟩:=slot c o (I.cne x c e) hc U ho (I.freeC x c e);exact⟨_,q,hd⟩
  ·exact⟨o,keep c o (I.cne x c e) hc U ho (I.freeC x c e),hd⟩
 refine⟨I.ok,I.os,hg,⟨λb o e n hb O=>?_,λb o e n hb O=>?_,λb o e n O=>?_,λb o e O=>?_,λb xs e=>tups b xs (I.base.tups b xs e),λb o xs e=>frzs b o xs (I.base.frzs b o xs e),λb ps e=>?_⟩,?_,λx c e=>?_,?_,λx c e=>?_,λp hp=>?_,hok,I.len⟩
 ·exact keep b o (ac b o e) hb (aa b o e O) (I.base.keep b o e n hb O) (I.base.free b o e n O)
 ·obtain⟨sl,Z⟩:=I.base.slot b o e n hb O;obtain⟨ad,e2⟩:=slot b _ (ac b o e) hb (aa b o e O) Z (I.base.free b o e n O);exact⟨ad,e2⟩
 ·obtain⟨o',Z⟩:=I.base.there b o e O;exact free b o' (aa b o e O) Z (I.base.free b o e n O)
 ·obtain⟨o',Z⟩:=I.base.there b o e O;exact there b o' (aa b o e O) Z
 ·obtain⟨m1,Z⟩:=I.base.tbls b ps e;obtain⟨m2,e2⟩:=tbls b _ Z;exact⟨m1++m2,by rw[e2,Array.append_assoc]⟩
 ·obtain⟨m,hn,hl⟩:=I.loc;refine⟨m,ns m hn,λi x v Z e2 e3=>?_⟩;obtain⟨u,r,l⟩:=hl i x v Z e2 e3;refine⟨u,r,?_⟩;rcases l with l|⟨k,c,e,z⟩
  ·exact .inl l
  ·exact .inr ⟨k,c,e,Y x c e _ z⟩
 ·obtain⟨v,z⟩:=I.cell x c e;exact⟨v,Y x c e v z⟩
 ·obtain⟨m,⟨o,_,_,ho,_⟩,_⟩:=I.loc;exact free _ o (λz=>(hch _ z).2.1 rfl) ho I.free
 ·obtain⟨v,o,ho,hd⟩:=I.cell x c e;exact free c o (λz=>(hch c z).2.2.1 x c e rfl) ho (I.freeC x c e)
 ·obtain⟨e,n,ne,nf,d⟩:=I.pin p hp;have U:p.1 ∉ ch:=λz=>(hch p.1 z).2.2.2 p hp rfl;exact⟨keep p.1 p.2 ne nf U e n,free p.1 p.2 U e n,ne,nf,d⟩
theorem Inv.un (I:Inv X pins σ H s)(u:Un X.fs [] H H' s.heap h')(hok:HOk X.prog X.w H' h'):Inv X pins σ H' { s with heap:=h',toks:=t' }:=by
 obtain⟨m,⟨o,es,ep,Z,r⟩,_⟩:=id I.loc;obtain⟨sl,hL⟩:=u.any Z I.free (by simp);exact I.step (g':=s.gens) (d':=s.drawn) (ch:=[]) (λ_ z=>nomatch z) (λb o _ hb _ e n=>u.keep b o e n hb (by simp)) (λb o _ hb _ e n=>u.slot b o e n hb (by simp)) (λb o _ e n=>u.free b o e n (by simp)) (λb o _ e=>u.there b o e (by simp)) u.tups u.frzs u.tbls (λm' hm=>by
  obtain⟨o',U,Y,O,r'⟩:=hm;rw[Z]at O;cases O;exact⟨_,U,Y,hL,r'⟩) hok I.bare
theorem Inv.call (I:Inv X pins σ H s)(u:Un (B4 X.stack) ch H H' s.heap h')(hok:HOk X.prog X.w H' h')(hg:AllBare g')(hch:∀b∈ch,(b∈X.ex\/X.s₀.heap.objs.size<=b)/\b≠X.env.locals/\(∀x c,X.env.cells.lookup x=some c->c≠b)/\∀p∈X.pn++pins,p.1≠b) :
  Inv X pins σ H' { s with heap:=h',gens:=g',drawn:=d',toks:=t' }:=by
 obtain⟨m,⟨o,es,ep,ho,r⟩,_⟩:=id I.loc;obtain⟨sl,Y⟩:=u.any ho I.free λz=>(hch _ z).2.1 rfl;exact I.step (ch:=ch) hch (λb o Y hb O e n=>u.keep b o e n (λz=>(Pr.mp (I.stkSub b z)).elim Y hb) O) (λb o _ _ O e n=>u.any e n O) (λb o O e n=>u.free b o e n O) (λb o O e=>u.there b o e O) u.tups u.frzs u.tbls (λm' hm=>by
  obtain⟨o',Z,aa,U,r'⟩:=hm;rw[ho]at U;cases U;exact⟨_,Z,aa,Y,r'⟩) hok hg
theorem Inv.turned (I:Inv X pins σ H s)(k:∀b o,b≠it->s.heap.get? b=some o->h'.get? b=some o)(hn:H it=none)(hL:it≠X.env.locals)(h1:it∈X.ex\/X.s₀.heap.objs.size<=it)(h2:∀x c,X.env.cells.lookup x=some c->c≠it)(h3:∀p∈X.pn++pins,p.1≠it):Inv X pins σ H { s with heap:=h',toks:=t' }:=by
 have U:∀b u,H b=some u->b≠it:=λb u e z=>by rw[z,hn]at e;cases e
 refine I.step (g':=s.gens) (d':=s.drawn) (ch:=[it]) (λb hb=>?_) (λb o _ _ O e _=>k b o (λz=>O (by simp[z])) e) (λb o _ _ O e _=>⟨o.slots,k b o (λz=>O (by simp[z])) e⟩) (λ_ _ _ _ n=>n)
  (λb o O e=>⟨o,k b o (λz=>O (by simp[z])) e⟩) (λ_ _ e=>e) (λ_ _ _ e=>e) (λb ps e=>⟨#[],by rw[e];simp⟩) (λm hm=>?_) (λb u e=>?_) I.bare
 ·have e:b=it:=by simpa using hb
  subst e;exact⟨h1,hL,h2,h3⟩
 ·obtain⟨o,es,Z,Y,r⟩:=hm;exact⟨o,es,Z,k _ o (Pw hL) Y,r⟩
 ·refine(I.hok b u e).stay (λc v O q=>k c v ?_ q) (λ_ q=>q) λ_ _ q=>q;rcases O with z|z
  ·rw[z];exact U b u e
  ·exact U c _ z
theorem Inv.tok (I:Inv X pins σ H s)(t:Nat):Inv X pins σ H { s with toks:=t }:=I.un (h':=s.heap) (t':=t) Un.refl I.hok
theorem Inv.kept (I:Inv X pins σ H s)(k:∀b u,s.heap.get? b=some u->h'.get? b=some u):Inv X pins σ H { s with heap:=h',toks:=t' }:=I.un (Un.kept k) (I.hok.kept k)
theorem Inv.laid (I:Inv X pins σ H s)(k:∀b u,s.heap.get? b=some u->h'.get? b=some u)(hp:s.heap.objs.size<=a)(new:ObjOk X.prog X.w (upd H a o) h' a o) :
  Inv X pins σ (upd H a o) { s with heap:=h',toks:=t' }:=I.un (Un.laid k hp (I.hok.fresh hp)) (I.hok.laid k hp new)
theorem Inv.write (I:Inv X pins σ H s)(mu:Mut (H x))(he:e=x\/H e=some (.own x))(k:∀b u,b≠e->s.heap.get? b=some u->h'.get? b=some u)(heo:∃u,h'.get? e=some u)(new:ObjOk X.prog X.w (upd H x o) h' x o):Inv X pins σ (upd H x o) { s with heap:=h',toks:=t' }:=I.un (Un.write mu he k heo) (I.hok.write mu he k heo new)
theorem Inv.pins_of (I:Inv X pins σ H s)(h:∀p∈pins',s.heap.get? p.1=some p.2/\H p.1=none/\p.1≠X.env.locals/\p.1 ∉ X.fs/\∀v,p.2.data≠.cell v):Inv X pins' σ H s :=
 ⟨I.ok,I.os,I.bare,I.base,I.loc,I.cell,I.free,I.freeC,λp hp=>(Q4.mp hp).elim (λz=>I.pin p (List.mem_append_left _ z)) (h p),I.hok,I.len⟩
theorem Zfc {N:List Str}(hN:N.Nodup){i j:Nat}{x:Str}(a:N[i]?=some x)(b:N[j]?=some x):i=j:=by
 obtain⟨h1,I⟩:=Ps.mp a;obtain⟨h2,O⟩:=Ps.mp b;exact(List.getElem_inj hN).mp (I.trans O.symm)
theorem Zf2 (I:Inv X pins σ H s)(hN:X.N.Nodup)(hi:X.N[i]?=some x)(hx:Ee X.env.scope x)(r:RelV v u)(h:∀s',Inv X pins (σ.set i (some v)) H s'->(∃a,P4 a s.heap s'.heap/\(a=X.env.locals\/X.env.cells.lookup x=some a))->Q () s')(hf:autoParam (X.fn x=true\/X.env.scope.names.lookup x=some .local) zQ):wpAny M A (storeName X.env x u) Q E s:=by
 obtain⟨m,hn,hl⟩:=id I.loc;have ag:(X.env.scope.kind == .class || (X.env.scope.kind == .module && X.env.locals != X.env.globals))=false:=by rw[I.ok.kind];rfl
 have ac:i<σ.length:=by rw[I.len];exact(Ps.mp hi).1
 have cne:=I.cne;have U:∀{a:Addr}{h':Heap},(∃o,s.heap.get? a=some o/\H a=none)->P4 a s.heap h'->HOk X.prog X.w H h':=λ{a h'} ha O b ob e=>by
  obtain⟨_,_,aa⟩:=ha;refine(I.hok b ob e).stay (λc w' Z q=>(O.2 c ?_).trans q) (λ_ q=>q) λ_ _ q=>q;rintro rfl;rcases Z with rfl|Z
  ·rw[aa]at e;cases e
  ·rw[aa]at Z;cases Z
 rcases hx with hk|hk
 ·refine wpAny_storeName_local hk hn (λh' ak O=>?_) ag;obtain⟨oL,_,_,aj,_⟩:=id hn;refine h _ ⟨I.ok,I.os,I.bare,⟨λb o e n hb hx=>?_,λb o e n hb hx=>?_,I.base.free,λb o e hx=>?_,I.base.tups,I.base.frzs,I.base.tbls⟩,⟨_,ak,λj y v' Y e2 e3=>?_⟩,λy c e=>?_,I.free,I.freeC,λp hp=>?_,U ⟨oL,aj,I.free⟩ O,by simpa using I.len⟩ ⟨_,O,.inl rfl⟩
  ·exact(O.2 b (P0 (P9 (Pq e) I.ok.above))).trans (I.base.keep b o e n hb hx)
  ·obtain⟨sl,Y⟩:=I.base.slot b o e n hb hx;exact⟨sl,(O.2 b (P0 (P9 (Pq e) I.ok.above))).trans Y⟩
  ·obtain⟨o',Y⟩:=I.base.there b o e hx;exact⟨o',(O.2 b (P0 (P9 (Pq e) I.ok.above))).trans Y⟩
  ·by_cases hj:j=i
   ·subst hj;rw[hi]at Y;cases Y;rw[Rr ac]at e2;cases e2;exact⟨u,r,.inl ⟨hk,by simp⟩⟩
   ·rw[T8 (Pw hj)]at e2;obtain⟨u',r',q⟩:=hl j y v' Y e2 e3;refine⟨u',r',?_⟩;rcases q with⟨k,e⟩|⟨k,c,e,z⟩
    ·refine .inl ⟨k,?_⟩;have:y≠x:=λe=>hj (Zfc hN Y (e ▸ hi));simp[this,e]
    ·exact .inr ⟨k,c,e,z.sameBut O (cne y c e)⟩
  ·obtain⟨w',z⟩:=I.cell y c e;exact⟨w',z.sameBut O (cne y c e)⟩
  ·obtain⟨e,n,ne,nf,d⟩:=I.pin p hp;exact⟨(O.2 p.1 ne).trans e,n,ne,nf,d⟩
 ·have ad:X.fn x=true:=by
   rcases hf with z|z
   ·exact z
   ·rw[z]at hk;cases hk
  obtain⟨c,Z⟩:=I.ok.has x (.inl hk);obtain⟨w',z⟩:=I.cell x c Z;refine wpAny_storeName_cell I.ok.kind hk Z z (λh' ae O=>?_);obtain⟨oc,af,ah⟩:=id z;refine h { s with heap:=h' } ⟨I.ok,I.os,I.bare,⟨λb o e n hb hx=>?_,λb o e n hb hx=>?_,I.base.free,λb o e hx=>?_,I.base.tups,I.base.frzs,I.base.tbls⟩,⟨m,hn.sameBut O (Pw (cne x c Z)),λj y v' Y e2 e3=>?_⟩,λy c' e=>?_,I.free,I.freeC,λp hp=>?_,U ⟨oc,af,I.freeC x c Z⟩ O,by simpa using I.len⟩ ⟨c,O,.inr Z⟩
  ·exact(O.2 b (P0 (P9 (Pq e) (I.ok.cab x c ad Z)))).trans (I.base.keep b o e n hb hx)
  ·obtain⟨sl,Y⟩:=I.base.slot b o e n hb hx;exact⟨sl,(O.2 b (P0 (P9 (Pq e) (I.ok.cab x c ad Z)))).trans Y⟩
  ·obtain⟨o',Y⟩:=I.base.there b o e hx;exact⟨o',(O.2 b (P0 (P9 (Pq e) (I.ok.cab x c ad Z)))).trans Y⟩
  ·by_cases hj:j=i
   ·subst hj;rw[hi]at Y;cases Y;rw[Rr ac]at e2;cases e2;exact⟨u,r,.inr ⟨.inl hk,c,Z,ae⟩⟩
   ·rw[T8 (Pw hj)]at e2;obtain⟨u',r',q⟩:=hl j y v' Y e2 e3;refine⟨u',r',?_⟩;rcases q with q|⟨k,c',e,z'⟩
    ·exact .inl q
    ·refine .inr ⟨k,c',e,z'.sameBut O ?_⟩;rintro rfl;exact hj (Zfc hN Y (I.ok.inj _ _ _ e Z ▸ hi))
  ·by_cases ai:c'=c
   ·subst ai;exact⟨_,ae⟩
   ·obtain⟨w2,z2⟩:=I.cell y c' e;exact⟨w2,z2.sameBut O ai⟩
  ·obtain⟨e,n,ne,nf,d⟩:=I.pin p hp;refine⟨(O.2 p.1 ?_).trans e,n,ne,nf,d⟩;intro q;rw[q,af]at e;have q':oc=p.2:=Qg e;exact d w' (by rw[<- q'];exact ah)
theorem Zev (I:Inv X pins σ H s)(hN:X.N.Nodup)(hi:X.N[i]?=some x)(hx:Ee X.env.scope x)(r:RelV v u)(h:∀s',Inv X pins (σ.set i (some v)) H s'->Q () s')(hf:autoParam (X.fn x=true\/X.env.scope.names.lookup x=some .local) zQ):wpAny M A (storeName X.env x u) Q E s :=
 Zf2 I hN hi hx r (λs' O _=>h s' O) hf
theorem Inv.call' (I:Inv X pins σ H s)(ho:s'.os=s.os)(u:Un (B4 X.stack) ch H H' s.heap s'.heap)(hok:HOk X.prog X.w H' s'.heap)(hg:AllBare s'.gens)(hch:∀b∈ch,(b∈X.ex\/X.s₀.heap.objs.size<=b)/\b≠X.env.locals/\(∀x c,X.env.cells.lookup x=some c->c≠b)/\∀p∈X.pn++pins,p.1≠b):Inv X pins σ H' s':=by
 obtain⟨h',O,U,t',o'⟩:=s';have e:o'=s.os:=ho;subst e;exact I.call (g':=O) (t':=t') (d':=U) u hok hg hch
end
noncomputable abbrev XK:=Value->Option Addr->Hp->Prop
noncomputable abbrev St:=List (Option V)
noncomputable abbrev VK:=V->Hp->Prop
noncomputable abbrev TE:=St->Hp->VK->Prop
noncomputable abbrev TT:=St->Hp->(Bool->Hp->Prop)->Prop
noncomputable abbrev TA:=St->Hp->(List V->Hp->Prop)->Prop
structure Ends where
 nx:St->Hp->Prop
 rt:VK
 bk:St->Hp->Prop:=λ_ _=>False
 ct:St->Hp->Prop:=λ_ _=>False
noncomputable abbrev TS:=Ends->St->Hp->Prop
def EP (X:Cx)(pins:List (Addr×Obj))(σ:St)(Q:VK)(u:Value)(s':Shared):Prop:=eX2 λv H'=>Inv X pins σ H' s'/\RelV v u/\Q v H'
def TP (X:Cx)(pins:List (Addr×Obj))(σ:St)(Q:Bool->Hp->Prop)(b:Bool)(s':Shared):Prop:=∃H',Inv X pins σ H' s'/\Q b H'
def AP (X:Cx)(pins:List (Addr×Obj))(σ:St)(Q:List V->Hp->Prop)(us:List Value)(s':Shared):Prop:=eX2 λvs H'=>Inv X pins σ H' s'/\Vals vs us/\Q vs H'
def SP (X:Cx)(pins:List (Addr×Obj))(D:Ends)(f:Flow)(s':Shared):Prop :=
 match f with
 |.next=>eX2 λσ' H'=>Inv X pins σ' H' s'/\D.nx σ' H'
 |.brk=>eX2 λσ' H'=>Inv X pins σ' H' s'/\D.bk σ' H'
 |.cont=>eX2 λσ' H'=>Inv X pins σ' H' s'/\D.ct σ' H'
 |.ret u=>eX3 λv σ' H'=>Inv X pins σ' H' s'/\RelV v u/\D.rt v H'
def PE (X:Cx)(e:Expr)(t:TE):Prop :=
 ∀(pins:List (Addr×Obj))(s:Shared)(σ:St)(H:Hp)(Q:VK),Inv X pins σ H s->t σ H Q->wpAny (model X.prog X.w) X.A (eval e X.env) (EP X pins σ Q) X.xe s
def PT (X:Cx)(e:Expr)(t:TT):Prop :=
 ∀(pins:List (Addr×Obj))(s:Shared)(σ:St)(H:Hp)(Q:Bool->Hp->Prop),Inv X pins σ H s->t σ H Q->wpAny (model X.prog X.w) X.A (isTrue e X.env (eval e X.env)) (TP X pins σ Q) X.xe s
def PW (X:Cx)(e:Expr)(t:TT):Prop :=
 ∀(whole:Sem Value)(pins:List (Addr×Obj))(s:Shared)(σ:St)(H:Hp)(Q:Bool->Hp->Prop),Inv X pins σ H s->t σ H Q->wpAny (model X.prog X.w) X.A (isTrue e X.env whole) (TP X pins σ Q) X.xe s
theorem PW.pt (h:PW X e t):PT X e t:=h _
def PA (X:Cx)(es:List Expr)(t:TA):Prop :=
 ∀(pos:Pos)(pins:List (Addr×Obj))(s:Shared)(σ:St)(H:Hp)(Q:List V->Hp->Prop),Inv X pins σ H s->t σ H Q->wpAny (model X.prog X.w) X.A (spliced (backTo pos (starEach es X.env))) (AP X pins σ Q) X.xe s
def PS (X:Cx)(st:Stmt)(t:TS):Prop :=
 ∀(pins:List (Addr×Obj))(s:Shared)(σ:St)(H:Hp)(D:Ends),Inv X pins σ H s->t D σ H->wpAny (model X.prog X.w) X.A (exec st X.env) (SP X pins D) X.xe s
def PSs (X:Cx)(st:List Stmt)(t:TS):Prop :=
 ∀(pins:List (Addr×Obj))(s:Shared)(σ:St)(H:Hp)(D:Ends),Inv X pins σ H s->t D σ H->wpAny (model X.prog X.w) X.A (execs st X.env) (SP X pins D) X.xe s
theorem As {α:Type}{t:Sem α}{Q Q':α->Shared->Prop}{M:Model}{A:Around}{E:Value->Shared->Prop}{s:Shared}(h:wpAny M A t Q E s)(hQ:∀a s,Q a s->Q' a s):wpAny M A t Q' E s:=Rp h hQ λ_ _ x=>x
section
variable {X:Cx}
def Dm (i:Nat):TE:=λσ H Q=>∃v,σ[i]?=some (some v)/\Q v H
def tC (v:V):TE:=λ_ H Q=>Q v H
theorem Zhy {i j pos}:PE X (.Constant (.int i) j pos) (tC (.int i)):=λ_ _ _ H _ I h=>wpAny_Constant_int ⟨.int i,H,I.tok _,⟨_,rfl⟩,h⟩
theorem Zf0 {b j pos}:PE X (.Constant (.bool b) j pos) (tC (.bl b)):=λ_ _ _ H _ I h=>Constant_bool ⟨.bl b,H,I,rfl,h⟩
theorem Zhz {j pos}:PE X (.Constant .none j pos) (tC .non):=λ_ _ _ H _ I h=>Constant_none ⟨.non,H,I,rfl,h⟩
theorem Zf6 {x j pos}:PE X (.Constant (.str x) j pos) (tC (.str x)):=λ_ _ _ H _ I h=>Calls.Constant_str ⟨.str x,H,I.tok _,⟨_,rfl⟩,h⟩
def Gl (X:Cx)(x:Str):Prop:=X.env.kindOf x=some .globalImplicit
theorem Lc (I:Inv X pins σ H s)(hg:Gl X x)(hm:X.mg x=some u)(h:Q u s)(hd:autoParam ((x == ("__debug__":Str))=false) zW):wpAny (model X.prog X.w) X.A (eval (.Name x pos) X.env) Q E s :=
 Calls.Name_function_global I.ok.kind hg (Calls.loadGlobal_global (by rw[I.ok.glob];exact I.mod.glob.keeps I.bk) hm h) hd
theorem G4 (I:Inv X pins σ H s)(hg:Gl X x)(hm:X.mg x=none)(hv:bootBuiltins x=some u)(h:Q u s)(hn:autoParam (x≠"__name__") zW)(hd:autoParam ((x == ("__debug__":Str))=false) zW):wpAny (model X.prog X.w) X.A (eval (.Name x pos) X.env) Q E s:=by
 obtain⟨O,h1,h2⟩:=I.mod.blt;exact Calls.Name_function_global I.ok.kind hg (Calls.loadGlobal_builtin (by rw[I.ok.glob];exact I.mod.glob.keeps I.bk) hm (by rw[I.ok.blt];exact h1.keeps I.bk) ((h2 x hn).trans hv) h) hd
theorem Zug (hg:Gl X x)(hm:X.mg x=some u)(r:RelV v u)(hd:autoParam ((x == ("__debug__":Str))=false) zW):PE X (.Name x pos) (tC v) :=
 λ_ _ _ H _ I h=>Lc I hg hm ⟨v,H,I,r,h⟩ hd
variable {a b:Expr}{ta tb:TE}{pos:Pos}
def PC (X:Cx)(op:CmpOp)(a b:Expr)(t:TE):Prop :=
 ∀(pins:List (Addr×Obj))(s:Shared)(σ:St)(H:Hp)(Q:VK),Inv X pins σ H s->t σ H Q ->
  wpAny (model X.prog X.w) X.A (eval a X.env) (λv O=>wpAny (model X.prog X.w) X.A (eval b X.env) (λu I=>wpAny (model X.prog X.w) X.A (compareOp op v u) (EP X pins σ Q) X.xe I) X.xe O) X.xe s
theorem O0 (b:Expr)(h:op≠.In)(h2:op≠.NotIn):behindInMarks op b=false:=by
 have I:(op == CmpOp.In)=false:=by cases op <;> first|rfl|exact absurd rfl h
 have O:(op == CmpOp.NotIn)=false:=by cases op <;> first|rfl|exact absurd rfl h2
 cases b <;> simp[behindInMarks,I,O]
def Zeb (ta:TE):TE:=λσ H Q=>ta σ H λx H1=>Q (.bl (decide (x=.non))) H1
theorem RelV.none_iff (r:RelV x v):(v == Value.none)=decide (x=.non):=by
 cases x with
 |non=>cases r;rfl
 |bl _=>cases r;rfl
 |int _=>obtain⟨t,rfl⟩:=r;rfl
 |str _=>obtain⟨t,rfl⟩:=r;rfl
 |byt _=>obtain⟨t,rfl⟩:=r;rfl
 |flt _=>obtain⟨t,rfl⟩:=r;rfl
 |ref _=>cases r;rfl
 |ty _=>cases r;rfl
def tB (t:TE):TT:=λσ H Q=>t σ H λx H1=>∃c,x=.bl c/\Q c H1
variable {tA tB':TT}{rest:List Expr}
def Zdj (t u:TT):TT:=λσ H Q=>t σ H λc H1=>if c=true then u σ H1 Q else Q false H1
def tOr (t u:TT):TT:=λσ H Q=>t σ H λc H1=>if c=true then Q true H1 else u σ H1 Q
def Zej (t:TT):TT:=λσ H Q=>t σ H λc H1=>Q (!c) H1
def Zeu (ta tb:TE):TE:=λσ H Q=>ta σ H λx H1=>∃c,x=.bl c/\if c=true then tb σ H1 Q else Q (.bl false) H1
def Zd1 (ta tb:TE):TE:=λσ H Q=>ta σ H λx H1=>∃c,x=.bl c/\if c=true then Q (.bl true) H1 else tb σ H1 Q
def Zcp (ta:TE):TE:=λσ H Q=>ta σ H λx H1=>∃c,x=.bl c/\Q (.bl (!c)) H1
def Kl (t:TT)(ta tb:TE):TE:=λσ H Q=>t σ H λc H1=>if c=true then ta σ H1 Q else tb σ H1 Q
end
def SqL (K:Ph)(H:Hp)(a:Addr)(xs:List V):Prop :=
 Rd H a (.lst xs) \/
  eX3 λ(o:Obj)(its:Array Value)(n:Nat)=>K.lookup a=some o/\o.cls=.type "list"/\o.dict=none/\o.data=.seq its n/\its.size<=sizeLine/\Vals xs its.toList
def SqT (K:Ph)(H:Hp)(a:Addr)(xs:List V):Prop :=
 Rd H a (.tup xs) \/
  eX3 λ(o:Obj)(its:Array Value)(n:Nat)=>K.lookup a=some o/\o.cls=.type "tuple"/\o.data=.seq its n/\its.size<=sizeLine/\Vals xs its.toList
noncomputable def Ot:Value->Option V
 |.none=>some .non
 |.bool b=>some (.bl b)
 |.int i _=>some (.int i)
 |.str x _=>some (.str x)
 |.bytes b _=>some (.byt b)
 |.float b _=>some (.flt b)
 |.ref a=>some (.ref a)
 |.type n=>some (.ty n)
 |_=>none
theorem RelV.abs (r:RelV x u):Ot u=some x:=by
 cases x with
 |non=>cases r;rfl
 |bl _=>cases r;rfl
 |int _=>obtain⟨t,rfl⟩:=r;rfl
 |str _=>obtain⟨t,rfl⟩:=r;rfl
 |byt _=>obtain⟨t,rfl⟩:=r;rfl
 |flt _=>obtain⟨t,rfl⟩:=r;rfl
 |ref _=>cases r;rfl
 |ty _=>cases r;rfl
theorem RelV.inj (r:RelV x u)(q:RelV y u):x=y:=Qg (r.abs.symm.trans q.abs)
theorem Vals.inj:∀{xs ys:List V}{us:List Value},Vals xs us->Vals ys us->xs=ys
 |_,_,_,.nil,.nil=>rfl
 |_,_,_,.cons r t,.cons I t'=>by rw[r.inj I,Vals.inj t t']
section
variable {X:Cx}{pins:List (Addr×Obj)}{σ:St}{H:Hp}{s:Shared}{a:Addr}{xs ys:List V}
theorem SqL.of {K:Ph}(h:H a=some (.lst xs)):SqL K H a xs:=.inl (.inl h)
theorem SqT.of {K:Ph}(h:H a=some (.tup xs)):SqT K H a xs:=.inl (.inl h)
theorem Inv.list (I:Inv X pins σ H s)(h:SqL X.K H a xs):∃its:List Value,Vals xs its/\PlainL s.heap a its.toArray/\xs.length<=sizeLine:=by
 rcases h with h|⟨o,its,n,U,O,hd,Y,Z,r⟩
 ·obtain⟨z,its,n,r,e⟩:=h.ok I.hok;exact⟨its,r,⟨_,n,e,rfl,rfl,rfl⟩,z⟩
 ·refine⟨its.toList,r,⟨o,n,I.kIn a o U,O,hd,by simpa using Y⟩,?_⟩;have e:=r.length;simp only[Vc]at e;lia
theorem Inv.tuple (I:Inv X pins σ H s)(h:SqT X.K H a xs):∃its:List Value,Vals xs its/\IsTup s.heap a its.toArray/\xs.length<=sizeLine:=by
 rcases h with h|⟨o,its,n,U,O,Y,Z,r⟩
 ·obtain⟨z,its,r,p⟩:=h.ok I.hok;exact⟨its,r,p,z⟩
 ·refine⟨its.toList,r,⟨o,I.kIn a o U,O,n,by simpa using Y⟩,?_⟩;have e:=r.length;simp only[Vc]at e;lia
theorem Inv.list_inj (I:Inv X pins σ H s)(h:SqL X.K H a xs)(h':SqL X.K H a ys):xs=ys:=by
 obtain⟨U,r,⟨o,n,e,_,_,d⟩,_⟩:=I.list h;obtain⟨O,r',⟨o',n',Y,_,_,Z⟩,_⟩:=I.list h';rw[e]at Y;cases Y;rw[d]at Z;injection Z with d1 _;have:U=O:=by simpa using congrArg Array.toList d1
 subst this;exact r.inj r'
theorem Inv.tuple_inj (I:Inv X pins σ H s)(h:SqT X.K H a xs)(h':SqT X.K H a ys):xs=ys:=by
 obtain⟨U,r,⟨o,e,_,n,d⟩,_⟩:=I.tuple h;obtain⟨O,r',⟨o',Y,_,n',Z⟩,_⟩:=I.tuple h';rw[e]at Y;cases Y;rw[d]at Z;injection Z with d1 _;have:U=O:=by simpa using congrArg Array.toList d1
 subst this;exact r.inj r'
end
noncomputable abbrev Cx.wish (X:Cx)(E:Value->Shared->Prop):Cx:={ X with xe:=E }
noncomputable abbrev Cx.nox (X:Cx):Cx:=X.wish λ_ _=>False
theorem Cx.Ok.wish {X:Cx}(ok:X.Ok)(E:Value->Shared->Prop):(X.wish E).Ok :=
 ⟨ok.mod,ok.kind,ok.glob,ok.blt,ok.above,ok.inj,ok.has,ok.cab,ok.hd,ok.frames,ok.stk,ok.exf,ok.bs,ok.bsz,ok.noex,ok.exfs,ok.funs,ok.frf⟩
theorem Cx.Ok.unwish {X:Cx}{E:Value->Shared->Prop}(ok:(X.wish E).Ok):X.Ok :=
 ⟨ok.mod,ok.kind,ok.glob,ok.blt,ok.above,ok.inj,ok.has,ok.cab,ok.hd,ok.frames,ok.stk,ok.exf,ok.bs,ok.bsz,ok.noex,ok.exfs,ok.funs,ok.frf⟩
section
variable {X:Cx}{pins:List (Addr×Obj)}{σ:St}{H:Hp}{s:Shared}{E:Value->Shared->Prop}
theorem Inv.wish (I:Inv X pins σ H s)(E:Value->Shared->Prop):Inv (X.wish E) pins σ H s:=⟨I.ok.wish E,I.os,I.bare,I.base,I.loc,I.cell,I.free,I.freeC,I.pin,I.hok,I.len⟩
theorem Inv.unwish (I:Inv (X.wish E) pins σ H s):Inv X pins σ H s:=⟨I.ok.unwish,I.os,I.bare,I.base,I.loc,I.cell,I.free,I.freeC,I.pin,I.hok,I.len⟩
theorem SP.unwish (h:SP (X.wish E) pins D f s'):SP X pins D f s':=by
 cases f with
 |next=>obtain⟨O,H',I,q⟩:=h;exact⟨O,H',I.unwish,q⟩
 |brk=>obtain⟨O,H',I,q⟩:=h;exact⟨O,H',I.unwish,q⟩
 |cont=>obtain⟨O,H',I,q⟩:=h;exact⟨O,H',I.unwish,q⟩
 |ret u=>obtain⟨v,O,H',I,r,q⟩:=h;exact⟨v,O,H',I.unwish,r,q⟩
theorem PSs.nox {st:List Stmt}{t:TS}(h:PSs X.nox st t):PSs X st t:=λpins s σ H D I O =>
 Rp (h pins s σ H D (I.wish _) O) (λ_ _ q=>q.unwish) λ_ _ z=>Qo z
end
section
variable {X:Cx}{st:Stmt}{rest:List Stmt}{t u:TS}{e:Expr}{te:TE}{pos:Pos}
def Zb5:TS:=λD σ H=>D.nx σ H
def Zcr (t u:TS):TS:=λD σ H=>t { D with nx:=u D } σ H
theorem Inv.quiet (I:Inv X pins σ H s):interactive X.env=false:=by simp[interactive,I.ok.kind]
def Zdf (te:TE):TS:=λD σ H=>te σ H λ_ H1=>D.nx σ H1
def N0 (te:TE):TS:=λD σ H=>te σ H D.rt
def Cf (c:TT)(t u:TS):TS:=λD σ H=>c σ H λb H1=>if b=true then t D σ H1 else u D σ H1
end
noncomputable abbrev TG:=V->St->Hp->(St->Hp->Prop)->Prop
noncomputable abbrev Ff:=List V->St->Hp->(St->Hp->Prop)->Prop
def PG (X:Cx)(target:Expr)(t:TG):Prop :=
 ∀(pins:List (Addr×Obj))(s:Shared)(σ:St)(H:Hp)(v:V)(u:Value)(Q:St->Hp->Prop),Inv X pins σ H s->RelV v u->t v σ H Q ->
  wpAny (model X.prog X.w) X.A (assign target X.env u) (λ_ s'=>eX2 λσ' H'=>Inv X pins σ' H' s'/\Q σ' H') X.xe s
def PGs (X:Cx)(ts:List Expr)(t:Ff):Prop :=
 ∀(pins:List (Addr×Obj))(s:Shared)(σ:St)(H:Hp)(vs:List V)(us:List Value)(Q:St->Hp->Prop),Inv X pins σ H s->Vals vs us->t vs σ H Q ->
  wpAny (model X.prog X.w) X.A (assignInOrder ((assignEach ts X.env).map (·.2)) us) (λ_ s'=>eX2 λσ' H'=>Inv X pins σ' H' s'/\Q σ' H') X.xe s
noncomputable abbrev L6:=V->V->V->Hp->(Hp->Prop)->Prop
def Zd9 (X:Cx)(t:L6):Prop :=
 ∀(pins:List (Addr×Obj))(s:Shared)(σ:St)(H:Hp)(o i v:V)(ov iv u:Value)(Q:Hp->Prop),Inv X pins σ H s->RelV o ov->RelV i iv->RelV v u->t o i v H Q ->
  wpAny (model X.prog X.w) X.A (setItem ov iv u) (λ_ s'=>∃H',Inv X pins σ H' s'/\Q H') X.xe s
section
variable {X:Cx}{pos:Pos}
def Ep (i:Nat):TG:=λv σ H Q=>Q (σ.set i (some v)) H
def Lj:Ff:=λvs σ H Q=>vs=[]/\Q σ H
def Iy (t:TG)(u:Ff):Ff:=λvs σ H Q=>eX2 λv r=>vs=v::r/\t v σ H λI H'=>u r I H' Q
def Kx (K:Ph)(n:Nat)(t:Ff):TG:=λv σ H Q=>eX2 λa xs=>v=.ref a/\SqT K H a xs/\xs.length=n/\t xs σ H Q
def Zc5 (to ti:TE)(t:L6):TG:=λv σ H Q=>to σ H λo H1=>ti σ H1 λi H2=>t o i v H2 λI=>Q σ I
def Ik (te:TE)(g:TG):TS:=λD σ H=>te σ H λx H1=>g x σ H1 D.nx
end
section
variable {X:Cx}{pos:Pos}
def Zfi (c:TT)(tb:TS):TS:=λD σ H=>∃W:Nat->St->Hp->Prop,(∃m,W m σ H)/\∀m σ H,W m σ H ->
 c σ H λb H1=>if b=true then ∃N:St->Hp->Prop,(∀σ' H',N σ' H'->∃m',m'<m/\W m' σ' H')/\tb { D with nx:=N,ct:=N,bk:=D.nx } σ H1 else D.nx σ H1
end
structure It where
 go:Nat->Hp->Prop
 yld:Nat->Hp->V->Hp->Prop
 stop:Nat->Hp->Prop
def FpOk (X:Cx)(pins:List (Addr×Obj))(H:Hp)(b:Addr):Prop :=
 H b=none/\b≠X.env.locals/\b ∉ X.fs/\(b∈X.ex\/X.s₀.heap.objs.size<=b)/\(∀x c,X.env.cells.lookup x=some c->c≠b)/\∀p∈X.pn++pins,p.1≠b
theorem Inv.fpOk (I:Inv X pins σ H s)(hb:s.heap.objs.size<=b)(hn:H' b=none):FpOk X pins H' b:=by
 refine⟨hn,Q1 (P9 I.lt hb),I.nofs hb,.inr (Qb I.sz hb),λx c e z=>?_,λp hp z=>?_⟩
 ·obtain⟨v,q⟩:=I.cell x c e;exact absurd (P9 q.lt (by rw[z];exact hb)) (Q5 _)
 ·exact absurd (P9 (Pq (I.pin p hp).1) (by rw[z];exact hb)) (Q5 _)
structure Jf (P:Program)(w:World)(K:Ph)(tg:Expr)(J:It)(fp:List Addr)(it:Addr)(tn:Nat->Heap->Prop):Prop where
 mem:it∈fp
 obj:∀i h,tn i h->∀b∈fp,∃o,h.get? b=some o/\∀v,o.data≠.cell v
 keep:∀i h h',tn i h->(∀b∈fp,∀o,h.get? b=some o->h'.get? b=some o)->tn i h'
 item:∀(X:Cx),X.prog=P->X.w=w->X.K=K->X.calm=true->∀(i:Nat)(pins:List (Addr×Obj))(s:Shared)(σ:St)(H:Hp)(E:Value->Shared->Prop),Inv X pins σ H s->(∀b∈fp,FpOk X pins H b)->tn i s.heap->J.go i H ->
  wpAny (model P w) X.A (pyNext (.ref it)) (λr s1=>∃u,r=some u /\
   wpAny (model P w) X.A (letOwnedTupleGo tg (.ref it) u) (λ_ s2=>eX2 λx H'=>Inv X pins σ H' s2/\RelV x u/\J.yld i H x H'/\tn (i+1) s2.heap/\∀b∈fp,H' b=none) E s1) E s
 done:∀(X:Cx),X.prog=P->X.w=w->X.K=K->X.calm=true->∀(i:Nat)(pins:List (Addr×Obj))(s:Shared)(σ:St)(H:Hp)(E:Value->Shared->Prop),Inv X pins σ H s->(∀b∈fp,FpOk X pins H b)->tn i s.heap->J.stop i H ->
  wpAny (model P w) X.A (pyNext (.ref it)) (λr s1=>r=none/\Inv X pins σ H s1) E s
 self:∀(A:Around)(i:Nat)(s:Shared)(Q:Value->Shared->Prop)(E:Value->Shared->Prop),tn i s.heap->Q (.ref it) s->wpAny (model P w) A (pyIter (.ref it)) Q E s
noncomputable abbrev TI:=St->Hp->(It->Hp->Prop)->Prop
def PIE (X:Cx)(pins:List (Addr×Obj))(σ:St)(tg:Expr)(R:It->Hp->Prop)(itv:Value)(s2:Shared):Prop :=
 eX5 λ(it:Addr)(fp:List Addr)(tn:Nat->Heap->Prop)(J:It)(H':Hp)=>itv=.ref it/\Inv X pins σ H' s2/\Jf X.prog X.w X.K tg J fp it tn/\tn 0 s2.heap/\(∀b∈fp,FpOk X pins H' b)/\R J H'
def PI (X:Cx)(tg iter:Expr)(wi:TI):Prop :=
 ∀(pins:List (Addr×Obj))(s:Shared)(σ:St)(H:Hp)(R:It->Hp->Prop),Inv X pins σ H s->wi σ H R ->
  wpAny (model X.prog X.w) X.A (eval iter X.env) (λv I=>wpAny (model X.prog X.w) X.A (pyIter v) (PIE X pins σ tg R) X.xe I) X.xe s
theorem Lp (ho:s.heap.get? it=some o)(hc:o.cls=.type n)(hd:o.data=.fields vs)(hn:["enumerate","zip","dict_itemiterator","dict_reverseitemiterator","odict_iterator","itertools.zip_longest","itertools.pairwise"].contains n=false)(hQ:Q () s):wpAny M A (letOwnedTupleGo tg (.ref it) u) Q E s:=by
 unfold letOwnedTupleGo;cases tg <;> first
  |exact Pk hQ
  | (cases u <;> first
    |exact Pk hQ
    | (refine Pi (wpAny_load ho ?_)
       rw[hc,hd];show wpAny M A (if (["enumerate","zip","dict_itemiterator","dict_reverseitemiterator","odict_iterator","itertools.zip_longest","itertools.pairwise"].contains n && vs[0]? == some (rawInt _))=true then _ else _) Q E s;rw[if_neg (by intro h;rw[hn,Bool.false_and]at h;cases h)];exact Pk hQ))
noncomputable def Ju (K:Ph)(a:Addr):It :=
 ⟨λi H=>eX2 λxs x=>SqL K H a xs/\xs[i]?=some x,λi H x H'=>H'=H/\∀xs,SqL K H a xs->xs[i]?=some x,λi H=>∃xs,SqL K H a xs/\xs.length<=i⟩
noncomputable def Jy (K:Ph)(a:Addr):It :=
 ⟨λi H=>eX2 λxs x=>SqT K H a xs/\xs[i]?=some x,λi H x H'=>H'=H/\∀xs,SqT K H a xs->xs[i]?=some x,λi H=>∃xs,SqT K H a xs/\xs.length<=i⟩
noncomputable def Jh (lo:Int)(n:Nat):It:=⟨λi _=>i<n,λi H x H'=>H'=H/\x=.int (lo+i),λi _=>n<=i⟩
theorem Ztl {P:Program}{w:World}{K:Ph}{tg:Expr}(a it:Addr):Jf P w K tg (Ju K a) [it] it (λi h=>h.IsListIter it a i) where
 mem:=by simp
 obj:=λi h st b hb=>by
  have e:b=it:=by simpa using hb
  subst e;obtain⟨o,e,c,d⟩:=st;exact⟨o,e,λv z=>by rw[d]at z;cases z⟩
 keep:=λi h h' st k=>st.at λo e=>k it (by simp) o e
 item:=by
  intro X Z hw hK hc i pins s σ H E I Y st hg;subst Z hw hK;obtain⟨xs,x,U,hx⟩:=hg;obtain⟨aa,rv,p,hz⟩:=I.list U;obtain⟨u,hu,ru⟩:=rv.get hx;obtain⟨f0,f1,f2,f3,f4,f5⟩:=Y it (by simp);refine wpAny_pyNext_list_item st p.isList (x:=u) (by simpa using hu) λh' O sb=>?_;have I1:Inv X pins σ H { s with heap:=h' }:=I.turned (t':=s.toks) (λb o hb e=>(sb.2 b hb).trans e) f0 f1 f3 f4 f5;obtain⟨o,e,c,d⟩:=id O;exact⟨u,rfl,Lp (s:={ s with heap:=h' }) e c d (by decide) ⟨x,H,I1,ru,⟨rfl,λys hy=>by rw[I.list_inj hy U];exact hx⟩,O,λb hb=>(Y b hb).1⟩⟩
 done:=by
  intro X Z hw hK hc i pins s σ H E I Y st hg;subst Z hw hK;obtain⟨xs,U,hx⟩:=hg;obtain⟨aa,rv,p,hz⟩:=I.list U;obtain⟨f0,f1,f2,f3,f4,f5⟩:=Y it (by simp);have hl:=rv.length;exact wpAny_pyNext_list_end (I.ok.hd hc) st p.isList (by simp;lia) λh' eb=>⟨rfl,I.turned (t':=s.toks) (λb o hb e=>eb b o hb e) f0 f1 f3 f4 f5⟩
 self:=λ_ _ _ _ _ st h=>wpAny_pyIter_listiter st h
theorem Zlz {P:Program}{w:World}{K:Ph}{tg:Expr}(a it:Addr):Jf P w K tg (Jy K a) [it] it (λi h=>h.IsTupleIter it a i) where
 mem:=by simp
 obj:=λi h st b hb=>by
  have e:b=it:=by simpa using hb
  subst e;obtain⟨o,e,c,d⟩:=st;exact⟨o,e,λv z=>by rw[d]at z;cases z⟩
 keep:=λi h h' st k=>st.at λo e=>k it (by simp) o e
 item:=by
  intro X hP hw hK hc i pins s σ H E I Z st hg;subst hP hw hK;obtain⟨xs,x,Y,hx⟩:=hg;obtain⟨O,rv,p,hz⟩:=I.tuple Y;obtain⟨u,hu,ru⟩:=rv.get hx;obtain⟨f0,f1,f2,f3,f4,f5⟩:=Z it (by simp);refine wpAny_pyNext_tuple_item st (show s.heap.IsTuple a O.toArray from p) (x:=u) (by simpa using hu) λh' U sb=>?_;have I1:Inv X pins σ H { s with heap:=h' }:=I.turned (t':=s.toks) (λb o hb e=>(sb.2 b hb).trans e) f0 f1 f3 f4 f5;obtain⟨o,e,c,d⟩:=id U;exact⟨u,rfl,Lp (s:={ s with heap:=h' }) e c d (by decide) ⟨x,H,I1,ru,⟨rfl,λys hy=>by rw[I.tuple_inj hy Y];exact hx⟩,U,λb hb=>(Z b hb).1⟩⟩
 done:=by
  intro X hP hw hK hc i pins s σ H E I Z st hg;subst hP hw hK;obtain⟨xs,Y,hx⟩:=hg;obtain⟨O,rv,p,hz⟩:=I.tuple Y;obtain⟨f0,f1,f2,f3,f4,f5⟩:=Z it (by simp);have hl:=rv.length;exact wpAny_pyNext_tuple_end (I.ok.hd hc) st (show s.heap.IsTuple a O.toArray from p) (by simp;lia) λh' eb=>⟨rfl,I.turned (t':=s.toks) (λb o hb e=>eb b o hb e) f0 f1 f3 f4 f5⟩
 self:=λ_ _ _ _ _ st h=>wpAny_pyIter_tupleiter st h
theorem Zv8 {P:Program}{w:World}{K:Ph}{tg:Expr}(it:Addr)(lo:Int)(n:Nat):Jf P w K tg (Jh lo n) [it] it (λi h=>IsRangeIter h it (lo+(i:Nat)*1) ((n:Int)-(i:Nat)) 1) where
 mem:=by simp
 obj:=λi h st b hb=>by
  have e:b=it:=by simpa using hb
  subst e;exact⟨_,st,λv z=>by
   have z':Data.fields _=Data.cell v:=z;cases z'⟩
 keep:=λi h h' st k=>k it (by simp) _ st
 item:=by
  intro X Y hw hK hc i pins s σ H E I U st hg;subst Y hw hK;obtain⟨f0,f1,f2,f3,Z,f5⟩:=U it (by simp);have W:=Walks.range (prog:=X.prog) (w:=X.w) (I.ok.hd hc) it lo 1 n;refine W.item i s _ _ hg st λv h' tk hv O kk=>?_;obtain⟨t,rfl⟩:=hv;have I1:Inv X pins σ H { s with heap:=h',toks:=tk }:=I.turned (λb o hb e=>kk b o (by simpa using hb) e) f0 f1 f3 Z f5;refine⟨_,rfl,Lp (s:={ s with heap:=h',toks:=tk }) (n:="range_iterator") O rfl rfl (by decide) ⟨.int (lo+i),H,I1,⟨t,?_⟩,⟨rfl,rfl⟩,O,λb hb=>(U b hb).1⟩⟩;rw[Int.mul_one]
 done:=by
  intro X Y hw hK hc i pins s σ H E I U st hg;subst Y hw hK;obtain⟨f0,f1,f2,f3,Z,f5⟩:=U it (by simp);exact wpAny_pyNext_range_end (I.ok.hd hc) st (by have:n<=i:=hg;lia) λh' eb=>⟨rfl,I.turned (t':=s.toks) (λb o hb e=>eb b o hb e) f0 f1 f3 Z f5⟩
 self:=λ_ _ _ _ _ st h=>wpAny_pyIter_rangeiter st h
section
variable {X:Cx}{tg:Expr}
theorem Zv9 {pins:List (Addr×Obj)}{σ:St}{H:Hp}{s:Shared}{R:It->Hp->Prop}{E:Value->Shared->Prop}{lo hi:Int}{t u v:Tok}{tk:Nat}(I:Inv X pins σ H s)(h1:-(2 ^ 62)<=lo)(h2:lo<2 ^ 62)(h3:-(2 ^ 62)<=hi)(h4:hi<2 ^ 62)
  (q:R (Jh lo (hi-lo).toNat) H):wpAny (model X.prog X.w) X.A (pyIter (.ref s.heap.objs.size)) (PIE X pins σ tg R) E { s with heap:=s.heap.push { cls:=.type "range",data:=.fields #[.int lo t,.int hi u,.int 1 v] },toks:=tk }:=by
 refine wpAny_pyIter_range (IsRange.new ..) (small_one h1 h2 h3 h4) ?_;have O:Inv X pins σ H { s with heap:=s.heap.push { cls:=.type "range",data:=.fields #[.int lo t,.int hi u,.int 1 v] },toks:=tk }:=I.kept λb o e=>Po _ e;refine⟨(s.heap.push { cls:=.type "range",data:=.fields #[.int lo t,.int hi u,.int 1 v] }).objs.size,[(s.heap.push { cls:=.type "range",data:=.fields #[.int lo t,.int hi u,.int 1 v] }).objs.size],_,_,H,rfl,
  O.kept (t':=tk) λb o e=>Po _ e,Zv8 _ lo (hi-lo).toNat,?_,λb hb=>?_,q⟩
 ·have U:lo+((0:Nat):Int)*1=lo:=by simp
  have Y:(((hi-lo).toNat:Nat):Int)-((0:Nat):Int)=Builtin.Range.rangeSize lo hi 1:=by rw[rangeSize_one];split <;> lia
  show IsRangeIter _ _ (lo+((0:Nat):Int)*1) ((((hi-lo).toNat:Nat):Int)-((0:Nat):Int)) 1;rw[U,Y];exact P3 _ rfl
 ·have e:b=(s.heap.push { cls:=.type "range",data:=.fields #[.int lo t,.int hi u,.int 1 v] }).objs.size:=by simpa using hb
  subst e;exact O.fpOk (Pl _) (O.hok.fresh (Pl _))
def Zer (ta:TA):TI:=λσ H R=>ta σ H λvs H1=>∃j:Int,vs=[.int j]/\-(2 ^ 62)<=j/\j<2 ^ 62/\R (Jh 0 j.toNat) H1
def Zcn (wi:TI)(g:TG)(tb:TS):TS:=λD σ H=>wi σ H λJ H1=>∃W:Nat->Nat->St->Hp->Prop,(∃m,W 0 m σ H1)/\∀i m σ H,W i m σ H ->
 (J.stop i H/\D.nx σ H)\/(J.go i H/\∃N:St->Hp->Prop,(∀σ' H',N σ' H'->∃m',m'<m/\W (i+1) m' σ' H')/\∀x H',J.yld i H x H'->g x σ H' λI H2=>tb { D with nx:=N,ct:=N,bk:=D.nx } I H2)
noncomputable def Mt (fp:List Addr)(h:Heap):List (Addr×Obj):=fp.filterMap λb=>(h.get? b).map λo=>(b,o)
theorem Zao (hb:b∈fp)(e:h.get? b=some o):(b,o)∈Mt fp h:=List.mem_filterMap.mpr ⟨b,hb,by rw[e];rfl⟩
theorem Zpv (hp:p∈Mt fp h):p.1∈fp/\h.get? p.1=some p.2:=by
 obtain⟨b,hb,e⟩:=List.mem_filterMap.mp hp;cases q:h.get? b with
 |none=>rw[q]at e;cases e
 |some o =>
  rw[q]at e;have I:(b,o)=p:=Qg e;subst I;exact⟨hb,q⟩
theorem Inv.pinned (I:Inv X pins σ H s)(hf:∀b∈fp,FpOk X pins H b)(ho:∀b∈fp,∃o,s.heap.get? b=some o/\∀v,o.data≠.cell v):Inv X (pins++Mt fp s.heap) σ H s :=
 I.pins_of λp hp=>(Q4.mp hp).elim (λz=>I.pin p (Ri _ z)) λz=>by
  obtain⟨hb,e⟩:=Zpv z;obtain⟨Z,U,Y,_⟩:=hf p.1 hb;obtain⟨o,O,d⟩:=ho p.1 hb;rw[e]at O;cases O;exact⟨e,Z,U,Y,d⟩
theorem Inv.unpinned (I:Inv X (pins++pl) σ H s):Inv X pins σ H s:=I.pins_of λp hp=>I.pin p (Ri _ (List.mem_append_left _ hp))
end
theorem Jz {K:Ph}{a:Addr}{xs:List V}{g:TG}{tb:TS}{D:Ends}{σ:St}{H:Hp}(Pv:Nat->St->Hp->Prop)(h0:Pv 0 σ H)(hl:∀i σ H,i<=xs.length->Pv i σ H->SqL K H a xs)
  (hs:∀i x σ H,xs[i]?=some x->Pv i σ H->g x σ H λσ2 H2=>tb { D with nx:=Pv (i+1),ct:=Pv (i+1),bk:=D.nx } σ2 H2) (hd:∀σ H,Pv xs.length σ H->D.nx σ H) :
  ∃W:Nat->Nat->St->Hp->Prop,(∃m,W 0 m σ H)/\∀i m σ H,W i m σ H ->
   ((Ju K a).stop i H/\D.nx σ H)\/((Ju K a).go i H/\∃N:St->Hp->Prop,(∀σ' H',N σ' H'->∃m',m'<m/\W (i+1) m' σ' H')/\∀x H',(Ju K a).yld i H x H'->g x σ H' λσ2 H2=>tb { D with nx:=N,ct:=N,bk:=D.nx } σ2 H2):=by
 refine⟨λi m σ H=>m=xs.length-i/\i<=xs.length/\Pv i σ H,⟨xs.length,by simp,Qn _,h0⟩,?_⟩;rintro i m σ H ⟨rfl,hi,p⟩;have q:=hl i σ H hi p;by_cases I:i<xs.length
 ·refine .inr ⟨⟨xs,xs[i],q,by simp[I]⟩,Pv (i+1),λσ' H' O=>⟨xs.length-(i+1),by lia,rfl,I,O⟩,λx H' y=>?_⟩;obtain⟨e,y⟩:=y;subst e;exact hs i x σ _ (y xs q) p
 ·have e:i=xs.length:=by lia
  subst e;exact .inl ⟨⟨xs,q,Pl _⟩,hd σ H p⟩
theorem Zph {K:Ph}{a:Addr}{xs:List V}{g:TG}{tb:TS}{D:Ends}{σ:St}{H:Hp}(Pv:Nat->St->Hp->Prop)(h0:Pv 0 σ H)(hl:∀i σ H,i<=xs.length->Pv i σ H->SqT K H a xs)
  (hs:∀i x σ H,xs[i]?=some x->Pv i σ H->g x σ H λσ2 H2=>tb { D with nx:=Pv (i+1),ct:=Pv (i+1),bk:=D.nx } σ2 H2) (hd:∀σ H,Pv xs.length σ H->D.nx σ H) :
  ∃W:Nat->Nat->St->Hp->Prop,(∃m,W 0 m σ H)/\∀i m σ H,W i m σ H ->
   ((Jy K a).stop i H/\D.nx σ H)\/((Jy K a).go i H/\∃N:St->Hp->Prop,(∀σ' H',N σ' H'->∃m',m'<m/\W (i+1) m' σ' H')/\∀x H',(Jy K a).yld i H x H'->g x σ H' λσ2 H2=>tb { D with nx:=N,ct:=N,bk:=D.nx } σ2 H2):=by
 refine⟨λi m σ H=>m=xs.length-i/\i<=xs.length/\Pv i σ H,⟨xs.length,by simp,Qn _,h0⟩,?_⟩;rintro i m σ H ⟨rfl,hi,p⟩;have q:=hl i σ H hi p;by_cases I:i<xs.length
 ·refine .inr ⟨⟨xs,xs[i],q,by simp[I]⟩,Pv (i+1),λσ' H' O=>⟨xs.length-(i+1),by lia,rfl,I,O⟩,λx H' y=>?_⟩;obtain⟨e,y⟩:=y;subst e;exact hs i x σ _ (y xs q) p
 ·have e:i=xs.length:=by lia
  subst e;exact .inl ⟨⟨xs,q,Pl _⟩,hd σ H p⟩
theorem Gu {lo:Int}{n:Nat}{g:TG}{tb:TS}{D:Ends}{σ:St}{H:Hp}(Pv:Nat->St->Hp->Prop)(h0:Pv 0 σ H)
  (hs:∀i σ H,i<n->Pv i σ H->g (.int (lo+i)) σ H λσ2 H2=>tb { D with nx:=Pv (i+1),ct:=Pv (i+1),bk:=D.nx } σ2 H2) (hd:∀σ H,Pv n σ H->D.nx σ H) :
  ∃W:Nat->Nat->St->Hp->Prop,(∃m,W 0 m σ H)/\∀i m σ H,W i m σ H ->
   ((Jh lo n).stop i H/\D.nx σ H)\/((Jh lo n).go i H/\∃N:St->Hp->Prop,(∀σ' H',N σ' H'->∃m',m'<m/\W (i+1) m' σ' H')/\∀x H',(Jh lo n).yld i H x H'->g x σ H' λσ2 H2=>tb { D with nx:=N,ct:=N,bk:=D.nx } σ2 H2):=by
 refine⟨λi m σ H=>m=n-i/\i<=n/\Pv i σ H,⟨n,by simp,Qn _,h0⟩,?_⟩;rintro i m σ H ⟨rfl,hi,p⟩;by_cases I:i<n
 ·refine .inr ⟨I,Pv (i+1),λσ' H' O=>⟨n-(i+1),by lia,rfl,I,O⟩,λx H' y=>?_⟩;obtain⟨e,y⟩:=y;subst e y;exact hs i σ _ I p
 ·have e:i=n:=by lia
  subst e;exact .inl ⟨Pl _,hd σ H p⟩
noncomputable abbrev R2:=V->V->Hp->VK->Prop
def OpR (X:Cx)(f:Value->Value->Sem Value)(r:R2):Prop :=
 ∀(pins:List (Addr×Obj))(s:Shared)(σ:St)(H:Hp)(x y:V)(v u:Value)(Q:VK),Inv X pins σ H s->RelV x v->RelV y u->r x y H Q ->
  wpAny (model X.prog X.w) X.A (f v u) (EP X pins σ Q) X.xe s
def UnR (X:Cx)(f:Value->Sem Value)(r:V->Hp->VK->Prop):Prop :=
 ∀(pins:List (Addr×Obj))(s:Shared)(σ:St)(H:Hp)(x:V)(v:Value)(Q:VK),Inv X pins σ H s->RelV x v->r x H Q ->
  wpAny (model X.prog X.w) X.A (f v) (EP X pins σ Q) X.xe s
def Cz (X:Cx)(f:Value)(r:List V->Hp->VK->Prop):Prop :=
 ∀(pins:List (Addr×Obj))(s:Shared)(σ:St)(H:Hp)(xs:List V)(us:List Value)(Q:VK),Inv X pins σ H s->Vals xs us->r xs H Q ->
  wpAny (model X.prog X.w) X.A (call f us) (EP X pins σ Q) X.xe s
def TruR (X:Cx)(r:V->Hp->(Bool->Hp->Prop)->Prop):Prop :=
 ∀(pins:List (Addr×Obj))(s:Shared)(σ:St)(H:Hp)(x:V)(v:Value)(Q:Bool->Hp->Prop),Inv X pins σ H s->RelV x v->r x H Q ->
  wpAny (model X.prog X.w) X.A (truthy v) (TP X pins σ Q) X.xe s
def Ev (r:R2)(ta tb:TE):TE:=λσ H Q=>ta σ H λx H1=>tb σ H1 λy H2=>r x y H2 Q
def tUn (r:V->Hp->VK->Prop)(ta:TE):TE:=λσ H Q=>ta σ H λx H1=>r x H1 Q
def rI (C:Int->Int->Prop)(g:Int->Int->V):R2:=λx y H Q=>eX2 λi j=>x=.int i/\y=.int j/\C i j/\Q (g i j) H
def Fs (g:Int->Int->V):R2:=λx y H Q=>eX2 λi j=>x=.int i/\y=.int j/\Q (g i j) H
def rU (g:Int->V):V->Hp->VK->Prop:=λx H Q=>∃i,x=.int i/\Q (g i) H
section
variable {X:Cx}{a b c:Expr}{ta tb tc:TE}{pos:Pos}
theorem Zbo (ha:PE X a ta)(hb:PE X b tb){pins:List (Addr×Obj)}{s:Shared}{σ:St}{H:Hp}{R:V->V->Hp->Prop}(I:Inv X pins σ H s)
  (h:ta σ H λx H1=>tb σ H1 λy H2=>R x y H2) {Q:Value->Shared->Prop} {f:Value->Value->Sem Value}
  (hf:∀v u s2 x y H2,Inv X pins σ H2 s2->RelV x v->RelV y u->R x y H2->wpAny (model X.prog X.w) X.A (f v u) Q X.xe s2) :
  wpAny (model X.prog X.w) X.A (eval a X.env) (λv s₁=>wpAny (model X.prog X.w) X.A (eval b X.env) (λu s₂=>wpAny (model X.prog X.w) X.A (f v u) Q X.xe s₂) X.xe s₁) X.xe s:=by
 refine As (ha pins s σ H _ I h) λv s1 O=>?_;obtain⟨x,H1,Z,r1,q1⟩:=O;refine As (hb pins s1 σ H1 _ Z q1) λu s2 O=>?_;obtain⟨y,H2,Y,r2,U⟩:=O;exact hf v u s2 x y H2 Y r1 r2 U
theorem opI {f:Value->Value->Sem Value}{C:Int->Int->Prop}{g:Int->Int->Int}
  (rule:∀(i j:Int)(t u:Tok)(s:Shared)(Q:Value->Shared->Prop)(E:Value->Shared->Prop),C i j->Q (.int (g i j) s.toks) { s with toks:=s.toks+1 }->wpAny (model X.prog X.w) X.A (f (.int i t) (.int j u)) Q E s) :
  OpR X f (rI C λi j=>.int (g i j)):=by
 intro pins s σ H x y v u Q I Y U h;obtain⟨i,j,rfl,rfl,O,q⟩:=h;obtain⟨t,rfl⟩:=Y;obtain⟨t',rfl⟩:=U;exact rule i j t t' s _ _ O ⟨.int (g i j),H,I.tok _,⟨_,rfl⟩,q⟩
theorem opI0 {f:Value->Value->Sem Value}{g:Int->Int->Int}
  (rule:∀(i j:Int)(t u:Tok)(s:Shared)(Q:Value->Shared->Prop)(E:Value->Shared->Prop),Q (.int (g i j) s.toks) { s with toks:=s.toks+1 }->wpAny (model X.prog X.w) X.A (f (.int i t) (.int j u)) Q E s) :
  OpR X f (Fs λi j=>.int (g i j)):=by
 intro pins s σ H x y v u Q I U O h;obtain⟨i,j,rfl,rfl,q⟩:=h;obtain⟨t,rfl⟩:=U;obtain⟨t',rfl⟩:=O;exact rule i j t t' s _ _ ⟨.int (g i j),H,I.tok _,⟨_,rfl⟩,q⟩
theorem Zby {f:Value->Value->Sem Value}{g:Int->Int->Bool}
  (rule:∀(i j:Int)(t u:Tok)(s:Shared)(Q:Value->Shared->Prop)(E:Value->Shared->Prop),Q (.bool (g i j)) s->wpAny (model X.prog X.w) X.A (f (.int i t) (.int j u)) Q E s) :
  OpR X f (Fs λi j=>.bl (g i j)):=by
 intro pins s σ H x y v u Q I U O h;obtain⟨i,j,rfl,rfl,q⟩:=h;obtain⟨t,rfl⟩:=U;obtain⟨t',rfl⟩:=O;exact rule i j t t' s _ _ ⟨.bl (g i j),H,I,rfl,q⟩
def CDiv (i j:Int):Prop:=0<j/\j<1073741824
def CPow (i j:Int):Prop:=0<=j/\j<=1000000/\i.natAbs<2 ^ 64
def CMul (i j:Int):Prop:=(-(2 ^ 64)<i/\i<2 ^ 64)\/(-(2 ^ 64)<j/\j<2 ^ 64)
theorem CMul.ok (h:CMul i j):IntMulOk i j:=by
 rcases h with⟨h1,h2⟩|⟨h1,h2⟩
 ·exact .of_left (intBits_le_64 h1 h2)
 ·exact .of_right (intBits_le_64 h1 h2)
theorem op_add:OpR X (binaryOp .Add) (Fs λi j=>.int (i+j)):=opI0 λ_ _ _ _ _ _ _ q=>add_int q
theorem D9:OpR X (binaryOp .Sub) (Fs λi j=>.int (i-j)):=opI0 λ_ _ _ _ _ _ _ q=>sub_int q
theorem op_mul:OpR X (binaryOp .Mult) (rI CMul λi j=>.int (i*j)):=opI λ_ _ _ _ _ _ _ I q=>mul_int q I.ok
theorem Cc:OpR X (binaryOp .FloorDiv) (rI CDiv λi j=>.int (i / j)):=opI λi j _ _ _ _ _ I q=>by
 have h1:(0:Int)<j:=I.1;have h2:j<1073741824:=I.2;exact floordiv_int (by lia) (by rw[Int.fdiv_eq_ediv_of_nonneg i (by lia)];exact q) (.inl (PyProof.noPylong_small (by lia)))
theorem Bd:OpR X (binaryOp .Mod) (rI (λ_ j=>0<j) λi j=>.int (i % j)):=opI λi j _ _ _ _ _ I q=>by
 have h1:(0:Int)<j:=I;exact mod_int' (by lia) (by rw[Int.fmod_eq_emod_of_nonneg i (by lia)];exact q)
theorem Ka:OpR X (binaryOp .Pow) (rI CPow λi j=>.int (i ^ j.toNat)):=opI λ_ _ _ _ _ _ _ I q=>pow_int_small I.1 I.2.1 I.2.2 q
theorem unI {f:Value->Sem Value}{g:Int->Int}
  (rule:∀(i:Int)(t:Tok)(s:Shared)(Q:Value->Shared->Prop)(E:Value->Shared->Prop),Q (.int (g i) s.toks) { s with toks:=s.toks+1 }->wpAny (model X.prog X.w) X.A (f (.int i t)) Q E s) :
  UnR X f (rU λi=>.int (g i)):=by
 intro pins s σ H x v Q I O h;obtain⟨i,rfl,q⟩:=h;obtain⟨t,rfl⟩:=O;exact rule i t s _ _ ⟨.int (g i),H,I.tok _,⟨_,rfl⟩,q⟩
theorem Ir:UnR X (unaryOp .USub) (rU λi=>.int (-i)):=unI λ_ _ _ _ _ q=>neg_int q
end
noncomputable def Zbc:V->V->Bool
 |.non,.non=>true|.non,.int _=>true|.int _,.non=>true|.non,.bl _=>true|.bl _,.non=>true|.non,.str _=>true|.str _,.non=>true
 |.int _,.int _=>true|.bl _,.bl _=>true|.str _,.str _=>true|.byt _,.byt _=>true
 |.int _,.str _=>true|.str _,.int _=>true|.bl _,.str _=>true|.str _,.bl _=>true
 |_,_=>false
def rEq:R2:=λx y H Q=>Zbc x y=true/\Q (.bl (decide (x=y))) H
def rNe:R2:=λx y H Q=>Zbc x y=true/\Q (.bl (!decide (x=y))) H
theorem Zjd:decide (V.int i=V.int j)=(i == j):=by
 rw[Ui];simp
theorem Zim:decide (V.bl i=V.bl j)=(i == j):=by
 rw[Ui];simp
theorem Bq:decide (V.str i=V.str j)=(i == j):=by
 rw[Ui];simp
theorem Zhe:decide (V.byt i=V.byt j)=(i.toList == j.toList):=by
 rw[Ui];cases i;cases j;simp
section
variable {X:Cx}{a b c:Expr}{ta tb tc:TE}{pos:Pos}
theorem B2 (I:Inv X pins σ H s)(q:Q (.bl k) H)(e:k=k'):EP X pins σ Q (.bool k') s:=by
 subst e;exact⟨.bl k,H,I,rfl,q⟩
theorem op_eq:OpR X (compareOp .Eq) rEq:=by
 intro pins s σ H x y v u Q I Y O h;obtain⟨U,q⟩:=h;cases x with
 |non =>
  cases Y;cases y with
  |non=>cases O;exact PySem.EqNone.eq_none_none (B2 I q (by simp))
  |bl j=>cases O;exact PySem.EqNone.eq_none_bool (B2 I q (by simp))
  |int j=>obtain⟨t',rfl⟩:=O;exact PySem.EqNone.eq_none_int (B2 I q (by simp))
  |str j=>obtain⟨t',rfl⟩:=O;exact PySem.EqNone.eq_none_str (B2 I q (by simp))
  |_=>exact absurd (show false=true from U) Pt
 |bl i =>
  cases Y;cases y with
  |non=>cases O;exact PySem.EqNone.eq_bool_none (B2 I q (by simp))
  |bl j=>cases O;exact eq_bool (B2 I q Zim)
  |str j=>obtain⟨t',rfl⟩:=O;exact PySem.EqMixed.eq_bool_str (B2 I q (by simp))
  |_=>exact absurd (show false=true from U) Pt
 |int i =>
  obtain⟨t,rfl⟩:=Y;cases y with
  |non=>cases O;exact PySem.EqNone.eq_int_none (B2 I q (by simp))
  |int j=>obtain⟨t',rfl⟩:=O;exact eq_int (B2 I q Zjd)
  |str j=>obtain⟨t',rfl⟩:=O;exact PySem.EqMixed.eq_int_str (B2 I q (by simp))
  |_=>exact absurd (show false=true from U) Pt
 |str i =>
  obtain⟨t,rfl⟩:=Y;cases y with
  |non=>cases O;exact PySem.EqNone.eq_str_none (B2 I q (by simp))
  |bl j=>cases O;exact PySem.EqMixed.eq_str_bool (B2 I q (by simp))
  |int j=>obtain⟨t',rfl⟩:=O;exact PySem.EqMixed.eq_str_int (B2 I q (by simp))
  |str j=>obtain⟨t',rfl⟩:=O;exact eq_str (B2 I q Bq)
  |_=>exact absurd (show false=true from U) Pt
 |byt i =>
  obtain⟨t,rfl⟩:=Y;cases y with
  |byt j=>obtain⟨t',rfl⟩:=O;exact PySem.W.eq_bytes (B2 I q Zhe)
  |_=>exact absurd (show false=true from U) Pt
 |_=>cases y <;> exact absurd (show false=true from U) Pt
theorem op_ne:OpR X (compareOp .NotEq) rNe:=by
 intro pins s σ H x y v u Q I Y O h;obtain⟨U,q⟩:=h;cases x with
 |non =>
  cases Y;cases y with
  |non=>cases O;exact PySem.EqNone.ne_none_none (B2 I q (by simp))
  |bl j=>cases O;exact PySem.EqNone.ne_none_bool (B2 I q (by simp))
  |int j=>obtain⟨t',rfl⟩:=O;exact PySem.EqNone.ne_none_int (B2 I q (by simp))
  |str j=>obtain⟨t',rfl⟩:=O;exact PySem.EqNone.ne_none_str (B2 I q (by simp))
  |_=>exact absurd (show false=true from U) Pt
 |bl i =>
  cases Y;cases y with
  |non=>cases O;exact PySem.EqNone.ne_bool_none (B2 I q (by simp))
  |bl j=>cases O;exact ne_bool (B2 I q (congrArg not Zim))
  |str j=>obtain⟨t',rfl⟩:=O;exact PySem.EqMixed.ne_bool_str (B2 I q (by simp))
  |_=>exact absurd (show false=true from U) Pt
 |int i =>
  obtain⟨t,rfl⟩:=Y;cases y with
  |non=>cases O;exact PySem.EqNone.ne_int_none (B2 I q (by simp))
  |int j=>obtain⟨t',rfl⟩:=O;exact ne_int (B2 I q (congrArg not Zjd))
  |str j=>obtain⟨t',rfl⟩:=O;exact PySem.EqMixed.ne_int_str (B2 I q (by simp))
  |_=>exact absurd (show false=true from U) Pt
 |str i =>
  obtain⟨t,rfl⟩:=Y;cases y with
  |non=>cases O;exact PySem.EqNone.ne_str_none (B2 I q (by simp))
  |bl j=>cases O;exact PySem.EqMixed.ne_str_bool (B2 I q (by simp))
  |int j=>obtain⟨t',rfl⟩:=O;exact PySem.EqMixed.ne_str_int (B2 I q (by simp))
  |str j=>obtain⟨t',rfl⟩:=O;exact ne_str (B2 I q (congrArg not Bq))
  |_=>exact absurd (show false=true from U) Pt
 |byt i =>
  obtain⟨t,rfl⟩:=Y;cases y with
  |byt j=>obtain⟨t',rfl⟩:=O;exact PySem.W.ne_bytes (B2 I q (congrArg not Zhe))
  |_=>exact absurd (show false=true from U) Pt
 |_=>cases y <;> exact absurd (show false=true from U) Pt
theorem op_lt:OpR X (compareOp .Lt) (Fs λi j=>.bl (decide (i<j))):=Zby λ_ _ _ _ _ _ _ q=>lt_int q
theorem op_le:OpR X (compareOp .LtE) (Fs λi j=>.bl (decide (i<=j))):=Zby λ_ _ _ _ _ _ _ q=>le_int q
theorem Hd:OpR X (compareOp .Gt) (Fs λi j=>.bl (decide (j<i))):=Zby λ_ _ _ _ _ _ _ q=>gt_int q
theorem Zp9:OpR X (compareOp .Lt) (λx y H Q=>eX2 λi j=>x=.str i/\y=.str j/\Q (.bl (decide (i.cps.toList<j.cps.toList))) H):=by
 intro pins s σ H x y v u Q I U O h;obtain⟨i,j,rfl,rfl,q⟩:=h;obtain⟨t,rfl⟩:=U;obtain⟨t',rfl⟩:=O;exact lt_str (B2 I q rfl)
theorem Zpq:OpR X (compareOp .In) (λx y H Q=>eX2 λi j=>x=.str i/\y=.str j/\Q (.bl (!(Builtin.Str.occurrences j i 0 j.length 1).isEmpty)) H):=by
 intro pins s σ H x y v u Q I U O h;obtain⟨i,j,rfl,rfl,q⟩:=h;obtain⟨t,rfl⟩:=U;obtain⟨t',rfl⟩:=O;exact in_str (B2 I q rfl)
theorem Zsu:OpR X (compareOp .NotIn) (λx y H Q=>eX2 λi j=>x=.str i/\y=.str j/\Q (.bl (!(!(Builtin.Str.occurrences j i 0 j.length 1).isEmpty))) H):=by
 intro pins s σ H x y v u Q I U O h;obtain⟨i,j,rfl,rfl,q⟩:=h;obtain⟨t,rfl⟩:=U;obtain⟨t',rfl⟩:=O;exact notIn_str (B2 I q rfl)
theorem OpR.or (h:OpR X f r)(h':OpR X f r'):OpR X f (λx y H Q=>r x y H Q\/r' x y H Q):=by
 intro pins s σ H x y v u Q I O U q;rcases q with q|q
 ·exact h pins s σ H x y v u Q I O U q
 ·exact h' pins s σ H x y v u Q I O U q
theorem Ly (b:Expr)(h:autoParam (op≠.In) zW)(h2:autoParam (op≠.NotIn) zW):behindInMarks op b=false:=by
 have I:(op == CmpOp.In)=false:=by cases op <;> first|rfl|exact absurd rfl h
 have O:(op == CmpOp.NotIn)=false:=by cases op <;> first|rfl|exact absurd rfl h2
 cases b <;> simp[behindInMarks,I,O]
def My (t:TE):TT:=λσ H Q=>t σ H λx H'=>∃k,x=.bl k/\Q k H'
def Zdy (r r':R2)(ta tb tc:TE):TE:=λσ H Q=>ta σ H λx H1=>tb σ H1 λy H2=>r x y H2 λz I=>∃k,z=.bl k /\
 (if k=true then tc σ I λU O=>r' y U O Q else Q (.bl false) I)
def Nk (K:Ph)(x:V)(H:Hp)(k:Bool):Prop :=
 match x with
 |.non=>k=false
 |.bl b=>k=b
 |.int i=>k=(i != 0)
 |.str y=>y.length<=sizeLine/\k=((y.length:Int) != 0)
 |.byt y=>y.size<=sizeLine/\k=((y.size:Int) != 0)
 |.ref p=>(∃xs,SqL K H p xs/\k=!xs.isEmpty)\/(∃xs,SqT K H p xs/\k=!xs.isEmpty)\/∃kvs,H p=some (.dK kvs)/\k=!kvs.isEmpty
 |_=>False
theorem Zva {κ:Type}{kvs:List (κ×V)}{vs:List (κ×Value)}(r:KV kvs vs):(!vs.isEmpty)=!kvs.isEmpty:=by
 cases r <;> rfl
theorem Zf4 (r:Vals xs its):(!its.toArray.isEmpty)=!xs.isEmpty:=by
 cases r <;> simp
theorem La:(sizeLine:Nat)<2 ^ 63:=by rw[V5];decide
theorem Zt0:TruR X (λx H Q=>∃k,Nk X.K x H k/\Q k H):=by
 intro pins s σ H x v Q I Y h;obtain⟨k,e,q⟩:=h;have hl:=La;have hs:sizeLine=16777216:=V5;cases x with
 |non =>
  cases Y;have O:k=false:=e;subst O;exact truthy_none ⟨H,I,q⟩
 |bl b =>
  cases Y;have O:k=b:=e;subst O;exact Ru ⟨H,I,q⟩
 |int i =>
  obtain⟨t,rfl⟩:=Y;have O:k=(i != 0):=e;subst O;exact PySem.P.truthy_int ⟨H,I,q⟩
 |str y =>
  obtain⟨t,rfl⟩:=Y;obtain⟨hy,O⟩:y.length<=sizeLine/\k=((y.length:Int) != 0):=e;subst O;exact PySem.P.truthy_str (by lia) ⟨H,I.tok _,q⟩
 |byt y =>
  obtain⟨t,rfl⟩:=Y;obtain⟨hy,O⟩:y.size<=sizeLine/\k=((y.size:Int) != 0):=e;subst O;exact PySem.W.truthy_bytes (by lia) ⟨H,I.tok _,q⟩
 |ref p =>
  cases Y;have O:(∃xs,SqL X.K H p xs/\k=!xs.isEmpty)\/(∃xs,SqT X.K H p xs/\k=!xs.isEmpty)\/∃kvs,H p=some (.dK kvs)/\k=!kvs.isEmpty:=e;rcases O with⟨xs,Z,O⟩|⟨xs,Z,O⟩|⟨kvs,Z,O⟩
  ·subst O;obtain⟨aa,r,pl,hz⟩:=I.list Z;have U:=r.length;exact wpAny_truthy_list pl.isList (by simp only[Pm];lia) ⟨H,I.tok _,by rw[Zf4 r];exact q⟩
  ·subst O;obtain⟨aa,r,pl,hz⟩:=I.tuple Z;have U:=r.length;exact truthy_tuple pl (by simp only[Pm];lia) ⟨H,I.tok _,by rw[Zf4 r];exact q⟩
  ·subst O;obtain⟨hz,hS,vs,r,m⟩:kvs.length<=sizeLine/\(p == sysModules)=false/\∃vs,KV kvs vs/\s.heap.DictOf (Et X.prog X.w) p vs:=I.hok p _ Z;have U:kvs.length=vs.length:=Vx r;exact wpAny_truthy_dict hS m (by lia) ⟨H,I.tok _,by rw[Zva r];exact q⟩
 |_=>exact(show False from e).elim
theorem Zl9 (ha:PE X a ta)(he:∀whole,isTrue a X.env whole=(do let v <- whole;standAt a.pos;holding [v] (truthy v))) :
  PT X a (λσ H Q=>ta σ H λx H'=>∃k,Nk X.K x H' k/\Q k H'):=by
 intro pins s σ H Q I h;exact isTrue_plain (As (ha pins s σ H _ I h) λv Z ⟨x,H1,O,U,Y⟩=>Zt0 pins Z σ H1 x v Q O U Y) (he _)
theorem op_add_str:OpR X (binaryOp .Add) (λx y H Q=>eX2 λi j=>x=.str i/\y=.str j/\i.length+j.length<=sizeLine/\Q (.str (i++j)) H):=by
 intro pins s σ H x y v u Q I U O h;obtain⟨i,j,rfl,rfl,Y,q⟩:=h;obtain⟨t,rfl⟩:=U;obtain⟨t',rfl⟩:=O;exact add_str (λt' tk=>⟨.str (i++j),H,I.tok _,⟨_,rfl⟩,q⟩) Y
theorem Jl (r:Vals [x] us):∃u,us=[u]/\RelV x u:=by
 cases r with
 |cons O I=>cases I;exact⟨_,rfl,O⟩
theorem Zi6 (r:Vals [x,y] us):eX2 λu w'=>us=[u,w']/\RelV x u/\RelV y w':=by
 cases r with
 |cons Y I =>
  cases I with
  |cons O U=>cases U;exact⟨_,_,rfl,Y,O⟩
theorem Zr7 (hc:X.calm=true):Cz X (.builtin "max") (λxs H Q=>eX2 λi j=>xs=[.int i,.int j]/\Q (.int (if j > i then j else i)) H):=by
 intro pins s σ H xs Y Q I r h;obtain⟨i,j,rfl,q⟩:=h;obtain⟨u,U,rfl,⟨t,rfl⟩,⟨t',rfl⟩⟩:=Zi6 r;refine max_two_ints (I.ok.hd hc) λh' tk k=>⟨_,H,I.kept k,?_,q⟩;by_cases O:j > i
 ·rw[if_pos O,if_pos O];exact⟨_,rfl⟩
 ·rw[if_neg O,if_neg O];exact⟨_,rfl⟩
theorem Zvj (hc:X.calm=true):Cz X (.builtin "min") (λxs H Q=>eX2 λi j=>xs=[.int i,.int j]/\Q (.int (if j<i then j else i)) H):=by
 intro pins s σ H xs Y Q I r h;obtain⟨i,j,rfl,q⟩:=h;obtain⟨u,U,rfl,⟨t,rfl⟩,⟨t',rfl⟩⟩:=Zi6 r;refine min_two_ints (I.ok.hd hc) λh' tk k=>⟨_,H,I.kept k,?_,q⟩;by_cases O:j<i
 ·rw[if_pos O,if_pos O];exact⟨_,rfl⟩
 ·rw[if_neg O,if_neg O];exact⟨_,rfl⟩
theorem Zub:Cz X (.type "int") (λxs H Q=>(∃i,xs=[.int i]/\Q (.int i) H)\/∃k,xs=[.bl k]/\Q (.int (if k then 1 else 0)) H):=by
 intro pins s σ H xs U Q I r h;rcases h with⟨i,rfl,q⟩|⟨k,rfl,q⟩
 ·obtain⟨u,rfl,t,rfl⟩:=Jl r;exact call_int_int ⟨.int i,H,I,⟨_,rfl⟩,q⟩
 ·obtain⟨u,rfl,O⟩:=Jl r;cases O;exact call_int_bool ⟨.int (if k then 1 else 0),H,I.tok _,⟨_,rfl⟩,q⟩
theorem Zti:Cz X (.type "str") (λxs H Q=>∃i,xs=[.int i]/\i.natAbs.log2<1920/\Q (.str (toString i)) H):=by
 intro pins s σ H xs U Q I r h;obtain⟨i,rfl,O,q⟩:=h;obtain⟨u,rfl,t,rfl⟩:=Jl r;exact PySem.P.str_of_int O ⟨.str _,H,I.tok _,⟨_,rfl⟩,q⟩
def LenV (K:Ph)(x:V)(H:Hp)(n:Nat):Prop :=
 match x with
 |.str y=>y.length<=sizeLine/\n=y.length
 |.byt y=>y.size<=sizeLine/\n=y.size
 |.ref p=>(∃xs,SqL K H p xs/\n=xs.length)\/∃xs,SqT K H p xs/\n=xs.length
 |_=>False
theorem Zm9:Cz X (.builtin "len") (λxs H Q=>eX2 λx n=>xs=[x]/\LenV X.K x H n/\Q (.int n) H):=by
 intro pins s σ H xs us Q I r h;obtain⟨x,n,rfl,e,q⟩:=h;obtain⟨u,rfl,rx⟩:=Jl r;have hl:=La;have hs:sizeLine=16777216:=V5;cases x with
 |str y =>
  obtain⟨t,rfl⟩:=rx;obtain⟨hy,U⟩:y.length<=sizeLine/\n=y.length:=e;subst U;exact len_str (by lia) ⟨.int _,H,I.tok _,⟨_,rfl⟩,q⟩
 |byt y =>
  obtain⟨t,rfl⟩:=rx;obtain⟨hy,U⟩:y.size<=sizeLine/\n=y.size:=e;subst U;exact PySem.W.len_bytes (by lia) ⟨.int _,H,I.tok _,⟨_,rfl⟩,q⟩
 |ref p =>
  cases rx;have U:(∃xs,SqL X.K H p xs/\n=xs.length)\/∃xs,SqT X.K H p xs/\n=xs.length:=e;rcases U with⟨xs,hx,U⟩|⟨xs,hx,U⟩
  ·subst U;obtain⟨Z,Y,pl,hz⟩:=I.list hx;have O:=Y.length;exact Calls.call_len_list pl.isList (by simp only[Pm];lia) ⟨.int xs.length,H,I.tok _,⟨_,by simp only[Pm];rw[O]⟩,q⟩
  ·subst U;obtain⟨Z,Y,pl,hz⟩:=I.tuple hx;have O:=Y.length;exact len_tuple pl (by simp only[Pm];lia) ⟨.int xs.length,H,I.tok _,⟨_,by simp only[Pm];rw[O]⟩,q⟩
 |_=>exact(show False from e).elim
end
structure ObjM (h:Heap)(x dx C:Addr)(mA:Str->Option Value):Prop where
 obj:h.get? x=some (Se C dx)
 ns:h.Ns1 dx mA
 ne:dx≠x
theorem Zms {h:Heap}{dx:Addr}{mA:Str->Option Value}(n:h.Ns1 dx mA):∃od,h.get? dx=some od/\∀name,Vv name od=some (mA name):=by
 obtain⟨o,es,ep,O,hd,Y,_,U⟩:=n;refine⟨o,O,λname=>?_⟩;have e:=U name;unfold nsFind findBy at e;rw[<- Array.find?_toList]at e;unfold Vv;rw[hd];dsimp only;split
 ·rename_i y q;rw[q]at e;exact congrArg some e
 ·rename_i q;rw[q]at e;have a:es.toList.any (·.refKey)=false:=by
   rw[List.any_eq_false];intro y Z;obtain⟨z,t,I⟩:=Y y (Array.mem_toList_iff.mp Z);simp[DictEntry.refKey,I]
  have a':¬es.toList.any (·.refKey)=true:=by rw[a];exact Pt
  rw[if_neg a'];exact congrArg some e
theorem ObjM.look (I:ObjM h x dx C mA):∃od,PySem.W.InstAt h x (Se C dx) C (some od)/\∀name,Vv name od=some (mA name) :=
 let ⟨od,ho,hl⟩:=Zms I.ns
 ⟨od,⟨I.obj,rfl,rfl,ho⟩,hl⟩
section
variable {prog:Program}{w:World}{A:Around}{E:Value->Shared->Prop}{s:Shared}{K:Ph}{x dx C f:Addr}{mA:Str->Option Value}{name:Str}{v:Value}
theorem Znr (X:K.In s.heap)(I:ObjM s.heap x dx C mA)(hg:Ug K C name=true)(hh:Vg K C=true)(ha:Qm K (.ref C) name=some none)(hv:mA name=some v)(hv':PySem.W.handedIn v=true)(h:Q v { s with toks:=s.toks+1 }) :
  wpAny (model prog w) A (getAttr (.ref x) name expr) Q E s:=by
 obtain⟨od,J,hl⟩:=I.look;exact PySem.W.get_value X J (Wk hg).1 (PySem.W.findObj_own hh ha rfl (by rw[hl,hv])) hv' h
theorem Zm0 (X:K.In s.heap)(I:ObjM s.heap x dx C mA)(hg:Ug K C name=true)(hf:Qm K (.ref C) name=some (some (.ref f)))(ht:V2 K (.ref f)=true)(hv:mA name=none)(h:Q (.ref f,[.ref x]) s) :
  wpAny (model prog w) A (getMethod (.ref x) name pl) Q E s:=by
 obtain⟨od,J,hl⟩:=I.look;exact PySem.W.method_fn X J (Wk hg).1 (Wk hg).2 hf (beq_iff_eq.mp ht) (by show(Vv name od).map (·.isSome)=some false;rw[hl,hv];rfl) h
theorem Zq2 (X:K.In s.heap)(I:ObjM s.heap x dx C mA)(hs:Qm K (.ref C) "__setattr__"=some (some (.builtin "object.__setattr__")))(hp:Wp K C=true)(ht:Wy K C name=some none)(hh:Vg K C=true)(hw:V1 mA ns)(hsz:ns.length<=sizeLine)(h:∀h',ObjM h' x dx C (λy=>if y=name then some v else mA y)->P4 dx s.heap h'->Q () { s with heap:=h',toks:=s.toks+2 }) :
  wpAny (model prog w) A (setAttr (.ref x) name v) Q E s:=by
 obtain⟨od,J,hl⟩:=I.look;refine PySem.W.set_plain X J hs (PySem.W.osa_open (s:={ s with toks:=s.toks+1 }) (r:=none) X J hp ht λb=>?_);obtain⟨cd,hc,aa⟩:=PySem.W.any_some hh;have hx:s.heap.get? x=some ⟨.ref C,some dx,.plain,#[]⟩:=I.obj;refine Pi (Pk (Pi (Pi (wpAny_loadPart hx (Pi (Uo.here (s:={ s with toks:=s.toks+1 }) (PySem.W.looks_clsIn X hc) ?_))))));rw[aa];refine Pk (a:=some dx) (Pi (Pk (Pi ?_)));refine wpAny_nsSet1 (s:={ s with toks:=s.toks+1 }) I.ns λh' O U=>?_;obtain⟨oD,ad,ae,Y,ac,Z⟩:=O.count (V1.cons name v hw);refine Pi (wpAny_lookBehind Y (by rw[ac];exact pastItsLine_dict (Qb Z (by rw[Qa];lia))) ?_);exact Pk (h _ ⟨(U.2 _ (Pw I.ne)).trans I.obj,O,I.ne⟩ U)
theorem Zua (X:K.In s.heap)(hm:Wz K C=true)(hi:Qm K (.ref C) "__init__"=some (some (.ref f)))(hf:PySem.W.typeIn K (.ref f)=some (.type "function"))(h:codeAny (model prog w) (A.under (.builtin "type.__call__" ⟨.ref C::vs,kw⟩)) (.call (.ref f) ⟨.ref (s.heap.objs.size+1)::vs,kw⟩) (PySem.W.InitBack (s.heap.objs.size+1) R)
   { s with heap:=(s.heap.push Rv).push (Se C s.heap.objs.size) }) :
  codeAny (model prog w) A (.call (.ref C) ⟨vs,kw⟩) R s:=by
 obtain⟨I,g,d,t,os⟩:=s;exact PySem.W.make_core (PySem.W.makes_of X hm) (PySem.W.looks_findIn X hi) (λself=>PySem.W.bind_fn X self hf) (.inl rfl) h
end
noncomputable def Am (f:Str)(v:V):List (Str×V)->List (Str×V)
 |[]=>[(f,v)]
 | (g,x)::r=>if g=f then (g,v)::r else (g,x)::Am f v r
theorem Zid (f g:Str)(v:V):∀fs:List (Str×V),(Am f v fs).lookup g=if g=f then some v else fs.lookup g
 |[]=>by
  show R3 g [(f,v)]=_;by_cases h:g=f
  ·have hb:(g == f)=true:=beq_iff_eq.mpr h;simp only[R3,hb,if_pos h]
  ·have hb:(g == f)=false:=beq_eq_false_iff_ne.mpr h;simp only[R3,hb,if_neg h]
 | (k,x)::r=>by
  have O:=Zid f g v r;rw[show Am f v ((k,x)::r)=(if k=f then (k,v)::r else (k,x)::Am f v r) from rfl];by_cases I:k=f
  ·rw[if_pos I];by_cases h:g=k
   ·have hb:(g == k)=true:=beq_iff_eq.mpr h;simp only[R3,hb,if_pos (h.trans I)]
   ·have hb:(g == k)=false:=beq_eq_false_iff_ne.mpr h;simp only[R3,hb,if_neg (λe:g=f=>h (e.trans I.symm))]
  ·rw[if_neg I];by_cases h:g=k
   ·have hb:(g == k)=true:=beq_iff_eq.mpr h;simp only[R3,hb,if_neg (λe:g=f=>I (h.symm.trans e))]
   ·have hb:(g == k)=false:=beq_eq_false_iff_ne.mpr h;simp only[R3,hb];exact O
theorem Zdh (f:Str)(v:V):∀fs:List (Str×V),f∈(Am f v fs).map (·.1)/\∀g,g∈fs.map (·.1)->g∈(Am f v fs).map (·.1)
 |[]=>⟨by simp[Am],λg h=>by simp at h⟩
 | (k,x)::r=>by
  obtain⟨i1,i2⟩:=Zdh f v r;rw[show Am f v ((k,x)::r)=(if k=f then (k,v)::r else (k,x)::Am f v r) from rfl];by_cases I:k=f
  ·rw[if_pos I];subst I;exact⟨by simp,λg h=>by simpa using h⟩
  ·rw[if_neg I];refine⟨?_,λg h=>?_⟩
   ·rw[Qq];exact Rt _ i1
   ·rw[Qq]at h ⊢;rcases Pr.mp h with e|e
    ·exact Pr.mpr (.inl e)
    ·exact Rt _ (i2 g e)
theorem Zfs (f:Str)(v:V):∀fs:List (Str×V),(Am f v fs).length<=fs.length+1
 |[]=>by simp[Am]
 | (k,x)::r=>by
  have O:=Zfs f v r;rw[show Am f v ((k,x)::r)=(if k=f then (k,v)::r else (k,x)::Am f v r) from rfl];by_cases I:k=f
  ·rw[if_pos I,Qa,Qa];lia
  ·rw[if_neg I,Qa,Qa];lia
theorem RelO.some_of (r:RelO (some v) o):∃u,o=some u/\RelV v u:=by
 cases o with
 |none=>exact(show False from r).elim
 |some u=>exact⟨u,rfl,r⟩
theorem RelO.none_of (r:RelO none o):o=none:=by
 cases o with
 |none=>rfl
 |some u=>exact(show False from r).elim
theorem Zlx (r:RelV v u):PySem.W.handedIn u=true:=by
 cases v with
 |non=>cases (show u=Value.none from r);rfl
 |bl b=>cases (show u=Value.bool b from r);rfl
 |int i=>obtain⟨t,e⟩:=(show ∃t,u=Value.int i t from r);cases e;rfl
 |str x=>obtain⟨t,e⟩:=(show ∃t,u=Value.str x t from r);cases e;rfl
 |byt b=>obtain⟨t,e⟩:=(show ∃t,u=Value.bytes b t from r);cases e;rfl
 |flt b=>obtain⟨t,e⟩:=(show ∃t,u=Value.float b t from r);cases e;rfl
 |ref a=>cases (show u=Value.ref a from r);rfl
 |ty n=>cases (show u=Value.type n from r);rfl
section
variable {P:Program}{w:World}{H H':Hp}{h h':Heap}{a C dx:Addr}{fs fs':List (Str×V)}
theorem N7 (hok:HOk P w H h)(e:H a=some (.ins C dx fs)):∃mA,ObjM h a dx C mA/\(∀f,RelO (fs.lookup f) (mA f))/\V1 mA (fs.map (·.1))/\fs.length<=1000/\H dx=some (.own a):=by
 obtain⟨d,z,ne,I,mA,n,r,q⟩:=(show ObjOk P w H h a (.ins C dx fs) from hok a _ e);exact⟨mA,⟨I,n,ne⟩,r,q,z,d⟩
end
structure Cls (K:Ph)(C:Addr):Prop where
 pg:Ug K C Str.empty=true
 hd:Vg K C=true
 po:Wp K C=true
 sa:Qm K (.ref C) "__setattr__"=some (some (.builtin "object.__setattr__"))
theorem Cls.get {K:Ph}{C:Addr}(c:Cls K C)(f:Str):Ug K C f=true:=c.pg
def NoAttr (K:Ph)(C:Addr)(f:Str):Prop:=Qm K (.ref C) f=some none
theorem NoAttr.taker {K:Ph}{C:Addr}{f:Str}(n:NoAttr K C f):Wy K C f=some none:=by
 unfold Wy;rw[show Qm K (.ref C) f=some none from n];rfl
structure Meth (K:Ph)(C:Addr)(m:Str)(f:Addr):Prop where
 at_:Qm K (.ref C) m=some (some (.ref f))
 fn:V2 K (.ref f)=true
 kp:Rl K (.ref f)=true
section
variable {X:Cx}{pins:List (Addr×Obj)}{σ:St}{H:Hp}{s:Shared}{a C dx:Addr}{fs:List (Str×V)}{f:Str}{v:V}{A:Around}{E:Value->Shared->Prop}
theorem Zfm (I:Inv X pins σ H s)(e:H a=some (.ins C dx fs))(c:Cls X.K C)(n:NoAttr X.K C f)(l:fs.lookup f=some v)(h:∀u s',Inv X pins σ H s'->RelV v u->Q u s'):wpAny (model X.prog X.w) A (getAttr (.ref a) f b) Q E s:=by
 obtain⟨mA,O,r,_,_,_⟩:=N7 I.hok e;obtain⟨u,Y,U⟩:=RelO.some_of (v:=v) (o:=mA f) (by rw[<- l];exact r f);exact Znr I.kIn O (c.get f) c.hd n Y (Zlx U) (h u _ (I.tok _) U)
theorem Zfr (I:Inv X pins σ H s)(e:H a=some (.ins C dx fs))(c:Cls X.K C)(k:Meth X.K C m g)(l:fs.lookup m=none)(h:Q (.ref g,[.ref a]) s):wpAny (model X.prog X.w) A (getMethod (.ref a) m pl) Q E s:=by
 obtain⟨mA,O,r,_,_,_⟩:=N7 I.hok e;have hn:mA m=none:=RelO.none_of (by rw[<- l];exact r m);exact Zm0 I.kIn O (c.get m) k.at_ k.fn hn h
theorem Zi9 (I:Inv X pins σ H s)(e:H a=some (.ins C dx fs))(c:Cls X.K C)(n:NoAttr X.K C f)(hl:fs.length<1000)(ry:RelV y u)(h:∀s',Inv X pins σ (upd H a (.ins C dx (Am f y fs))) s'->Q () s'):wpAny (model X.prog X.w) A (setAttr (.ref a) f u) Q E s:=by
 obtain⟨mA,O,r,wi,_,Y⟩:=N7 I.hok e;have hz:(fs.map (·.1)).length<=sizeLine:=by rw[Pp,V5];lia
 refine Zq2 I.kIn O c.sa c.po n.taker c.hd wi hz λh' U Z=>h _ ?_;have hd:∃o,h'.get? dx=some o:=let ⟨o,_,_,e',_⟩:=U.ns;⟨o,e'⟩;refine I.write (x:=a) (e:=dx) (by rw[e];exact True.intro) (.inr Y) (λb q hb z=>(Z.2 b hb).trans z) hd ?_;refine⟨by rw[Af O.ne];exact Y,?_,O.ne,U.obj,_,U.ns,λg=>?_,λg hg=>?_⟩
 ·have:=Zfs f y fs;lia
 ·show RelO ((Am f y fs).lookup g) (if g=f then some u else mA g);rw[Zid];by_cases q:g=f
  ·rw[if_pos q,if_pos q];exact ry
  ·rw[if_neg q,if_neg q];exact r g
 ·by_cases q:g=f
  ·rw[q];exact(Zdh f y fs).1
  ·refine(Zdh f y fs).2 g (wi g λz=>hg ?_);show(if g=f then some u else mA g)=none;rw[if_neg q];exact z
theorem Inv.made (I:Inv X pins σ H s):Inv X pins σ (upd (upd H s.heap.objs.size (.own (s.heap.objs.size+1))) (s.heap.objs.size+1) (.ins C s.heap.objs.size []))
  { s with heap:=(s.heap.push Rv).push (Se C s.heap.objs.size) }:=by
 have O:(s.heap.push Rv).get? s.heap.objs.size=some Rv:=P3 s.heap rfl;have e2:((s.heap.push Rv).push (Se C s.heap.objs.size)).get? (s.heap.objs.size+1)=some (Se C s.heap.objs.size):=by
  have:=P3 (s.heap.push Rv) (o:=Se C s.heap.objs.size) rfl;rwa[Qt]at this
 have e3:(s.heap.push Rv).Ns s.heap.objs.size (λ_=>none):=⟨Rv,#[],_,O,rfl,(λe U=>absurd U (by simp)),λ_=>rfl⟩;have Y:=I.laid (a:=s.heap.objs.size) (o:=.own (s.heap.objs.size+1)) (h':=s.heap.push Rv) (t':=s.toks) (λb u q=>Po _ q) (Pl _) ⟨_,O⟩;refine Y.laid (a:=s.heap.objs.size+1) (o:=.ins C s.heap.objs.size []) (t':=s.toks) (λb u q=>Po _ q) (Nat.le_of_eq (Qt _ _)) ?_;have ne:s.heap.objs.size≠s.heap.objs.size+1:=P0 (Vj _);refine⟨by rw[Af ne,Ac],Qn _,ne,e2,λ_=>none,(Heap.Ns1.of_empty e3).at λo q=>Po _ q,λ_=>True.intro,λy Z=>absurd rfl Z⟩
theorem Zmm (hb:attributeBase e f env (eval e env)=eval e env)(h:wpAny (model prog w) A (eval e env) (λo s₁=>wpAny (model prog w) A (getAttr o f true) Q E s₁) E s):wpAny (model prog w) A (eval (.Attribute e f pos) env) Q E s :=
 Attribute_any_ h (by rw[arm_eval_Attribute,hb])
end
def Zek (K:Ph)(ta:TE)(f:Str):TE:=λσ H Q=>ta σ H λx H1=>eX5 λa C dx fs v=>x=.ref a/\H1 a=some (.ins C dx fs)/\Cls K C/\NoAttr K C f/\fs.lookup f=some v/\Q v H1
def Zbe (K:Ph)(ta tv:TE)(f:Str):TS:=λD σ H=>tv σ H λy H1=>ta σ H1 λx H2=>eX4 λa C dx fs=>x=.ref a/\H2 a=some (.ins C dx fs)/\Cls K C/\NoAttr K C f/\fs.length<1000 /\
 D.nx σ (upd H2 a (.ins C dx (Am f y fs)))
def Zcd (X:Cx)(op:Operator)(rd:V->V->Hp->VK->Prop):Prop :=
 ∀(pins:List (Addr×Obj))(s:Shared)(σ:St)(H:Hp)(x y:V)(u v:Value)(Q:VK),Inv X pins σ H s->RelV x u->RelV y v->rd x y H Q->wpAny (model X.prog X.w) X.A (inplaceOp op u v) (EP X pins σ Q) X.xe s
def Zjg (K:Ph)(ta tv:TE)(rd:V->V->Hp->VK->Prop)(f:Str):TS:=λD σ H=>ta σ H λx H1=>eX5 λa C dx fs v=>x=.ref a/\H1 a=some (.ins C dx fs)/\Cls K C/\NoAttr K C f/\fs.lookup f=some v /\
 tv σ H1 λy H2=>rd v y H2 λz I=>eX2 λdx' fs'=>I a=some (.ins C dx' fs')/\fs'.length<1000/\D.nx σ (upd I a (.ins C dx' (Am f z fs')))
section
variable {X:Cx}{o e value:Expr}{f:Str}{pos pos' tpos:Pos}{ta tv:TE}
theorem Zwk (ha:PE X o ta)(hv:PE X value tv)(hop:Zcd X op rd):PS X (.AugAssign (.Attribute o f tpos) op value pos) (Zjg X.K ta tv rd f):=by
 intro pins s σ H D I h;refine wpAny_AugAssign_AttributeAny (As (ha pins s σ H _ I h) λov s1 O=>?_);obtain⟨x,H1,I1,rx,a,C,dx,fs,v,ex,ea,c,n,l,q⟩:=O;subst ex;obtain rfl:ov=Value.ref a:=rx;refine Zfm I1 ea c n l λu s2 I2 ru=>As (hv pins s2 σ H1 _ I2 q) λw3 s3 O=>?_;obtain⟨y,H2,I3,ry,q3⟩:=O;refine As (hop pins s3 σ H2 v y u w3 _ I3 ru ry q3) λw4 s4 O=>?_;obtain⟨z,H3,I4,Y,aa,fs',U,l',q4⟩:=O;exact Zi9 I4 U c n l' Y λs5 Z=>⟨σ,_,Z,q4⟩
def rAdd:V->V->Hp->VK->Prop:=λx y H Q=>eX2 λi j=>x=.int i/\y=.int j/\Q (.int (i+j)) H
theorem Zg5:Zcd X .Add rAdd:=by
 rintro pins s σ H x y u v Q I U O ⟨i,j,rfl,rfl,q⟩;obtain⟨t,rfl⟩:=(show ∃t,u=Value.int i t from U);obtain⟨t',rfl⟩:=(show ∃t',v=Value.int j t' from O);exact PyProof.Rows.iadd_int ⟨.int (i+j),H,I.tok _,⟨_,rfl⟩,q⟩
end
section
variable {X:Cx}{pins:List (Addr×Obj)}{σ:St}{H:Hp}{s:Shared}{A:Around}{E:Value->Shared->Prop}{Q:Value->Shared->Prop}{c:Value}{b:Bool}
inductive E2 (K:Ph)(H:Hp):V->Value->Prop where
 |non:E2 K H .non (.type "NoneType")
 |bl (x:Bool):E2 K H (.bl x) (.type "bool")
 |int (i:Int):E2 K H (.int i) (.type "int")
 |str (x:Str):E2 K H (.str x) (.type "str")
 |flt (x:UInt64):E2 K H (.flt x) (.type "float")
 |lst {a:Addr} {xs:List V} (e:H a=some (.lst xs)):E2 K H (.ref a) (.type "list")
 |frz {a:Addr} {o:Obj} {xs:List V} (e:H a=some (.frz o (.lst xs))):E2 K H (.ref a) (.type "list")
 |tup {a:Addr} {xs:List V} (e:H a=some (.tup xs)):E2 K H (.ref a) (.type "tuple")
 |dK {a:Addr} {kvs:List (Aw×V)} (e:H a=some (.dK kvs)):E2 K H (.ref a) (.type "dict")
 |dT {a:Addr} {kvs:List (List Aw×V)} (e:H a=some (.dT kvs)):E2 K H (.ref a) (.type "dict")
 |ins {a C dx:Addr} {fs:List (Str×V)} (e:H a=some (.ins C dx fs)) (cl:Cls K C) (ha:Qm K (.ref C) "__class__"=some (some (.builtin "object.__class__")))
   (hn:PySem.W.specialIn K (.builtin "object.__class__") "__get__"=some (some (.builtin "getset_descriptor.__get__"))) (htk:PySem.W.takesIn K (.builtin "object.__class__")=some true)
   (hm:PySem.W.mroIn K C (.type "object")=some true):E2 K H (.ref a) (.ref C)
theorem Zn7 (I:Inv X pins σ H s)(rx:RelV x u)(ty:E2 X.K H x t)(e:Rm X.K t c=some b)(h:∀tk,Q (.bool b) { s with toks:=tk }) :
  wpAny (model X.prog X.w) A (call (.builtin "isinstance") [u,c]) Q E s:=by
 cases ty with
 |non=>cases (show u=Value.none from rx);exact Qz PySem.W.kitx_none I.kIn True.intro e (λz=>nomatch z) h
 |bl y=>cases (show u=Value.bool y from rx);exact Qz PySem.W.kitx_bool I.kIn True.intro e (λz=>nomatch z) h
 |int i=>obtain⟨t,q⟩:=(show ∃t,u=Value.int i t from rx);cases q;exact Qz PySem.W.kitx_int I.kIn True.intro e (λz=>nomatch z) h
 |str y=>obtain⟨t,q⟩:=(show ∃t,u=Value.str y t from rx);cases q;exact Qz PySem.W.kitx_str I.kIn True.intro e (λz=>nomatch z) h
 |flt y=>obtain⟨t,q⟩:=(show ∃t,u=Value.float y t from rx);cases q;exact Qz PySem.W.kitx_float I.kIn True.intro e (λz=>nomatch z) h
 | @lst a xs U =>
  cases (show u=Value.ref a from rx);obtain⟨_,_,n,_,h1⟩:=(show ObjOk X.prog X.w H s.heap a (.lst xs) from I.hok a _ U);exact Qz Wq I.kIn ⟨_,h1,rfl⟩ e (λz=>nomatch z) h
 | @frz a ob xs U =>
  cases (show u=Value.ref a from rx);obtain⟨_,_,_,n,_,h1⟩:=(show ObjOk X.prog X.w H s.heap a (.frz ob (.lst xs)) from I.hok a _ U);exact Qz Wq I.kIn ⟨_,h1,rfl⟩ e (λz=>nomatch z) h
 | @tup a xs U =>
  cases (show u=Value.ref a from rx);obtain⟨_,_,_,p⟩:=(show ObjOk X.prog X.w H s.heap a (.tup xs) from I.hok a _ U);obtain⟨o,h1,h2,_⟩:=p;exact Qz PySem.W.kitx_tuple I.kIn ⟨o,h1,h2⟩ e (λz=>nomatch z) h
 | @dK a kvs U =>
  cases (show u=Value.ref a from rx);obtain⟨_,_,vs,_,p⟩:=(show ObjOk X.prog X.w H s.heap a (.dK kvs) from I.hok a _ U);obtain⟨o,es,ep,h1,h2,_⟩:=p;exact Qz PySem.W.kitx_dict I.kIn ⟨o,h1,h2.1⟩ e (λz=>nomatch z) h
 | @dT a kvs U =>
  cases (show u=Value.ref a from rx);obtain⟨_,_,xs,_,o,es,ep,h1,h2,_⟩:=(show ObjOk X.prog X.w H s.heap a (.dT kvs) from I.hok a _ U);exact Qz PySem.W.kitx_dict I.kIn ⟨o,h1,h2.1⟩ e (λz=>nomatch z) h
 | @ins a C dx fs U cl Z hn Y hm =>
  cases (show u=Value.ref a from rx);obtain⟨mA,O,_⟩:=N7 I.hok U;obtain⟨od,J,_⟩:=O.look;exact Qz (PySem.W.kitx_own (cl.get _) cl.hd Z hn Y hm) I.kIn J e (λz=>nomatch z) h
end
structure Room (k:Nat)(A:Around):Prop where
 hd:A.handled=none
 dp:A.depth+3*k+5<recursionLimit
 un:A.units+16*k+200<cLine
theorem Room.mono (r:Room k A)(h:j<=k):Room j A:=⟨r.hd,by have:=r.dp;lia,by have:=r.un;lia⟩
theorem Room.deeper (r:Room (k+1) A)(env:Env):Room k (A.deeper env) :=
 ⟨r.hd,by have:=r.dp;show A.depth+1+3*k+5<_;lia,by have:=r.un;show A.units+3+16*k+200<_;lia⟩
theorem Zs4 {A:Around}{C:Addr}{us:List Value}{kw:List (Str×Value)}:(A.under (.builtin "type.__call__" ⟨.ref C::us,kw⟩)).depth=A.depth+1:=by
 first|rfl|simp[Around.under,Code.weight,Code.isCreation,Code.isGuard,Code.isCaller,Code.frames,Code.isFrame,guardIds]
theorem Zk1 {A:Around}{C:Addr}{us:List Value}{kw:List (Str×Value)}:(A.under (.builtin "type.__call__" ⟨.ref C::us,kw⟩)).units=A.units+1:=by
 first|rfl|simp[Around.under,Code.cUnits,Code.frames,Code.isFrame]
theorem Room.make (r:Room (k+1) A)(C:Addr)(us:List Value)(kw:List (Str×Value)):Room k (A.under (.builtin "type.__call__" ⟨.ref C::us,kw⟩)) :=
 ⟨r.hd,by have:=r.dp;rw[Zs4];lia,by have:=r.un;rw[Zk1];lia⟩
theorem Room.depth (r:Room k A):A.depth<recursionLimit:=by have:=r.dp;lia
def Fo:TA:=λ_ H Q=>Q [] H
def Dr (ta:TE)(tr:TA):TA:=λσ H Q=>ta σ H λx H1=>tr σ H1 λxs H2=>Q (x::xs) H2
section
variable {X:Cx}{e:Expr}{es:List Expr}{te:TE}{t:TA}{pos:Pos}
theorem Zf8:PA X [] Fo:=λ_ _ _ _ H Q I h=>Wr ⟨[],H,I,.nil,h⟩
theorem Zjs (ha:PE X e te)(hr:PA X es t)(hs:autoParam (starEach (e::es) X.env=(false,eval e X.env)::starEach es X.env) zX):PA X (e::es) (Dr te t):=by
 intro pos pins s σ H Q I h;rw[hs];show wpAny _ _ (spliced ((false,eval e X.env)::backTo pos (starEach es X.env))) _ _ s;refine Wm (As (ha pins s σ H _ I h) λu Z U=>?_);obtain⟨x,H1,I1,r1,Y⟩:=U;exact As (hr pos pins Z σ H1 _ I1 Y) λus s2 ⟨xs,H2,O,r2,q2⟩=>⟨x::xs,H2,O,.cons r1 r2,q2⟩
def Zdn (t:TA):TE:=λσ H Q=>t σ H λxs H1=>xs.length<=sizeLine/\∀p,H1 p=none->Q (.ref p) (upd H1 p (.tup xs))
def Zch (t:TA):TE:=λσ H Q=>t σ H λxs H1=>xs.length<=sizeLine/\∀p,H1 p=none->Q (.ref p) (upd H1 p (.lst xs))
end
noncomputable abbrev Sp:=List V->Hp->VK->XK->Prop
noncomputable abbrev C1:=List Env->Hp->Shared->XK->Value->Shared->Prop
structure Env0 (P:Program)(w:World)(K:Ph)(mg:Str->Option Value)(base:Heap)(A:Around)(outer:List Env)(s:Shared)(H:Hp):Prop where
 frames:A.frames=some outer
 mod:Mod K mg base
 bs:∀b o,base.get? b=some o->s.heap.get? b=some o/\H b=none
 bsz:base.objs.size<=s.heap.objs.size
 funs:s.heap.FunFrames base outer
 frf:∀b∈B4 outer,H b=none
 hok:HOk P w H s.heap
 bare:AllBare s.gens
def CE (outer:List Env)(P:Program)(w:World)(H:Hp)(s:Shared)(Q:VK)(u:Value)(s':Shared):Prop :=
 eX2 λv H'=>s'.os=s.os/\AllBare s'.gens/\Un (B4 outer) [] H H' s.heap s'.heap/\HOk P w H' s'.heap/\RelV v u/\Q v H'
def CR (CX:C1)(outer:List Env)(P:Program)(w:World)(H:Hp)(s:Shared)(Q:VK)(E:XK)(r:Result)(s':Shared):Prop :=
 match r with
 |.ok (.ret u)=>CE outer P w H s Q u s'
 |.ok _=>False
 |.error e=>CX outer H s E e s'
structure FnOk (P:Program)(w:World)(K:Ph)(mg:Str->Option Value)(base:Heap)(CX:C1)(k:Nat)(f:Addr)(fd:FuncData)(ps:List Str)(sp:Sp):Prop where
 len:∀vs H Q E,sp vs H Q E->vs.length=ps.length
 run:∀(A:Around)(outer:List Env)(s:Shared)(H:Hp)(args:Args)(us:List Value)(vs:List V)(Q:VK)(E:XK),Room k A->Env0 P w K mg base A outer s H->BindsTo s fd args (ps.zip us)->Vals vs us->sp vs H Q E ->
  codeAny (model P w) A (.call (.ref f) args) (CR CX outer P w H s Q E) s
theorem FnOk.imp {P:Program}{w:World}{K:Ph}{mg:Str->Option Value}{base:Heap}{CX:C1}{k:Nat}{f:Addr}{fd:FuncData}{ps:List Str}{sp sp':Sp}(F:FnOk P w K mg base CX k f fd ps sp)
  (h:∀vs H Q E,sp' vs H Q E->sp vs H Q E):FnOk P w K mg base CX k f fd ps sp' :=
 ⟨λvs H Q E q=>F.len vs H Q E (h _ _ _ _ q),λA outer s H I Y vs Q E hr O hb Z U=>F.run A outer s H I Y vs Q E hr O hb Z (h _ _ _ _ U)⟩
theorem Env0.make {P:Program}{w:World}{K:Ph}{mg:Str->Option Value}{base:Heap}{A:Around}{outer:List Env}{s:Shared}{H:Hp}(e:Env0 P w K mg base A outer s H)(C:Addr)(us:List Value)(kw:List (Str×Value)) :
  Env0 P w K mg base (A.under (.builtin "type.__call__" ⟨.ref C::us,kw⟩)) outer s H:=⟨by first|exact e.frames|(simpa [Around.under,Code.envs,Code.isFrame,pushEnvs] using e.frames),e.mod,e.bs,e.bsz,e.funs,e.frf,e.hok,e.bare⟩
section
variable {X:Cx}{pins:List (Addr×Obj)}{σ:St}{H:Hp}{s s':Shared}
theorem Inv.env0 (I:Inv X pins σ H s):Env0 X.prog X.w X.K X.mg X.base X.A X.stack s H :=
 ⟨I.ok.frames,I.ok.mod,I.bs,Qb I.ok.bsz I.sz,I.stack,I.stkFree,I.hok,I.bare⟩
theorem Inv.after (I:Inv X pins σ H s)(h:CE X.stack X.prog X.w H s Q u s'):EP X pins σ Q u s':=by
 obtain⟨v,H',os,bare,un,hok,r,q⟩:=h;obtain⟨U,g,d,t,O⟩:=s';obtain rfl:O=s.os:=os;exact⟨v,H',I.call (h':=U) (g':=g) (d':=d) (t':=t) (ch:=[]) un hok bare (λb z=>absurd z (by simp)),r,q⟩
end
def Ll (sp:Sp)(dvs:List V)(E:XK)(t:TA):TE:=λσ H Q=>t σ H λvs H1=>sp (vs++dvs) H1 Q E
def Binds (K:Ph)(fd:FuncData)(ps:List Str)(ds:List Value):Prop :=
 ∀(s:Shared)(us:List Value),K.In s.heap->(us++ds).length=ps.length->BindsTo s fd ⟨us,[]⟩ (ps.zip (us++ds))
theorem Binds.all {K:Ph}{fd:FuncData}{ps:List Str}(h:∀us:List Value,us.length=ps.length->bindArgs fd ⟨us,[]⟩=pure (ps.zip us)):Binds K fd ps []:=λs us _ hl=>by
 rw[Q0]at hl ⊢;exact .of_eq (h us hl)
def G6 (CX:C1)(X:Cx)(E:XK):Prop:=∀(pins:List (Addr×Obj))(σ:St)(H:Hp)(s:Shared)(e:Value)(s':Shared),Inv X pins σ H s->CX X.stack H s E e s'->X.xe e s'
section
variable {X:Cx}{CX:C1}{k:Nat}{f C:Addr}{fd:FuncData}{ps:List Str}{sp:Sp}{dvs:List V}{ds:List Value}{E:XK}{x m:Str}{p pos apos:Pos}{e o:Expr}{es:List Expr}{ta:TE}{t:TA}
theorem Zc8 (F:FnOk X.prog X.w X.K X.mg X.base CX k f fd ps sp)(hr:Room k X.A)(hb:Binds X.K fd ps ds)(hd:Vals dvs ds)(hx:G6 CX X E)(I:Inv X pins σ H s)(r:Vals vs us)(h:sp (vs++dvs) H Q E):wpAny (model X.prog X.w) X.A (call (.ref f) us) (EP X pins σ Q) X.xe s:=by
 have U:Vals (vs++dvs) (us++ds):=r.append hd;have hl:(us++ds).length=ps.length:=by rw[<- U.length];exact F.len _ _ _ _ h
 refine wpAny_call (Tq (F.run X.A X.stack s H ⟨us,[]⟩ (us++ds) (vs++dvs) Q E hr I.env0 (hb s us I.kIn hl) U h) λr s' O=>?_);cases r with
 |error e=>exact hx pins σ H s e s' I O
 |ok Y =>
  cases Y with
  |ret u=>exact I.after O
  |next=>exact Qo O
  |brk=>exact Qo O
  |cont=>exact Qo O
theorem Ziw (F:FnOk X.prog X.w X.K X.mg X.base CX k f fd ps sp)(hr:Room k X.A)(hg:Gl X x)(hm:X.mg x=some (.ref f))(hk:Rl X.K (.ref f)=true)(hb:Binds X.K fd ps ds)(hd:Vals dvs ds)(hx:G6 CX X E)
  (ha:PA X (e::es) t) (hdb:autoParam ((x == ("__debug__":Str))=false) zW) (he:autoParam (starEach (e::es) X.env=(false,eval e X.env)::starEach es X.env) zX) (hpl:autoParam ((backTo pos (starEach es X.env)).any (·.1)=false) zX) :
  PE X (.Call (.Name x p) (e::es) [] pos) (Ll sp dvs E t):=by
 intro pins s σ H Q I h;refine Ud (Lc I hg hm ?_ hdb);refine Vd (h₀:=X.base) I.ok.mod.kin hk (As (ha pos pins s σ H _ I h) λY Z U=>?_) he hpl;obtain⟨vs,H1,O,r,q⟩:=U;refine⟨O.kIn,?_⟩;exact Zc8 F hr hb hd hx O r q
structure Mk (K:Ph)(C f:Addr):Prop where
 makes:Wz K C=true
 init:Qm K (.ref C) "__init__"=some (some (.ref f))
 fn:V2 K (.ref f)=true
 kp:Rl K (.ref C)=true
theorem Zll (M:Mk X.K C f)(F:FnOk X.prog X.w X.K X.mg X.base CX k f fd ps sp)(hr:Room (k+1) X.A)(hb:Binds X.K fd ps ds)(hd:Vals dvs ds)(hx:G6 CX X E)(I:Inv X pins σ H s)(r:Vals vs us)(h:∀x dx,H x=none->H dx=none->dx≠x->sp (.ref x::(vs++dvs)) (upd (upd H dx (.own x)) x (.ins C dx [])) (λv H2=>v=.non/\Q (.ref x) H2) E) :
  wpAny (model X.prog X.w) X.A (call (.ref C) us) (EP X pins σ Q) X.xe s:=by
 have Z:=h (s.heap.objs.size+1) s.heap.objs.size (I.hok.fresh (V6 _)) (I.hok.fresh (Pl _)) (P0 (Vj _));have U:=Inv.made (C:=C) I;have Y:Vals (V.ref (s.heap.objs.size+1)::(vs++dvs)) (Value.ref (s.heap.objs.size+1)::(us++ds)):=.cons rfl (r.append hd);have hl:(Value.ref (s.heap.objs.size+1)::us++ds).length=ps.length:=by
  have e:=Y.length;rw[F.len _ _ _ _ Z]at e;exact e.symm
 refine wpAny_call (Zua (f:=f) I.kIn M.makes M.init (beq_iff_eq.mp M.fn) (Tq (F.run _ X.stack _ _ ⟨Value.ref (s.heap.objs.size+1)::us,[]⟩ (Value.ref (s.heap.objs.size+1)::(us++ds)) _ _ E (hr.make C us [])
  (U.env0.make C us []) (hb _ (Value.ref (s.heap.objs.size+1)::us) U.kIn hl) Y Z) λr s' O=>?_))
 cases r with
 |error e=>exact hx pins σ _ _ e s' U O
 |ok fl =>
  cases fl with
  |ret u =>
   obtain⟨v,H',I3,rv,ev,q3⟩:=U.after O;subst ev;exact⟨rv,⟨V.ref (s.heap.objs.size+1),H',I3,rfl,q3⟩⟩
  |next=>exact Qo O
  |brk=>exact Qo O
  |cont=>exact Qo O
end
section
variable {X:Cx}{CX:C1}{k:Nat}{f C:Addr}{fd:FuncData}{ps ks:List Str}{sp:Sp}{E:XK}{x m:Str}{p pos apos kpos:Pos}{e o:Expr}{es:List Expr}{kws:List Keyword}{te ta:TE}{t tk:TA}{nm:Option Str}
variable {g:List Value->List Value->List Value}{gV:List V->List V->List V}
end
structure Bb (N P:List Str)(sc:Scope):Prop where
 kind:sc.kind=.function
 co:sc.isCoroutine=false
 gen:sc.isGenerator=false
 nd:N.Nodup
 pre:N.take P.length=P
 par:∀x∈P,sc.names.lookup x=some .local\/sc.names.lookup x=some .cell
 nofree:∀y∈sc.names,y.2≠.free
theorem Zjm {kindOf:Str->Option NameKind}{x:Str}:∀{binds:List (Str×Value)}{m:Str->Option Value},(∀v,(x,v) ∉ binds)->bindL kindOf binds m x=m x
 |[],_,_=>rfl
 | (n,v)::r,m,h=>by
  unfold bindL;rw[Zjm λw I=>h w (Rt _ I)];split
  ·have:x≠n:=by rintro rfl;exact h v Uc
   simp[this]
  ·rfl
theorem Zfh {kindOf:Str->Option NameKind}{x:Str}:∀{binds:List (Str×Value)}{m:Str->Option Value},(∀v,(x,v) ∉ binds)->bindC kindOf binds m x=m x
 |[],_,_=>rfl
 | (n,v)::r,m,h=>by
  unfold bindC;rw[Zfh λw I=>h w (Rt _ I)];split
  ·rfl
  ·have:x≠n:=by rintro rfl;exact h v Uc
   simp[this]
theorem Zii {kindOf:Str->Option NameKind}{x:Str}{v:Value}:∀{P:List Str}{vs:List Value}{i:Nat}{m:Str->Option Value},P.Nodup->P[i]?=some x->vs[i]?=some v->kindOf x=some .local ->
  bindL kindOf (P.zip vs) m x=some v
 |[],_,_,_,_,h,_,_=>by simp at h
 |_::_,[],_,_,_,_,h,_=>by simp at h
 |p::P,w::vs,0,m,nd,h1,h2,I=>by
  simp at h1 h2;subst h1;subst h2;show bindL kindOf ((p,w)::P.zip vs) m p=_;unfold bindL;rw[Zjm λv O=>(Vo.mp nd).1 (Vp O).1,if_pos I];simp
 |p::P,w::vs,i+1,m,nd,h1,h2,I=>by
  show bindL kindOf ((p,w)::P.zip vs) m x=_;unfold bindL;exact Zii (i:=i) (Vo.mp nd).2 (by simpa using h1) (by simpa using h2) I
theorem Zj1 {kindOf:Str->Option NameKind}{x:Str}{v:Value}:∀{P:List Str}{vs:List Value}{i:Nat}{m:Str->Option Value},P.Nodup->P[i]?=some x->vs[i]?=some v->kindOf x≠some .local ->
  bindC kindOf (P.zip vs) m x=some v
 |[],_,_,_,_,h,_,_=>by simp at h
 |_::_,[],_,_,_,_,h,_=>by simp at h
 |p::P,w::vs,0,m,nd,h1,h2,I=>by
  simp at h1 h2;subst h1;subst h2;show bindC kindOf ((p,w)::P.zip vs) m p=_;unfold bindC;rw[Zfh λv O=>(Vo.mp nd).1 (Vp O).1,if_neg I];simp
 |p::P,w::vs,i+1,m,nd,h1,h2,I=>by
  show bindC kindOf ((p,w)::P.zip vs) m x=_;unfold bindC;exact Zj1 (i:=i) (Vo.mp nd).2 (by simpa using h1) (by simpa using h2) I
noncomputable def Gq (N:List Str)(vs:List V):St:=vs.map some++Qu (N.length-vs.length) none
noncomputable def Fh (CX:C1)(P:Program)(w:World)(K:Ph)(mg:Str->Option Value)(base:Heap)(N:List Str)(qual:Str)(scope:Scope)(f:Addr)(cd:Value)(A:Around)(outer:List Env)(s:Shared)(H:Hp)(E:XK):Cx where
 prog:=P
 w:=w
 K:=K
 mg:=mg
 base:=base
 A:=A.deeper (envOfC qual scope s.heap.objs.size f cd)
 N:=N
 s₀:=s
 H₀:=H
 env:=envOfC qual scope s.heap.objs.size f cd
 outer:=outer
 stack:=envOfC qual scope s.heap.objs.size f cd::outer
 ex:=[]
 calm:=true
 fn:=λ_=>true
 pn:=[]
 xe:=λe s'=>wpAny (model P w) (A.deeper (envOfC qual scope s.heap.objs.size f cd)) (leaving (envOfC qual scope s.heap.objs.size f cd) e) (λ_ I=>CX outer H s E e I) (λO I=>CX outer H s E O I) s'
theorem Zdk {sc:Scope}{n:Nat}{x:Str}(h:sc.names.lookup x=some .cell):∃c,(cellsFrom n sc.names []).lookup x=some c:=by
 have q:=PySem.W.cellsFrom_some sc.names n [] (.inl h);exact R6.mp q
theorem Zol {CX:C1}{P:Program}{w:World}{K:Ph}{mg:Str->Option Value}{base:Heap}{N ps:List Str}{qual:Str}{scope:Scope}{f:Addr}{cd:Value}{A:Around}{outer:List Env}{s s1:Shared}{H:Hp}{E:XK}{us:List Value}{vs:List V}
  (S:Bb N ps scope) (hd:A.handled=none) (e0:Env0 P w K mg base A outer s H) (hl:vs.length=ps.length) (r:Vals vs us)
  (x:InCallC s s.heap.objs.size (bindL (envOfC qual scope s.heap.objs.size f cd).kindOf (ps.zip us) λ_=>none) (cellsFrom (s.heap.objs.size+1) scope.names []) (bindC (envOfC qual scope s.heap.objs.size f cd).kindOf (ps.zip us) λ_=>none) s1) :
  Inv (Fh CX P w K mg base N qual scope f cd A outer s H E) [] (Gq N vs) H s1:=by
 have aa:ps.length<=N.length:=by have:=congrArg Sx S.pre;rw[Qp]at this;lia
 obtain⟨h1,tk,rfl,Z⟩:=x.done;have O:∀b:Addr,b ∉ (Fh CX P w K mg base N qual scope f cd A outer s H E).ex:=λb z=>absurd (show b∈([]:List Addr) from z) (by simp);refine⟨⟨e0.mod,S.kind,rfl,rfl,Pl _,λy z c h1 h2=>?_,λy I=>?_,λy c _ h=>?_,λ_=>hd,Around.frames_deeper e0.frames,.inr ⟨rfl,rfl⟩,λb z=>absurd z (O b),e0.bs,e0.bsz,λb _ _=>O b,λb z=>absurd z (O b),e0.funs,e0.frf⟩,
  rfl,e0.bare,Un.kept Z,⟨_,x.toInCall.ns,λi y v h1 h2 h3=>?_⟩,λy c h=>⟨_,x.cell y c h⟩,e0.hok.fresh (Pl _),λy c h=>?_,λp hp=>absurd (show p∈([]:List (Addr×Obj)) from hp) (by simp),e0.hok.kept Z,?_⟩
 ·exact name_of_addr x.apart (Sl h1) (Sl h2)
 ·have I:scope.names.lookup y=some .cell\/scope.names.lookup y=some .free:=I;rcases I with I|I
  ·exact Zdk I
  ·exact absurd rfl (S.nofree _ (Sl I))
 ·exact Uq (x.above y c (Sl h))
 ·have hi:i<vs.length:=by
   unfold Gq at h2;by_cases hi:i<vs.length
   ·exact hi
   ·rw[Qr (by simpa using hi)]at h2;rw[List.getElem?_replicate]at h2;split at h2 <;> cases h2
  have ha:vs[i]?=some v:=by
   unfold Gq at h2;rw[Qj (by simpa using hi),Ql]at h2;cases e:vs[i]? with
   |none=>rw[e]at h2;cases h2
   |some a=>rw[e]at h2;cases h2;rfl
  obtain⟨u,Y,rv⟩:=r.get ha;have hp:ps[i]?=some y:=by
   rw[<- S.pre,List.getElem?_take_of_lt (by lia)];exact h1
  have U:ps.Nodup:=by rw[<- S.pre];exact S.nd.sublist (List.take_sublist _ _)
  refine⟨u,rv,?_⟩;rcases S.par y (Qs hp) with k|k
  ·exact .inl ⟨k,Zii U hp Y k⟩
  ·obtain⟨c,e⟩:=Zdk (n:=s.heap.objs.size+1) k;refine .inr ⟨.inl k,c,e,?_⟩;have q:=x.cell y c e;rw[Zj1 U hp Y (by show scope.names.lookup y≠_;rw[k];decide)]at q;exact q
 ·exact e0.hok.fresh (Uq (x.above y c (Sl h)))
 ·unfold Gq;show _=N.length;rw[Pn,Pp,List.length_replicate];lia
theorem Zhr {CX:C1}{P:Program}{w:World}{K:Ph}{mg:Str->Option Value}{base:Heap}{k:Nat}{f:Addr}{name qual:Str}{params:Arguments}{body:List Stmt}{scope:Scope}{dV kV doc pm cdv ct oc:Value}{an od:Option Addr}
  {osl:Array (Option Value)} {N ps:List Str} {sp:Sp} (lk:K.lookup f=some ⟨oc,od,.func (Sg name qual params body scope dV kV doc pm an cdv ct),osl⟩) (hcd:PySem.W.codeIn K cdv qual=true) (S:Bb N ps scope)
  (len:∀vs H Q E,sp vs H Q E->vs.length=ps.length)
  (hbody:∀(A:Around)(outer:List Env)(s:Shared)(H:Hp)(vs:List V)(Q:VK)(E:XK),Room k (A.deeper (envOfC qual scope s.heap.objs.size f cdv))->sp vs H Q E ->
   ∃t,PSs (Fh CX P w K mg base N qual scope f cdv A outer s H E) body t/\t { nx:=λ_ H'=>Q .non H',rt:=Q } (Gq N vs) H) :
  FnOk P w K mg base CX (k+1) f (Sg name qual params body scope dV kV doc pm an cdv ct) ps sp:=by
 refine⟨len,λA outer s H ad us vs Q E hr e0 hb r aa=>?_⟩;have hl:=len _ _ _ _ aa;have KX:K.In s.heap:=e0.mod.kin.keeps λb o e=>(e0.bs b o e).1;have ac:s.heap.NoLimit:=e0.mod.nolimit.keeps λb o e=>(e0.bs b o e).1;have U:∀y∈ps.zip us,scope.names.lookup y.1=some .local\/(scope.names.lookup y.1=some .cell/\((cellsFrom (s.heap.objs.size+1) scope.names []).lookup y.1).isSome=true):=λ⟨n,v⟩ hy=>by
  rcases S.par n (Vp hy).1 with q|q
  ·exact .inl q
  ·exact .inr ⟨q,PySem.W.cellsFrom_some _ _ _ (.inl q)⟩
 refine codeAny_call_function hr.depth (KX _ _ lk) rfl S.co S.gen rfl (PySem.W.codeRec_of KX hcd) (hb _ _ _ _ ?_);refine wpAny_newFunctionEnv_cells S.kind U λenv he s1 x=>?_;subst he;refine⟨ac.keeps x.toInCall.keep,codeAny_func ?_⟩;obtain⟨t,ht,hq⟩:=hbody A outer s H vs Q E (hr.deeper _) aa;have I:Inv (Fh CX P w K mg base N qual scope f cdv A outer s H E) [] (Gq N vs) H s1:=Zol S hr.hd e0 hl r x;refine Rp (ht [] s1 (Gq N vs) H _ I hq) (λfl s' Y=>?_) λe s' Y=>Y;have Z:∀{O:St}{H':Hp}{v:V}{u:Value},Inv (Fh CX P w K mg base N qual scope f cdv A outer s H E) [] O H' s'->RelV v u->Q v H'->CE outer P w H s Q u s' :=
  λ{O H' v u} J rv q=>⟨v,H',J.os,J.bare,J.base,J.hok,rv,q⟩
 cases fl with
 |ret u =>
  obtain⟨v,O,H',J,rv,q⟩:=Y;exact Z J rv q
 |next =>
  obtain⟨O,H',J,q⟩:=Y;exact Z (v:=V.non) (u:=Value.none) J rfl q
 |brk =>
  obtain⟨_,_,_,q⟩:=Y;exact Qo q
 |cont =>
  obtain⟨_,_,_,q⟩:=Y;exact Qo q
section
variable {X:Cx}{x:Str}{p pos:Pos}{e:Expr}{es:List Expr}{t:TA}{id T:String}{r:List V->Hp->VK->Prop}
def Ig (r:List V->Hp->VK->Prop)(t:TA):TE:=λσ H Q=>t σ H λvs H1=>r vs H1 Q
end
end L2
namespace HT
open PySem PyProof.Rows
section
open PySem.SeqAt
open PySem.AutoSeq1 (wpAny_loadPart')
open PySem.MeetsSeq PySem.MeetsSeq2 PySem.MeetsSeq3
end
section
variable {prog:Program}{w:World}{A:Around}{E:Value->Shared->Prop}{s:Shared}
theorem cat_tup (ht:IsTup s.heap t vs.toArray)(hb:IsTup s.heap b ws.toArray)(hv:vs≠[])(h1:ws=[]->Q (.ref t) s)(h2:ws≠[]->Q (.ref s.heap.objs.size) { s with heap:=s.heap.push { cls:=.type "tuple",data:=.seq (vs++ws).toArray } })(hsz:vs.length+ws.length<=sizeLine):wpAny (model prog w) A (binaryOp .Add (.ref t) (.ref b)) Q E s:=by
 obtain⟨⟨cls,dd,data,sl⟩,ho,hc,n,hd⟩:=id ht;obtain⟨⟨ac,U,aa,Y⟩,I,Z,n2,O⟩:=id hb;simp only at hc hd Z O;subst hc hd Z O;have e:vs.toArray++ws.toArray=(vs++ws).toArray:=by simp
 by_cases hw:ws=[]
 ·exact V3 ⟨_,ho,rfl⟩ ⟨_,I,rfl⟩ Vk Vy U8 U5 (U2 _ _)
   (tuple_addW1 t b vs.toArray ws.toArray n n2 dd U sl Y (by simpa using hv) (by simp[hw])) ⟨ho,I,h1 hw⟩
 ·refine V3 ⟨_,ho,rfl⟩ ⟨_,I,rfl⟩ Vk Vy U8 U5 (U2 _ _)
   (tuple_addW2 t b vs.toArray ws.toArray n n2 dd U sl Y (by simpa using hv) (by simpa using hw) (by rw[Pm,Pm];exact hsz)) ⟨ho,I,?_⟩
  rw[e];exact h2 hw
noncomputable def sIx (n d:Nat):Option Int->Nat
 |none=>d
 |some v=>if v<0 then (v+(n:Int)).toNat else min v.toNat n
theorem sIx_none (n d:Nat):sIx n d none=d:=rfl
theorem sIx_nat (n d k:Nat):sIx n d (some (k:Int))=min k n:=by
 show(if (k:Int)<0 then ((k:Int)+(n:Int)).toNat else min (k:Int).toNat n)=min k n;rw[if_neg (by lia),Qx]
theorem Zvo (n d:Nat)(hd:d<=n)(o:Option Int):sIx n d o<=n:=by
 cases o with
 |none=>exact hd
 |some v =>
  show(if v<0 then (v+(n:Int)).toNat else min v.toNat n)<=n;by_cases I:v<0
  ·rw[if_pos I];lia
  ·rw[if_neg I];exact Nat.min_le_right _ _
theorem Zkq (v:Int)(n d:Nat):(if v<0 then max (v+(n:Int)) 0 else min v (n:Int))=((sIx n d (some v):Nat):Int):=by
 show(if v<0 then max (v+(n:Int)) 0 else min v (n:Int))=(((if v<0 then (v+(n:Int)).toNat else min v.toNat n):Nat):Int);by_cases I:v<0
 ·simp only[if_pos I];lia
 ·simp only[if_neg I];lia
theorem Zoh (lo hi:Option Int)(n:Nat):Wb lo hi 1 (n:Int)=(((sIx n 0 lo:Nat):Int),((sIx n n hi:Nat):Int)):=by
 have h1:¬((1:Int)<0):=by lia
 unfold Wb;simp only[h1,if_false];refine Prod.ext ?_ ?_
 ·cases lo with
  |none=>rfl
  |some v=>exact Zkq v n 0
 ·cases hi with
  |none=>rfl
  |some v=>exact Zkq v n n
theorem Zm6 (i j:Nat):U1 (i:Int) (j:Int) 1=j-i:=by
 unfold U1;have h1:(1:Int) > 0:=by lia
 simp only[h1,if_true,Int.ediv_one];split <;> lia
theorem Zhl (p:IsPart v o)(h:Q o s):wpAny (model prog w) A (Builtin.Slice.slicePartIndex v) Q E s:=by
 cases p with
 |none=>exact slicePart_none h
 |int i t=>exact slicePart_int h
theorem sliceApplied_gen {sl:Addr}{vl vu:Value}{lo hi:Option Int}{n:Nat}{Q:Int×Int×Nat->Shared->Prop}(hs:s.heap.IsSliceOf sl vl vu .none)(pl:IsPart vl lo)(pu:IsPart vu hi)
  (h:Q (((sIx n 0 lo:Nat):Int),1,sIx n n hi-sIx n 0 lo) s):wpAny (model prog w) A (Builtin.Slice.sliceApplied (.ref sl) (pure (n:Int))) Q E s:=by
 obtain⟨os,I,U,O⟩:=id hs;unfold Builtin.Slice.sliceApplied Builtin.Slice.sliceFields;refine Pi (Pi (Px I O (x:=vl) rfl (Pi (Px I O (x:=vu) rfl (Pi (Px I O (x:=.none) rfl (Pk ?_)))))));refine Pi (slicePart_none ?_);show wpAny _ _ (if ((1:Int) == 0)=true then _ else _) _ _ s;rw[if_neg (by decide)];refine Pi (Zhl pl (Pi (Zhl pu (Pi (Pk ?_)))));show wpAny _ _ (match Wb lo hi 1 (n:Int) with|(lo,hi)=>pure (lo,(1:Int),U1 lo hi 1)) _ _ s;rw[Zoh lo hi n];show wpAny _ _ (pure (((sIx n 0 lo:Nat):Int),(1:Int),U1 ((sIx n 0 lo:Nat):Int) ((sIx n n hi:Nat):Int) 1)) _ _ s;rw[Zm6];exact Pk h
theorem Zrl (xs:Array Value)(i k:Nat):((P6 k).filterMap λ(m:Nat)=>xs[((i:Int)+(m:Int)*1).toNat]?).toArray=((xs.toList.drop i).take k).toArray:=by
 have e:(λ(m:Nat)=>xs[((i:Int)+(m:Int)*1).toNat]?)=λm=>xs[i+m]?:=by
  funext m;have:((i:Int)+(m:Int)*1).toNat=i+m:=by lia
  rw[this]
 rw[e];have:=pick_run xs i k;rw[List.filterMap_map]at this;have I:((λx=>xs[x]?) ∘ λx=>i+x)=λm=>xs[i+m]?:=rfl;rw[I]at this;rw[this]
theorem getItem_tuple_cut {t sl:Addr}{items:Array Value}{vl vu:Value}{lo hi:Option Int}{Q:Value->Shared->Prop}(ht:IsTup s.heap t items)(hs:s.heap.IsSliceOf sl vl vu .none)(pl:IsPart vl lo)(pu:IsPart vu hi)
  (hw:¬(sIx items.size 0 lo=0/\sIx items.size items.size hi=items.size))
  (h:Q (.ref s.heap.objs.size) { s with heap:=s.heap.push { cls:=.type "tuple",data:=.seq ((items.toList.drop (sIx items.size 0 lo)).take (sIx items.size items.size hi-sIx items.size 0 lo)).toArray } })
  (hsz:items.size<=sizeLine):wpAny (model prog w) A (getItem (.ref t) (.ref sl)) Q E s:=by
 have I:sizeOk (.seq ((items.toList.drop (sIx items.size 0 lo)).take (sIx items.size items.size hi-sIx items.size 0 lo)).toArray):=by
  show((items.toList.drop (sIx items.size 0 lo)).take (sIx items.size items.size hi-sIx items.size 0 lo)).toArray.size<=sizeLine;rw[Pm,Qp,Sn,Vc];lia
 have hj:sIx items.size items.size hi<=items.size:=Zvo _ _ (Pl _) hi;obtain⟨os,Y,U,aa⟩:=id hs;have Z:s.TypeIs (.ref sl) "slice":=⟨os,Y,U⟩;unfold getItem
 try with_reducible refine Q6 ?_
 first|refine Pi (Pk ?_)|skip
 refine Pi (wpAny_sequenceKey ht.typeIs (by decide) ?_);refine Pi (Rg (name:=Qv "__getitem__") ht.typeIs Ta
  (Rk Ta ht.typeIs entry_tuple_getitem ?_ (args_tuple_getitem _ _)))
 show wpAny _ _ (Builtin.Tuple.tupleItemsOf (.ref t) >>= _) _ _ s;refine Pi (tupleItemsOf_ ht ?_);refine Pi (Ts Z ?_);rw[if_pos (by decide)];refine Pi (sliceApplied_gen hs pl pu ?_);have O:¬((((sIx items.size 0 lo:Nat):Int) == 0 && (1:Int) == 1 && (sIx items.size items.size hi-sIx items.size 0 lo) == items.size)=true):=by
  intro q;rw[Rw,Rw]at q;have q1:((sIx items.size 0 lo:Nat):Int)=0:=eq_of_beq q.1.1;have q2:sIx items.size items.size hi-sIx items.size 0 lo=items.size:=eq_of_beq q.2;exact hw ⟨by lia,by lia⟩
 show wpAny _ _ (if (((sIx items.size 0 lo:Nat):Int) == 0 && (1:Int) == 1 && (sIx items.size items.size hi-sIx items.size 0 lo) == items.size)=true then _ else _) _ _ s;rw[if_neg O,Zrl]
 first
  |exact Pi (m:=U3 _) (R9 (Pk ⟨_,rfl,Pk h⟩) I)
  |exact Pi (m:=U3 _) (R9 (Pi (Pk (Pk ⟨_,rfl,Pk h⟩))) I)
  |exact Pi (Pi (m:=U3 _) (R9 (Pk (Pk ⟨_,rfl,Pk h⟩)) I))
  |exact Pi (Pi (m:=U3 _) (R9 (Pk ⟨_,rfl,Pk h⟩) I))
end
end HT
namespace L2
open PySem PySem.Spec PyProof.Rows
noncomputable abbrev TO:=St->Hp->(Option Int->Hp->Prop)->Prop
def PO (X:Cx)(e:Option Expr)(t:TO):Prop :=
 ∀(pins:List (Addr×Obj))(s:Shared)(σ:St)(H:Hp)(Q:Option Int->Hp->Prop),Inv X pins σ H s->t σ H Q ->
  wpAny (model X.prog X.w) X.A (evalPart e X.env) (λu s'=>eX2 λo H'=>Inv X pins σ H' s'/\IsPart u o/\Q o H') X.xe s
def Zbl:TO:=λ_ H Q=>Q none H
def Zd8 (t:TE):TO:=λσ H Q=>t σ H λx H1=>∃i,x=.int i/\Q (some i) H1
section
variable {X:Cx}{e:Expr}{te:TE}{lo hi:Option Expr}{tl th:TO}{pos p2:Pos}
def SlR (X:Cx)(r:V->Option Int->Option Int->Hp->VK->Prop):Prop :=
 ∀(pins:List (Addr×Obj))(s:Shared)(σ:St)(H:Hp)(x:V)(v vl vu:Value)(lo hi:Option Int)(sl:Addr)(Q:VK),Inv X pins σ H s->RelV x v->s.heap.IsSliceOf sl vl vu .none->IsPart vl lo->IsPart vu hi->r x lo hi H Q ->
  eX2 λT id=>typeLookup (.type T) "__getitem__"=pure (some (.builtin id))/\s.TypeIs v T/\wpAny (model X.prog X.w) X.A (getItem v (.ref sl)) (EP X pins σ Q) X.xe s
theorem SlR.or (h:SlR X r)(h':SlR X r'):SlR X (λx lo hi H Q=>r x lo hi H Q\/r' x lo hi H Q):=by
 intro pins s σ H x v O vu lo hi sl Q I Z U pl Y q;rcases q with q|q
 ·exact h pins s σ H x v O vu lo hi sl Q I Z U pl Y q
 ·exact h' pins s σ H x v O vu lo hi sl Q I Z U pl Y q
def tSl (r:V->Option Int->Option Int->Hp->VK->Prop)(te:TE)(tl th:TO):TE:=λσ H Q=>te σ H λx H1=>tl σ H1 λl H2=>th σ H2 λu I=>r x l u I Q
noncomputable def Bf (xs:List V)(lo hi:Option Int):List V:=(xs.drop (HT.sIx xs.length 0 lo)).take (HT.sIx xs.length xs.length hi-HT.sIx xs.length 0 lo)
theorem Zj0 (xs:List V)(lo hi:Option Int):(Bf xs lo hi).length<=xs.length:=by
 unfold Bf;rw[Qp,Sn];lia
def rSlT (K:Ph):V->Option Int->Option Int->Hp->VK->Prop:=λx lo hi H Q=>eX2 λa xs=>x=.ref a/\SqT K H a xs /\
 ¬(HT.sIx xs.length 0 lo=0/\HT.sIx xs.length xs.length hi=xs.length)/\∀p,H p=none->Q (.ref p) (upd H p (.tup (Bf xs lo hi)))
theorem Zg2:SlR X (rSlT X.K):=by
 intro pins s σ H x v vl vu lo hi sl Q I rx hs pl pu h;obtain⟨a,xs,rfl,hx,hw,q⟩:=h;cases rx;obtain⟨U,r,Y,Z⟩:=I.tuple hx;have O:U.toArray.size=xs.length:=by rw[Pm];exact r.length.symm
 refine⟨"tuple",_,Ta.lookup,Y.typeIs,?_⟩;refine HT.getItem_tuple_cut Y hs pl pu (by rw[O];exact hw) ?_ (by rw[O];exact Z);rw[O];refine⟨.ref s.heap.objs.size,_,I.laid (t':=s.toks) (o:=.tup (Bf xs lo hi)) (λb ob q=>Po _ q) (Pl _) ?_,rfl,q _ (I.hok.fresh (Pl _))⟩;exact⟨Qb (Zj0 xs lo hi) Z,_,(r.drop (HT.sIx xs.length 0 lo)).take (HT.sIx xs.length xs.length hi-HT.sIx xs.length 0 lo),IsTup.new _ _⟩
def Zui (K:Ph):R2:=λx y H Q=>eX4 λa b xs ys=>x=.ref a/\y=.ref b/\SqT K H a xs/\SqT K H b ys/\xs≠[]/\xs.length+ys.length<=sizeLine /\
 (ys=[]->Q (.ref a) H)/\(ys≠[]->∀p,H p=none->Q (.ref p) (upd H p (.tup (xs++ys))))
theorem Vals.nil_iff (r:Vals xs us):us=[]↔xs=[]:=by
 cases r with
 |nil=>simp
 |cons _ _=>simp
theorem Zhu:OpR X (binaryOp .Add) (Zui X.K):=by
 intro pins s σ H x y v u Q I rx ry h;obtain⟨a,b,xs,ys,rfl,rfl,ha,hb,hx,Z,q1,q2⟩:=h;cases rx;cases ry;obtain⟨aa,U,p1,_⟩:=I.tuple ha;obtain⟨Y,O,p2,_⟩:=I.tuple hb;refine HT.cat_tup p1 p2 (λz=>hx (U.nil_iff.mp z)) (λz=>⟨.ref a,H,I,rfl,q1 (O.nil_iff.mp z)⟩) (λz=>?_) (by rw[<- U.length,<- O.length];exact Z);refine⟨.ref s.heap.objs.size,_,I.laid (t':=s.toks) (o:=.tup (xs++ys)) (λb ob q=>Po _ q) (Pl _) ?_,rfl,q2 (λw=>z (O.nil_iff.mpr w)) _ (I.hok.fresh (Pl _))⟩;exact⟨by rw[Pn];exact Z,_,U.append O,IsTup.new _ _⟩
end
noncomputable def F8 (n:Nat)(i:Int):Option Nat:=if 0<=i then (if i<n then some i.toNat else none) else if -(n:Int)<=i then some (i+n).toNat else none
noncomputable def Cr {α:Type}(xs:List α)(i:Int):Option α:=(F8 xs.length i).bind λj=>xs[j]?
theorem Zgj (h:F8 n i=some j):seqIndex? i n=some j/\j<n/\-(n:Int)<=i/\i<n:=by
 unfold F8 at h;by_cases h0:0<=i
 ·rw[if_pos h0]at h;by_cases h1:i<n
  ·rw[if_pos h1]at h;have e:i.toNat=j:=Qg h;exact⟨by rw[seqIndex_of h0 h1,e],by lia,by lia,h1⟩
  ·rw[if_neg h1]at h;cases h
 ·rw[if_neg h0]at h;by_cases h1:-(n:Int)<=i
  ·rw[if_pos h1]at h;have e:(i+n).toNat=j:=Qg h;exact⟨by rw[seqIndex_neg (by lia) h1,e],by lia,h1,by lia⟩
  ·rw[if_neg h1]at h;cases h
theorem Zeo {α:Type}{xs:List α}{i:Int}{v:α}(h:Cr xs i=some v):∃j,seqIndex? i xs.length=some j/\xs[j]?=some v/\j<xs.length/\-(xs.length:Int)<=i/\i<xs.length:=by
 unfold Cr at h;cases e:F8 xs.length i with
 |none=>rw[e]at h;cases h
 |some j =>
  rw[e]at h;obtain⟨h1,h2,O,I⟩:=Zgj e;exact⟨j,h1,h,h2,O,I⟩
theorem Cp {α:Type}{xs:List α}{j:Nat}{v:α}(h:xs[j]?=some v):Cr xs (j:Int)=some v:=by
 have I:j<xs.length:=(Ps.mp h).1;have e:F8 xs.length (j:Int)=some j:=by
  unfold F8;rw[if_pos (by lia),if_pos (by lia)];simp
 unfold Cr;rw[e];exact h
def Zei (b:Expr):Prop:=∀o i,subscripted b false o i=operate [o,i] (getItem o i)
def IxR (X:Cx)(r:R2):Prop :=
 ∀(value slice:Expr)(pins:List (Addr×Obj))(s:Shared)(σ:St)(H:Hp)(x y:V)(v u:Value)(Q:VK),Inv X pins σ H s->RelV x v->RelV y u->r x y H Q ->
  subscripted slice false v u=operate [v,u] (getItem v u)->wpAny (model X.prog X.w) X.A (subscriptTail value slice v u) (EP X pins σ Q) X.xe s
def J8 (X:Cx)(id:String)(r:V->List V->Hp->VK->Prop):Prop :=
 ∀(pins:List (Addr×Obj))(s:Shared)(σ:St)(H:Hp)(x:V)(xs:List V)(v:Value)(us:List Value)(Q:VK),Inv X pins σ H s->RelV x v->Vals xs us->r x xs H Q ->
  wpAny (model X.prog X.w) X.A (call (.builtin id) (v::us)) (EP X pins σ Q) X.xe s
section
variable {X:Cx}{a b:Expr}{ta tb:TE}{pos:Pos}
theorem IxR.or (h:IxR X r)(h':IxR X r'):IxR X (λx y H Q=>r x y H Q\/r' x y H Q):=by
 intro value O pins s σ H x y v u Q I Z Y q U;rcases q with q|q
 ·exact h value O pins s σ H x y v u Q I Z Y q U
 ·exact h' value O pins s σ H x y v u Q I Z Y q U
def rIxL (K:Ph):R2:=λx y H Q=>eX4 λp xs i v=>x=.ref p/\y=.int i/\SqL K H p xs/\Cr xs i=some v/\Q v H
def rIxT (K:Ph):R2:=λx y H Q=>eX4 λp xs i v=>x=.ref p/\y=.int i/\SqT K H p xs/\Cr xs i=some v/\Q v H
def rIxS:R2:=λx y H Q=>eX3 λz i c=>x=.str z/\y=.int i/\z.length<=sizeLine/\Cr z.cps.toList i=some c/\Q (.str ⟨#[c]⟩) H
theorem ix_list:IxR X (rIxL X.K):=by
 intro value U pins s σ H x y v u Q I rx ry h hs;obtain⟨p,xs,i,z,rfl,rfl,hq,he,q⟩:=h;cases rx;obtain⟨t,rfl⟩:=ry;obtain⟨aa,r,pl,hz⟩:=I.list hq;obtain⟨j,h1,h2,h3,h4,h5⟩:=Zeo he;obtain⟨w,ew,Y⟩:=r.get h2;have hl:=r.length;have hn:=La;have O:EP X pins σ Q w s:=⟨z,H,I,Y,q⟩;by_cases h0:0<=i
 ·have Z:i.toNat=j:=by
   rw[seqIndex_of h0 h5]at h1;exact Qg h1
  exact item_listR pl.isList h0 (by lia) (by rw[Z];simpa using ew) O hs
 ·have Z:(i+(aa.toArray.size:Int)).toNat=j:=by
   rw[seqIndex_neg (by lia) h4]at h1;rw[Pm,<- hl];exact Qg h1
  exact subscriptTail_builtinR (x:=w) pl.isList.typeIs Ws.lookup
   (wpAny_getItem_list_neg (Q:=λr s'=>r=w/\EP X pins σ Q r s') pl.isList (by lia) (by rw[Pm] <;> lia) (by lia) (by rw[Z];simpa using ew) ⟨rfl,O⟩) hs
theorem ix_tup:IxR X (rIxT X.K):=by
 intro value O pins s σ H x y v u Q I rx ry h hs;obtain⟨p,xs,i,z,rfl,rfl,hq,Z,q⟩:=h;cases rx;obtain⟨t,rfl⟩:=ry;obtain⟨aa,r,pl,hz⟩:=I.tuple hq;obtain⟨j,h1,h2,h3,h4,h5⟩:=Zeo Z;obtain⟨w,ew,Y⟩:=r.get h2;have hl:=r.length;have hn:=La;have U:EP X pins σ Q w s:=⟨z,H,I,Y,q⟩;exact subscriptTail_builtinR (x:=w) pl.typeIs slot_tuple_getitem.lookup
  (getItem_tuple (j:=j) (Q:=λr s'=>r=w/\EP X pins σ Q r s') pl (by lia) (by lia) (by rw[Pm,<- hl];exact h1) (by simpa using ew) ⟨rfl,U⟩) hs
theorem Zqc:IxR X rIxS:=by
 intro value O pins s σ H x y v u Q I rx Z h Y;obtain⟨z,i,c,rfl,rfl,hz,U,q⟩:=h;obtain⟨t,rfl⟩:=rx;obtain⟨t',rfl⟩:=Z;obtain⟨j,h1,h2,h3,h4,h5⟩:=Zeo U;have hl:z.cps.toList.length=z.length:=by simp[Str.length]
 rw[hl]at h1 h4 h5;have hn:=La;exact tail_any (typeIs_str s z t) slot_str_getitem.lookup (getItem_str (c:=c) (by
  have e1:decide (i < -(2 ^ 63:Int))=false:=decide_eq_false (by lia);have e2:decide (i ≥ 2 ^ 63)=false:=decide_eq_false (by lia);rw[e1,e2,Bool.or_false]) (by rw[h1];simpa using h2) ⟨.str ⟨#[c]⟩,H,I.tok _,⟨_,rfl⟩,q⟩) Y
def Kp (K:Ph):R2:=λx y H Q=>rIxL K x y H Q\/rIxT K x y H Q\/rIxS x y H Q
theorem Zu9:IxR X (Kp X.K):=ix_list.or (ix_tup.or Zqc)
theorem Zq4 (its:List Value)(n j:Nat)(u:Value):Qw (·.setIfInBounds j u) { cls:=.type "list",data:=.seq its.toArray n }={ cls:=.type "list",data:=.seq (its.set j u).toArray n }:=by
 simp[Qw]
theorem Inv.lst (I:Inv X pins σ H s)(h:H p=some (.lst xs)) :
  eX2 λ(its:List Value)(n:Nat)=>Vals xs its/\s.heap.get? p=some { cls:=.type "list",data:=.seq its.toArray n }/\xs.length<=sizeLine:=by
 obtain⟨z,its,n,r,e⟩:=I.hok p _ h;exact⟨its,n,r,e,z⟩
theorem Inv.lstUpd {pins:List (Addr×Obj)}{σ:St}{H:Hp}{s:Shared}{p:Addr}{xs ys:List V}{its its':List Value}{n n':Nat}{f:Obj->Obj}(I:Inv X pins σ H s)(h:H p=some (.lst xs))
  (ho:s.heap.get? p=some { cls:=.type "list",data:=.seq its.toArray n }) (hf:f { cls:=.type "list",data:=.seq its.toArray n }={ cls:=.type "list",data:=.seq its'.toArray n' }) (r:Vals ys its') (hz:ys.length<=sizeLine) (t:Nat) :
  Inv X pins σ (upd H p (.lst ys)) { s with heap:=s.heap.update p f,toks:=t }:=by
 have e:(s.heap.update p f).get? p=some { cls:=.type "list",data:=.seq its'.toArray n' }:=by
  rw[R7 f ho (by rw[hf] <;> rfl),hf]
 refine I.write (x:=p) (e:=p) (by rw[h];trivial) (.inl rfl) (λb u hb q=>(Ra _ _ (Pw hb)).trans q) ⟨_,e⟩ ?_;exact⟨hz,its',n',r,e⟩
def Zij:V->V->V->Hp->(Hp->Prop)->Prop:=λo i v H Q=>eX4 λp xs k j=>o=.ref p/\i=.int k/\H p=some (.lst xs)/\F8 xs.length k=some j/\Q (upd H p (.lst (xs.set j v)))
theorem Zrp:Zd9 X Zij:=by
 intro pins s σ H o i v ov iv u Q I ro ri rv h;obtain⟨p,xs,k,j,rfl,rfl,hp,hj,q⟩:=h;cases ro;obtain⟨t,rfl⟩:=ri;obtain⟨O,n,r,U,hz⟩:=I.lst hp;obtain⟨h1,h2,h3,h4⟩:=Zgj hj;have hl:=r.length;have hn:=La;have Z:Inv X pins σ (upd H p (.lst (xs.set j v))) { s with heap:=s.heap.update p (Qw (·.setIfInBounds j u)) } :=
  I.lstUpd hp U (Zq4 O n j u) (r.set rv j) (by rw[Te];exact hz) s.toks
 by_cases h0:0<=k
 ·have Y:k.toNat=j:=by
   rw[seqIndex_of h0 h4]at h1;exact Qg h1
  exact PySem.W.ki_setAt U h0 (by lia) (by rw[Pm,<- hl];exact h4) (by rw[Y];exact⟨_,Z,q⟩)
 ·have Y:(k+(O.toArray.size:Int)).toNat=j:=by
   rw[seqIndex_neg (by lia) h3]at h1;rw[Pm,<- hl];exact Qg h1
  exact PySem.W.ki_setBack U (by lia) (by rw[Pm,<- hl];exact h3) (by lia) (by rw[Y];exact⟨_,Z,q⟩)
theorem Zvf (lo hi:Option Int)(n:Nat):(sliceBounds lo hi none n).1=((HT.sIx n 0 lo:Nat):Int)/\(sliceBounds lo hi none n).2.1=((HT.sIx n n hi:Nat):Int)/\(sliceBounds lo hi none n).2.2=1:=by
 refine⟨?_,?_,rfl⟩
 ·cases lo with
  |none=>simp[sliceBounds,HT.sIx]
  |some i =>
   simp only[sliceBounds,HT.sIx,Option.getD_none,show(1:Int) > 0 by decide,if_true];by_cases h:i<0
   ·simp only[h,if_true] <;> lia
   ·simp only[h,if_false] <;> lia
 ·cases hi with
  |none=>simp[sliceBounds,HT.sIx]
  |some i =>
   simp only[sliceBounds,HT.sIx,Option.getD_none,show(1:Int) > 0 by decide,if_true];by_cases h:i<0
   ·simp only[h,if_true] <;> lia
   ·simp only[h,if_false] <;> lia
theorem Zqa (its:List Value)(lo hi:Option Int):slicePick its.toArray lo hi none=((its.drop (HT.sIx its.length 0 lo)).take (HT.sIx its.length its.length hi-HT.sIx its.length 0 lo)).toArray:=by
 obtain⟨h1,h2,I⟩:=Zvf lo hi its.toArray.size;unfold slicePick;rw[h1,h2,I];simp only[sliceRange_one,pick_run,Pm] <;> rfl
def Zb1 (K:Ph):V->Option Int->Option Int->Hp->VK->Prop:=λx lo hi H Q=>eX2 λa xs=>x=.ref a/\SqL K H a xs/\∀p,H p=none->Q (.ref p) (upd H p (.lst (Bf xs lo hi)))
theorem sl_list:SlR X (Zb1 X.K):=by
 intro pins s σ H x v vl vu lo hi sl Q I rx Y pl Z h;obtain⟨a,xs,rfl,hx,q⟩:=h;cases rx;obtain⟨aa,r,U,hz⟩:=I.list hx;have O:=r.length;refine⟨"list",_,Ws.lookup,U.isList.typeIs,?_⟩;refine wpAny_getItem_list_slice U.isList Y pl Z .none (by simp) ?_ (by rw[Pm] <;> lia);rw[Zqa,<- O];refine⟨.ref s.heap.objs.size,_,I.laid (t':=s.toks) (o:=.lst (Bf xs lo hi)) (λb ob q=>Po _ q) (Pl _) ?_,rfl,q _ (I.hok.fresh (Pl _))⟩;exact⟨Qb (Zj0 xs lo hi) hz,_,0,(r.drop (HT.sIx xs.length 0 lo)).take (HT.sIx xs.length xs.length hi-HT.sIx xs.length 0 lo),P3 _ rfl⟩
noncomputable def C8:V->Bool
 |.non=>true
 |.bl _=>true
 |.int _=>true
 |.str _=>true
 |_=>false
noncomputable def Fn:V->V->Bool
 |.non,.non=>true
 |.bl a,.bl b=>a == b
 |.bl a,.int b=>(if a then 1 else 0) == b
 |.int a,.bl b=>a == (if b then 1 else 0)
 |.int a,.int b=>a == b
 |.str a,.str b=>a == b
 |_,_=>false
theorem Zcl (ry:RelV y u)(rx:RelV x v)(fy:C8 y=true)(fx:C8 x=true):P5 A s u v (Fn y x):=by
 cases y with
 |non =>
  cases ry;cases x with
  |non=>cases rx;exact W0 _
  |bl b=>cases rx;exact P5.none_bool b
  |int b=>obtain⟨t,rfl⟩:=rx;exact P5.none_int b t
  |str b=>obtain⟨t,rfl⟩:=rx;exact P5.none_str b t
  |_=>exact absurd (show false=true from fx) Pt
 |bl a =>
  cases ry;cases x with
  |non=>cases rx;exact P5.bool_none a
  |bl b=>cases rx;exact P5.bool_bool a b
  |int b=>obtain⟨t,rfl⟩:=rx;exact P5.bool_int a b t
  |str b=>obtain⟨t,rfl⟩:=rx;exact P5.bool_str a b t
  |_=>exact absurd (show false=true from fx) Pt
 |int a =>
  obtain⟨t',rfl⟩:=ry;cases x with
  |non=>cases rx;exact P5.int_none a t'
  |bl b=>cases rx;exact P5.int_bool a t' b
  |int b=>obtain⟨t,rfl⟩:=rx;exact P5.int_int a t' b t
  |str b=>obtain⟨t,rfl⟩:=rx;exact P5.int_str a t' b t
  |_=>exact absurd (show false=true from fx) Pt
 |str a =>
  obtain⟨t',rfl⟩:=ry;cases x with
  |non=>cases rx;exact P5.str_none a t'
  |bl b=>cases rx;exact P5.str_bool a t' b
  |int b=>obtain⟨t,rfl⟩:=rx;exact P5.str_int a t' b t
  |str b=>obtain⟨t,rfl⟩:=rx;exact P5.str_str a t' b t
  |_=>exact absurd (show false=true from fx) Pt
 |_=>exact absurd (show false=true from fy) Pt
noncomputable def Eo (x:V)(u:Value):Bool:=match u with
 |.none=>Fn .non x
 |.bool b=>Fn (.bl b) x
 |.int i _=>Fn (.int i) x
 |.str z _=>Fn (.str z) x
 |_=>false
theorem Zkd (r:RelV y u)(f:C8 y=true):Eo x u=Fn y x:=by
 cases y with
 |non=>cases r;rfl
 |bl b=>cases r;rfl
 |int i=>obtain⟨t,rfl⟩:=r;rfl
 |str z=>obtain⟨t,rfl⟩:=r;rfl
 |_=>exact absurd (show false=true from f) Pt
theorem Lz:∀{xs:List V}{us:List Value},Vals xs us->xs.all C8=true->us.any (Eo x)=xs.any λy=>Fn y x
 |_,_,.nil,_=>rfl
 |y::xs,u::us,.cons r t,f=>by
  rw[Rn,Rw]at f;rw[Up,Up,Zkd r f.1,Lz t f.2]
theorem Lk (rx:RelV x v)(fx:C8 x=true):∀{xs:List V}{us:List Value},Vals xs us->xs.all C8=true->∀u∈us,P5 A s u v (Eo x u)
 |_,_,.nil,_=>λu I=>by cases I
 |y::xs,u::us,.cons r t,f=>λO I=>by
  rw[Rn,Rw]at f;rcases Pr.mp I with rfl|I
  ·rw[Zkd r f.1];exact Zcl r rx f.1 fx
  ·exact Lk rx fx t f.2 O I
noncomputable def Fk (x:V)(xs:List V):Bool:=xs.any λy=>Fn y x
def rIn (K:Ph)(neg:Bool):R2:=λx y H Q=>eX2 λp xs=>y=.ref p/\(SqL K H p xs\/SqT K H p xs)/\C8 x=true/\xs.all C8=true/\Q (.bl (if neg then !Fk x xs else Fk x xs)) H
theorem op_in_seq:OpR X (compareOp .In) (rIn X.K false):=by
 intro pins s σ H x y v u Q I rx ry h;obtain⟨p,xs,rfl,U,Z,fs,q⟩:=h;cases ry;rcases U with U|U
 ·obtain⟨O,r,pl,hz⟩:=I.list U;refine SeqAt.in_listAt (Eo x) pl.isList (λw Y=>Lk rx Z r fs w (by simpa using Y)) ⟨.bl _,H,I,rfl,?_⟩;rw[show O.toArray.any (Eo x)=O.any (Eo x) by simp,Lz r fs];exact q
 ·obtain⟨O,r,pl,hz⟩:=I.tuple U;refine SeqAt.in_tupleAt (Eo x) pl (λw Y=>Lk rx Z r fs w (by simpa using Y)) ⟨.bl _,H,I,rfl,?_⟩;rw[show O.toArray.any (Eo x)=O.any (Eo x) by simp,Lz r fs];exact q
theorem op_notIn_seq:OpR X (compareOp .NotIn) (rIn X.K true):=by
 intro pins s σ H x y v u Q I rx ry h;obtain⟨p,xs,rfl,U,Z,fs,q⟩:=h;cases ry;rcases U with U|U
 ·obtain⟨O,r,pl,hz⟩:=I.list U;refine SeqAt.notIn_listAt (Eo x) pl.isList (λw Y=>Lk rx Z r fs w (by simpa using Y)) ⟨.bl _,H,I,rfl,?_⟩;rw[show O.toArray.any (Eo x)=O.any (Eo x) by simp,Lz r fs];exact q
 ·obtain⟨O,r,pl,hz⟩:=I.tuple U;refine SeqAt.notIn_tupleAt (Eo x) pl (λw Y=>Lk rx Z r fs w (by simpa using Y)) ⟨.bl _,H,I,rfl,?_⟩;rw[show O.toArray.any (Eo x)=O.any (Eo x) by simp,Lz r fs];exact q
theorem Zqq:Cz X (.type "list") (λxs H Q=>eX2 λp ys=>xs=[.ref p]/\(SqL X.K H p ys\/SqT X.K H p ys)/\∀l,H l=none->Q (.ref l) (upd H l (.lst ys))):=by
 intro pins s σ H xs us Q I r h;obtain⟨p,ys,rfl,hq,q⟩:=h;obtain⟨u,rfl,rx⟩:=Jl r;cases rx;have Z:∀(O:List Value),Vals ys O->ys.length<=sizeLine->∀(h':Heap)(Y:Nat),(∀b o',s.heap.get? b=some o'->h'.get? b=some o') ->
   h'.get? s.heap.objs.size=some { cls:=.type "list",dict:=none,data:=.seq O.toArray Y,slots:=#[] }->EP X pins σ Q (.ref s.heap.objs.size) { s with heap:=h' }:=λO U hz h' Y kp e =>
  ⟨.ref s.heap.objs.size,_,I.laid (t':=s.toks) kp (Pl _) (show ObjOk X.prog X.w _ h' _ (.lst ys) from⟨hz,O,Y,U,e⟩),rfl,q _ (I.hok.fresh (Pl _))⟩
 rcases hq with hq|hq
 ·obtain⟨O,U,pl,hz⟩:=I.list hq;have aa:=U.length;obtain⟨o,ho,hc,n,hd⟩:=pl.isList;exact call_list_seq p (.inl rfl) ho hc hd (λh' Y kp e=>Z O U hz h' Y kp e) (by simp only[Pm] <;> lia)
 ·obtain⟨O,U,pl,hz⟩:=I.tuple hq;have aa:=U.length;obtain⟨o,ho,hc,n,hd⟩:=pl;exact call_list_seq p (.inr rfl) ho hc hd (λh' Y kp e=>Z O U hz h' Y kp e) (by simp only[Pm] <;> lia)
theorem Zwr:Cz X (.type "tuple") (λxs H Q=>eX2 λp ys=>xs=[.ref p]/\((SqL X.K H p ys/\∀l,H l=none->Q (.ref l) (upd H l (.tup ys)))\/(SqT X.K H p ys/\Q (.ref p) H))):=by
 intro pins s σ H xs us Q I r h;obtain⟨p,ys,rfl,h⟩:=h;obtain⟨u,rfl,rx⟩:=Jl r;cases rx;rcases h with⟨Y,q⟩|⟨Y,q⟩
 ·obtain⟨O,U,pl,hz⟩:=I.list Y;have Z:=U.length;refine call_tuple_list pl.isList (λh' kp=>?_) (by simp only[Pm] <;> lia);have I1:Inv X pins σ H { s with heap:=h' }:=I.kept (t':=s.toks) kp;have I2:Inv X pins σ (upd H h'.objs.size (.tup ys)) { s with heap:=h'.push { cls:=.type "tuple",data:=.seq O.toArray } } :=
   I1.laid (t':=s.toks) (λb o e=>Po _ e) (Pl _) (show ObjOk X.prog X.w _ _ _ (.tup ys) from⟨hz,O,U,IsTup.new _ _⟩)
  exact⟨.ref h'.objs.size,_,I2,rfl,q _ (I1.hok.fresh (Pl _))⟩
 ·obtain⟨O,U,pl,hz⟩:=I.tuple Y;exact call_tuple_same pl ⟨.ref p,H,I,rfl,q⟩
def Kh (K:Ph)(T:String)(x:V)(H:Hp):Prop:=match x with
 |.str _=>T="str"
 |.int _=>T="int"
 |.ref p=>(T="list" /\ ∃xs,SqL K H p xs)\/(T="tuple" /\ ∃o,K.lookup p=some o/\o.cls=.type "tuple"/\o.dict=none) \/
   (T="dict"/\((∃kvs,H p=some (.dK kvs))\/∃kvs,H p=some (.dT kvs)))\/(T="set" /\ eX2 λS n=>H p=some (.set S n))
 |_=>False
theorem Zgw (I:Inv X pins σ H s)(r:RelV x v)(ty:Kh X.K T x H) :
  s.TypeIs v T/\∀a,v=.ref a->∃ob,s.heap.get? a=some ob/\ob.dict=none:=by
 cases x with
 |str z =>
  obtain⟨t,rfl⟩:=r;cases (show T="str" from ty);exact⟨typeIs_str s z t,λ_ e=>nomatch e⟩
 |int i =>
  obtain⟨t,rfl⟩:=r;cases (show T="int" from ty);exact⟨typeIs_int s i t,λ_ e=>nomatch e⟩
 |ref p =>
  cases r;rcases ty with⟨rfl,xs,Z⟩|⟨rfl,o,O,Y,hd⟩|⟨rfl,O⟩|⟨rfl,S,n,O⟩
  ·obtain⟨aa,_,pl,_⟩:=I.list Z;refine⟨pl.isList.typeIs,λa e=>?_⟩;cases e;obtain⟨o,n,e,c,hd,_⟩:=pl;exact⟨o,e,hd⟩
  ·refine⟨⟨o,I.kIn p o O,Y⟩,λa e=>?_⟩;cases e;exact⟨o,I.kIn _ o O,hd⟩
  ·have z:∃o,s.heap.get? p=some o/\o.ExactDict:=by
    rcases O with⟨kvs,O⟩|⟨kvs,O⟩
    ·obtain⟨_,_,_,_,o,_,_,e,ex,_⟩:=I.hok p _ O;exact⟨o,e,ex⟩
    ·obtain⟨_,_,_,_,o,_,_,e,ex,_⟩:=I.hok p _ O;exact⟨o,e,ex⟩
   obtain⟨o,e,ex⟩:=z;refine⟨⟨o,e,ex.1⟩,λa U=>?_⟩;cases U;exact⟨o,e,ex.2.1⟩
  ·obtain⟨o,_,_,_,e,ex,_⟩:=I.hok p _ O;refine⟨⟨o,e,ex.1⟩,λa U=>?_⟩;cases U;exact⟨o,e,ex.2.1⟩
 |_=>exact Qo ty
def Oe (K:Ph)(T:String)(r:V->List V->Hp->VK->Prop)(to:TE):TE:=λσ H Q=>to σ H λx H1=>Kh K T x H1/\r x [] H1 Q
def tBM (K:Ph)(T:String)(r:V->List V->Hp->VK->Prop)(to:TE)(t:TA):TE:=λσ H Q=>to σ H λx H1=>Kh K T x H1/\t σ H1 λxs H2=>r x xs H2 Q
variable {o e:Expr}{es:List Expr}{to:TE}{t:TA}{name:Str}{apos cpos:Pos}{T id:String}{r:V->List V->Hp->VK->Prop}
end
def MtM (X:Cx)(id:String)(r:V->List V->Hp->VK->Prop):Prop :=
 ∀(pins:List (Addr×Obj))(s:Shared)(σ:St)(H:Hp)(x:V)(xs:List V)(v:Value)(us:List Value)(Q:VK),Inv X pins σ H s->RelV x v->Vals xs us->r x xs H Q ->
  wpAny (model X.prog X.w) X.A (call (.builtin id) (v::us)) (EP X pins σ Q) X.xe s
theorem Vals.one:∀{x:V}{us:List Value},Vals [x] us->∃u,us=[u]/\RelV x u
 := λh=>by
 cases h with
 |cons r t =>
 cases t;exact⟨_,rfl,r⟩
theorem Vals.two:∀{x y:V}{us:List Value},Vals [x,y] us->eX2 λu v=>us=[u,v]/\RelV x u/\RelV y v
 := λh=>by
 cases h with
 |cons r t =>
 cases t with
 |cons q z =>
 cases z;exact⟨_,_,rfl,r,q⟩
theorem Vals.zero:∀{us:List Value},Vals [] us->us=[]
 |_,.nil=>rfl
theorem Vals.dropLast (h:Vals xs us):Vals xs.dropLast us.dropLast:=by
 induction h with
 |nil=>exact .nil
 |cons r t I =>
  cases t with
  |nil=>exact .nil
  |cons q t'=>exact .cons r I
theorem Vals.rep (h:Vals xs us):∀k:Nat,Vals (Qu k xs).flatten (Qu k us).flatten
 |0=>.nil
 |k+1=>by
  rw[Ua,Ua,Vh,Vh];exact Vals.append h (Vals.rep h k)
theorem Zop {α:Type}(l:List α):l.eraseIdx (l.length-1)=l.dropLast:=by
 induction l with
 |nil=>rfl
 |cons a r I =>
  cases r with
  |nil=>rfl
  |cons b r =>
   have e:(a::b::r).length-1=((b::r).length-1)+1:=by
    have h1:(a::b::r).length=r.length+2:=rfl;have h2:(b::r).length=r.length+1:=rfl;lia
   rw[e,List.eraseIdx_cons_succ,I]
   all_goals rfl
theorem Zgs (its:List Value):∀(k:Nat)(acc:List Value),
  List.foldl (λx1 x2=>x1++x2) acc.toArray (Qu k its.toArray)=(acc++(Qu k its).flatten).toArray
 |0,acc=>by simp
 |k+1,acc=>by
  have e:acc.toArray++its.toArray=(acc++its).toArray:=by simp
  have I:(acc++its)++(Qu k its).flatten=acc++(Qu (k+1) its).flatten:=by
   rw[Ua,Vh,Qf]
  rw[<- I,<- Zgs its k (acc++its),<- e,Ua,List.foldl_cons]
section
variable {X:Cx}{pins:List (Addr×Obj)}{σ:St}{H:Hp}{s:Shared}{l b:Addr}{xs ys zs:List V}
theorem Inv.lset {its its':List Value}{n:Nat}{f:Array Value->Array Value}{t':Nat}(I:Inv X pins σ H s)(hH:H l=some (.lst xs))
  (e:s.heap.get? l=some { cls:=.type "list",data:=.seq its.toArray n }) (hf:f its.toArray=its'.toArray) (hv:Vals ys its') (hz:ys.length<=sizeLine) :
  Inv X pins σ (upd H l (.lst ys)) { s with heap:=s.heap.update l (Qw f),toks:=t' }:=by
 have q:=PySem.IsL.update e f;rw[hf]at q;refine I.write (x:=l) (e:=l) (by rw[hH];exact trivial) (.inl rfl) (λU u hb O=>(Ra s.heap (Qw f) (Pw hb)).trans O) ⟨_,q⟩ ?_;exact⟨hz,its',_,hv,q⟩
theorem Inv.lnew (I:Inv X pins σ H s)(hv:Vals ys its)(hz:ys.length<=sizeLine) :
  Inv X pins σ (upd H s.heap.objs.size (.lst ys)) { s with heap:=s.heap.push { cls:=.type "list",data:=.seq its.toArray },toks:=t' } :=
 I.laid (λ_ _ q=>Po _ q) (Pl _) ⟨hz,its,0,hv,P3 _ rfl⟩
theorem Inv.fresh (I:Inv X pins σ H s):H s.heap.objs.size=none:=I.hok.fresh (Pl _)
theorem Inv.lstM (I:Inv X pins σ H s)(hH:H l=some (.lst xs)):xs.length<=sizeLine/\eX2 λ(its:List Value)(n:Nat)=>Vals xs its/\xs.length=its.length/\s.heap.get? l=some { cls:=.type "list",data:=.seq its.toArray n }:=by
 obtain⟨z,its,n,r,e⟩:=I.hok l _ hH;exact⟨z,its,n,r,r.length,e⟩
theorem Zkh (h:n<=sizeLine):U4 n=false:=by
 unfold U4;exact decide_eq_false (by lia)
end
section
variable {X:Cx}
def Zik:V->List V->Hp->VK->Prop:=λx vs H Q=>eX3 λl xs y=>x=.ref l/\vs=[y]/\H l=some (.lst xs)/\xs.length<sizeLine/\Q .non (upd H l (.lst (xs++[y])))
theorem C0:MtM X "list.append" Zik:=by
 intro pins s σ H x vs v us Q I Z Y h;obtain⟨l,xs,y,rfl,rfl,U,hz,q⟩:=h;cases Z;obtain⟨u,rfl,ru⟩:=Y.one;obtain⟨z,O,n,r,hl,e⟩:=I.lstM U;refine Sy F.slot_list_append ⟨_,e,rfl⟩ F.entry_list_append (F.args_list_append_2 _ _) (PySem.list_append l O.toArray n u (by rw[Pm];lia)) ⟨e,?_⟩;refine⟨.non,_,I.lset (its':=O++[u]) U e (by simp) (r.append (.cons ru .nil)) ?_,rfl,q⟩;rw[Pn,Py];lia
def Zu6:V->List V->Hp->VK->Prop:=λx vs H Q=>eX4 λl b xs zs=>x=.ref l/\vs=[.ref b]/\H l=some (.lst xs)/\H b=some (.lst zs)/\xs.length+zs.length<=sizeLine/\Q .non (upd H l (.lst (xs++zs)))
theorem Zcx:MtM X "list.extend" Zu6:=by
 intro pins s σ H x vs v us Q I rx rv h;obtain⟨l,b,xs,zs,rfl,rfl,hH,hB,hz,q⟩:=h;cases rx;obtain⟨u,rfl,ru⟩:=rv.one;cases ru;obtain⟨z,U,n,r,hl,e⟩:=I.lstM hH;obtain⟨z2,O,n2,r2,aa,e2⟩:=I.lstM hB;have Z:U.toArray.size+O.toArray.size<=sizeLine:=by rw[Pm,Pm];lia
 have Y:¬(!U.toArray.isEmpty && U4 (U.toArray.size+O.toArray.size))=true:=by
  rw[Zkh Z,Bool.and_false];exact Pt
 refine Sy F.slot_list_extend ⟨_,e,rfl⟩ F.entry_list_extend (F.args_list_extend_2 _ _)
  (AutoSeq1.list_extend_list_list_0 l U.toArray n b O.toArray n2 Y (by rw[Pm];lia) (by lia)) ⟨e,e2,?_⟩
 refine⟨.non,_,I.lset (its':=U++O) hH e (by simp) (r.append r2) ?_,rfl,q⟩;rw[Pn];lia
def rPop:V->List V->Hp->VK->Prop:=λx vs H Q=>eX3 λl xs y=>x=.ref l/\vs=[]/\H l=some (.lst xs)/\xs[xs.length-1]?=some y/\Q y (upd H l (.lst xs.dropLast))
theorem M9:MtM X "list.pop" rPop:=by
 intro pins s σ H x vs v us Q I rx rv h;obtain⟨l,xs,y,rfl,rfl,Z,hy,q⟩:=h;cases rx;have Y:=rv.zero;subst Y;obtain⟨z,O,n,r,hl,e⟩:=I.lstM Z;obtain⟨u,hu,ru⟩:=r.get hy;have U:O.toArray[O.toArray.size-1]?=some u:=by
  show O.toArray[O.length-1]?=some u;rw[<- Array.getElem?_toList,<- hl];exact hu
 refine Sy F.slot_list_pop ⟨_,e,rfl⟩ F.entry_list_pop (F.args_list_pop_1 _) (MeetsSeq.list_pop_last l O.toArray n u U (by rw[Pm];lia)) ⟨e,?_⟩;refine⟨y,_,I.lset (its':=O.dropLast) Z e ?_ r.dropLast ?_,ru,q⟩
 ·show O.toArray.eraseIdxIfInBounds (O.toArray.size-1)=O.dropLast.toArray;rw[Pm,List.eraseIdxIfInBounds_toArray,Zop]
 ·rw[List.length_dropLast];lia
def rCat:R2:=λx y H Q=>eX4 λl b xs zs=>x=.ref l/\y=.ref b/\H l=some (.lst xs)/\H b=some (.lst zs)/\xs.length+zs.length<=sizeLine/\∀p,H p=none->Q (.ref p) (upd H p (.lst (xs++zs)))
theorem op_cat:OpR X (binaryOp .Add) rCat:=by
 intro pins s σ H x y v u Q I rx Z h;obtain⟨l,b,xs,zs,rfl,rfl,hH,hB,hz,q⟩:=h;cases rx;cases Z;obtain⟨z,U,n,r,hl,e⟩:=I.lstM hH;obtain⟨z2,O,n2,r2,Y,e2⟩:=I.lstM hB;refine PySem.P.add_list e e2 ?_ (by rw[Pm,Pm];lia);have ea:U.toArray++O.toArray=(U++O).toArray:=by simp
 rw[ea];exact⟨.ref _,_,I.lnew (t':=s.toks) (r.append r2) (by rw[Pn];lia),rfl,q _ I.fresh⟩
def rRep:R2:=λx y H Q=>eX3 λl k xs=>x=.ref l/\y=.int k/\H l=some (.lst xs)/\-(2 ^ 63)<=k/\k<2 ^ 63/\xs.length*k.toNat<=sizeLine /\
 ∀p,H p=none->Q (.ref p) (upd H p (.lst (Qu k.toNat xs).flatten))
theorem Zsv {α:Type}(xs:List α)(k:Nat):(Qu k xs).flatten.length=k*xs.length:=by
 induction k with
 |zero=>simp
 |succ k I=>rw[Ua,Vh,Pn,I,Nat.succ_mul,Nat.add_comm]
theorem Ztz:OpR X (binaryOp .Mult) rRep:=by
 intro pins s σ H x y v u Q I rx ry h;obtain⟨l,k,xs,rfl,rfl,hH,h1,h2,hz,q⟩:=h;cases rx;obtain⟨t,rfl⟩:=ry;obtain⟨z,O,n,r,hl,e⟩:=I.lstM hH;have ac:O.toArray.size*k.toNat<=sizeLine:=by rw[Pm,<- hl];exact hz
 have Z:¬O.toArray.size*k.toNat > (2 ^ 63-1) / 8:=by
  have:(sizeLine:Nat)<=(2 ^ 63-1) / 8:=by decide
  lia
 have aa:¬(!Builtin.List.listFitsIndex k)=true:=by
  rw[fitsIndex_both h1 h2];exact Pt
 have Y:¬U4 (O.toArray.size*k.toNat)=true:=by
  rw[Zkh ac];exact Pt
 have ad:List.foldl (λx1 x2=>x1++x2) #[] (Qu (if O.toArray.isEmpty=true then 0 else k.toNat) O.toArray)=(Qu k.toNat O).flatten.toArray:=by
  have f0:∀m:Nat,List.foldl (λx1 x2=>x1++x2) #[] (Qu m O.toArray)=(Qu m O).flatten.toArray:=λm=>by
   have:=Zgs O m [];rw[Sf]at this;exact this
  rw[f0];cases O with
  |nil=>simp
  |cons a r'=>rw[if_neg (by simp)]
 refine wpAny_binaryOp_repeat_ref (T:="list") (U:="int") (by decide) ⟨_,e,rfl⟩ (λs'=>typeIs_int s' k t) noFill_list_mul F.fills_int_mul F.slot_int_rmul repeat_list F.slot_int_index.lookup
  (Sy F.slot_int_rmul (typeIs_int s k t) F.entry_int_rmul (F.args_int_rmul_2 _ _) (int___rmul___int_list k t l O.toArray n)
   ⟨e,rfl,⟨_,e,rfl⟩,Sy F.slot_list_mul ⟨_,e,rfl⟩ F.entry_list_mul (F.args_list_mul_2 _ _) (AutoListH.list___mul___list_int_3 l O.toArray n k t aa Z Y) ⟨e,?_⟩⟩)
 rw[ad];exact⟨.ref _,_,I.lnew (t':=s.toks) (r.rep k.toNat) (by rw[Zsv,Nat.mul_comm];exact hz),rfl,q _ I.fresh⟩
end
section
variable {prog:Program}{w:World}{A:Around}{E:Value->Shared->Prop}{s:Shared}
end
section
variable {X:Cx}
end
end L2
namespace Att
open PySem PySem.W PySem.Calls PyProof.Rows
theorem Zob:∀(ns:List Int)(vs:List Value),WellAll P h vs (ns.map WData.int)->IntsAre vs ns:=by
 intro ns
 induction ns with
 |nil =>
  intro vs w;rw[Ur]at w;cases w;exact .nil
 |cons n ns I =>
  intro vs w;rw[Qq]at w;cases w with
  |cons a b =>
   cases a;exact .cons _ _ (I _ b)
theorem Zpo {l:OpenLaw}{n:Nat}(hn:l.most=some n){P:Params}{h:Heap}{args:List WData}{vals:List Value}
  (hpre:l.row.toRowW.claim.pre args=true) (hwl:WellAll P h vals args) :
  eX3 λa vs ns=>vals=[Value.ref a]/\args=[WData.list (ns.map WData.int)]/\h.get? a=some { cls:=.type "list",data:=.seq vs.toArray }/\IntsAre vs ns/\ns.length<=n:=by
 have Y:WShape.hasAll [] args [.list .int]=true:=(pre_splitW hpre).1;have Z:l.pre.holds [] { args:=args }=true:=(pre_splitW hpre).2;obtain⟨d,r,rfl,h1,h2⟩:=hasAllW_cons Y;obtain rfl:=hasAllW_nil h2;obtain⟨xs,rfl,h3⟩:=hasW_list h1;obtain⟨ns,rfl⟩:=items_int h3;have I:ns.length<=n:=by
  unfold OpenLaw.pre at Z;have U:(WTm.not (.lt (.lit (.int (n:Int))) (.len (.arg 0)))).holds [] { args:=[.list (ns.map .int)] }=true:=by
   have U:=(holds_andW Z).1;rw[hn]at U;exact U
  have h5:=condW_of U (w_not (w_lt w_lit (w_len_list (w_arg rfl))));rw[Pp]at h5;refine Nat.le_of_not_lt λq=>?_;have q':(n:Int)<((ns.length:Nat):Int):=by lia
  first
   | (rw[decide_eq_true q']at h5;exact absurd h5 (by decide))
   | (simp at h5;lia)
 cases hwl with
 |cons w1 w2 =>
  cases w2;cases w1 with
  |list ho O=>exact⟨_,_,ns,rfl,rfl,ho,Zob ns _ O,I⟩
theorem Zlr (l:OpenLaw)(args:List WData):l.row.toRowW.claim.post args (.bool true) args=true :=
 postW_of (r:=l.row.toRowW) (X:=(true == true))
  (show WShape.has [] (.bool true) .bool=true by first|rfl|decide|simp[WShape.has,WShape.arms,WShape.armsAll])
  (show(WTm.eq .res (.lit (.bool true))).value [] { args:=args,res:=some (.bool true),after:=args }=some (.bool (true == true)) from w_eq_bool (w_res rfl) w_lit) rfl
theorem attach_call {l:OpenLaw}{n:Nat}{q:Program}{loose:List Str}{XP:(Str->Option Value)->Heap->Prop}{YP:World->Heap->Prop}{d:DefRec}
  (hn:l.most=some n) (hdf:d.params.defaults=[])
  (call:∀(w:World)(s₀ s₁:Shared)(mg mb:Str->Option Value)(fa:Addr)(o:Obj)(pm cd doc:Value)(a:Addr)(vs:List Value)(ns:List Int),
   Ground q loose [] XP w s₀ mg mb s₁.heap->YP w s₁.heap ->
   s₁.heap.get? fa=some o->o.data=.func (docDef d.name d.params d.body d.scope pm cd doc)->s₁.heap.CodeRec cd d.name->mg d.name=some (.ref fa) ->
   s₁.heap.get? a=some { cls:=.type "list",data:=.seq vs.toArray }->IntsAre vs ns->ns.length<=n->s₁.gens=#[] ->
   codeAny (model l.prog w) callerA (.call (.ref fa) ⟨[.ref a],[]⟩) (λr s'=>r=.ok (.ret (.bool true))/\OldK s₁.heap s'.heap/\s'.os=s₁.os/\AllBare s'.gens) s₁) :
  WalkO q loose XP YP l.row.toRowW d [] (λf vs=>PySem.call f vs):=by
 intro w s₀ s₁ mg mb G Y fa o pm cd doc dV kV ho hd ac hD aa hg ae af as O ag ai ad ah;obtain rfl:dV=.none:=Dflts.none hD hdf;obtain rfl:kV=.none:=Dflts.noKw hD;obtain⟨a,vs,ns,rfl,rfl,Z,I,U⟩:=Zpo hn O ad;refine enter_call (Tq (call w s₀ s₁ mg mb fa o pm cd doc a vs ns G Y ho (fd_plain hd) ac aa Z I U hg) λr s' hq=>?_);obtain⟨rfl,h2,h3,h4⟩:=hq;exact⟨.inl ⟨.bool true,.bool true,[],rfl,λ_=>rfl,.bool true,Zlr l _,λ_=>⟨List.Pairwise.nil,λ_ hm=>(nomatch hm)⟩⟩,h2,h3,h4⟩
section
variable {prog:Program}{w:World}{A:Around}{E:Value->Shared->Prop}{s:Shared}{K:Frag}
end
end Att
namespace L2
open PySem PySem.Spec PyProof.Rows
theorem Zh0:∀{vs:List Value}{ns:List Int},IntsAre vs ns->Vals (ns.map V.int) vs
 |_,_,.nil=>.nil
 |_,_,.cons n t h=>.cons ⟨t,rfl⟩ (Zh0 h)
def Zd5 (H:Hp):Prop:=∀b,H b=none\/eX2 λo xs=>H b=some (.frz o (.lst xs))
theorem Zt9 {P:Program}{w:World}{K:Ph}{mg mb:Str->Option Value}{CX:C1}{k:Nat}{fa a:Addr}{fd:FuncData}{x:Str}{sp:Sp}{s₁:Shared}{vs:List Value}{ns:List Int}
  (KX:K.In s₁.heap) (hns:s₁.heap.Ns mainGlobals mg) (hb:s₁.heap.Ns builtinsNs mb) (hbb:∀x:Str,x≠"__name__" -> mb x=bootBuiltins x) (hlim:s₁.heap.NoLimit) (hg:s₁.gens=#[])
  (ha:s₁.heap.get? a=some { cls:=.type "list",data:=.seq vs.toArray }) (hi:IntsAre vs ns) (hl:ns.length<=sizeLine) (hr:Room k callerA)
  (F:∀base:Heap,K.In base->base.Ns mainGlobals mg->FnOk P w K mg base CX k fa fd [x] sp) (hbind:∀(s:Shared)(u:Value),BindsTo s fd ⟨[u],[]⟩ [(x,u)])
  (hsp:∀H:Hp,Zd5 H->SqL K H a (ns.map V.int)->sp [.ref a] H (λv _=>v=.bl true) λ_ _ _=>False)
  (hCX:∀H e s',CX [] H s₁ (λ_ _ _=>False) e s'->False) :
  codeAny (model P w) callerA (.call (.ref fa) ⟨[.ref a],[]⟩) (λr s'=>r=.ok (.ret (.bool true))/\OldK s₁.heap s'.heap/\s'.os=s₁.os/\AllBare s'.gens) s₁:=by
 have rv:=Zh0 hi;have aa:=hi.length;have U:∀H:Hp,Zd5 H->SqL K H a (ns.map V.int)->HOk P w H s₁.heap->(∀b,H b≠none->b=a)->(H a≠none->K.lookup a=none) ->
   codeAny (model P w) callerA (.call (.ref fa) ⟨[.ref a],[]⟩) (λr s'=>r=.ok (.ret (.bool true))/\OldK s₁.heap s'.heap/\s'.os=s₁.os/\AllBare s'.gens) s₁:=by
  intro H hO hS hok hA hK;have I:∀{b:Addr}{o:Obj},s₁.heap.get? b=some o->H b=none->(Hl s₁.heap H).get? b=some o:=λe n=>Zwq e n;have ac:∀{b:Addr}{o:Obj}{es:Array DictEntry}{ep:Nat},s₁.heap.get? b=some o->o.data=.dict es ep->H b=none:=λ{b o es ep} e d=>by
   cases q:H b with
   |none=>rfl
   |some u =>
    have e':b=a:=hA b (by rw[q];simp);subst e';rw[ha]at e;cases e;have d':Data.seq vs.toArray _=Data.dict es ep:=d;cases d'
  have O:∀{b:Addr}{m:Str->Option Value},s₁.heap.Ns b m->(Hl s₁.heap H).Ns b m:=λ{b m} ⟨o,es,ep,e,d,r⟩=>⟨o,es,ep,I e (ac e d),d,r⟩;have Y:K.In (Hl s₁.heap H):=λb o e=>I (KX b o e) (by
   cases q:H b with
   |none=>rfl
   |some u =>
    have e':b=a:=hA b (by rw[q];simp);subst e';rw[hK (by rw[q];simp)]at e;cases e)
  have hM:Mod K mg (Hl s₁.heap H):=⟨Y,O hns,⟨mb,O hb,hbb⟩,let ⟨mc,h1,h2⟩:=hlim;⟨mc,O h1,h2⟩⟩;have e0:Env0 P w K mg (Hl s₁.heap H) callerA [] s₁ H:=⟨rfl,hM,λb o e=>Zk0 e,Nat.le_of_eq (Zl6 _ _),trivial,λb hb=>absurd (show b∈([]:List Addr) from hb) (by simp),hok,.of_eq hg⟩;refine Tq ((F _ Y (O hns)).run callerA [] s₁ H ⟨[.ref a],[]⟩ [.ref a] [.ref a] _ _ hr e0 (hbind s₁ (.ref a)) (.cons rfl .nil) (hsp H hO hS)) λr s' h=>?_;cases r with
  |error e=>exact(hCX H e s' h).elim
  |ok fl =>
   cases fl with
   |next=>exact Qo h
   |brk=>exact Qo h
   |cont=>exact Qo h
   |ret u =>
    obtain⟨v,H',os,bare,un,Z,r',q⟩:=h;have q':v=.bl true:=q;subst q';obtain rfl:u=Value.bool true:=r';refine⟨rfl,OldK.of_keep λb o e=>?_,os,bare⟩;cases q:H b with
    |none=>exact un.keep b o e q (by intro z;exact absurd (show b∈([]:List Addr) from z) (by simp)) (by simp)
    |some u =>
     rcases hO b with z|⟨ob,xs,z⟩
     ·rw[q]at z;cases z
     ·have z2:=un.frzs b ob _ z;obtain⟨e1,_⟩:=hok b _ z;obtain⟨e2,_⟩:=Z b _ z2;rw[e]at e1;cases e1;exact e2
 cases hk:K.lookup a with
 |some o =>
  have e:=KX a o hk;rw[ha]at e;cases e;refine U (λ_=>none) (λ_=>.inl rfl) (.inr ⟨_,vs.toArray,_,hk,rfl,rfl,rfl,by rw[Pm,aa];exact hl,by simpa using rv⟩) (λb u z=>by have z':(none:Option HO)=some u:=z;cases z') (λb z=>absurd rfl z) λz=>absurd rfl z
 |none =>
  refine U (λb=>if b=a then some (.frz { cls:=.type "list",data:=.seq vs.toArray } (.lst (ns.map V.int))) else none) (λb=>?_) (.inl (.inr ⟨{ cls:=.type "list",data:=.seq vs.toArray },if_pos rfl⟩)) (λb u z=>?_) (λb z=>?_) λ_=>hk
  ·by_cases hb:b=a
   ·exact .inr ⟨_,_,if_pos hb⟩
   ·exact .inl (if_neg hb)
  ·by_cases hb:b=a
   ·have z':=(if_pos hb).symm.trans z;cases z';subst hb;exact⟨ha,by rw[Pp];exact hl,vs,_,rv,ha⟩
   ·have z':=(if_neg hb).symm.trans z;cases z'
  ·by_cases hb:b=a
   ·exact hb
   ·exact absurd (if_neg hb) z
theorem walk_of {l:W1}{n k:Nat}{q:Program}{loose:List Str}{XP:(Str->Option Value)->Heap->Prop}{YP:World->Heap->Prop}{d:DefRec}{K:Params->Ph}{CX:World->C1}{sp:World->Sp}{x:Str}
  (hn:l.most=some n) (hn2:n<=sizeLine) (hdf:d.params.defaults=[]) (hr:Room k callerA)
  (hY:∀(w:World)(h:Heap),YP w h->(K w.params).In h)
  (F:∀(w:World)(mg:Str->Option Value)(fa:Addr)(h:Heap),(K w.params).In h->h.Ns mainGlobals mg->mg d.name=some (.ref fa) ->
   ∃fd:FuncData,(∀(s:Shared)(u:Value),BindsTo s fd ⟨[u],[]⟩ [(x,u)]) /\
    ∀base:Heap,(K w.params).In base->base.Ns mainGlobals mg->FnOk l.prog w (K w.params) mg base (CX w) k fa fd [x] (sp w))
  (hsp:∀(w:World)(H:Hp)(a:Addr)(ns:List Int),ns.length<=n->Zd5 H->SqL (K w.params) H a (ns.map V.int)->sp w [.ref a] H (λv _=>v=.bl true) λ_ _ _=>False)
  (hCX:∀(w:World)(H:Hp)(s:Shared)(e:Value)(s':Shared),CX w [] H s (λ_ _ _=>False) e s'->False) :
  PySem.W.WalkO q loose XP YP l.row.toRowW d [] (λf vs=>PySem.call f vs):=by
 refine Att.attach_call hn hdf λw s₀ Z mg mb fa o pm cd ad a vs ns G Y ho hd ac aa U O I hg=>?_;have KX:=hY w _ Y;obtain⟨fd,hb,hF⟩:=F w mg fa _ KX G.T.g aa;exact Zt9 KX G.T.g G.T.b G.T.builtins G.T.nolimit hg U O (Qb I hn2) hr hF hb (λH hO hS=>hsp w H a ns I hO hS) λH e s'=>hCX w H Z e s'
noncomputable def Hu (s:Stmt):Arguments:=match s with
 |.FunctionDef _ a _ _ _ _ _ _ _ _=>a
 |_=>{ posonlyargs:=[],args:=[],vararg:=none,kwonlyargs:=[],kw_defaults:=[],kwarg:=none,defaults:=[] }
noncomputable def Gh (s:Stmt):List Stmt:=match s with
 |.FunctionDef _ _ b _ _ _ _ _ _ _=>b
 |_=>[]
noncomputable def A5 (s:Stmt):Scope:=match s with
 |.FunctionDef _ _ _ _ _ _ sc _ _ _=>sc
 |_=>{ kind:=.function,names:=[],isGenerator:=false,isCoroutine:=false }
noncomputable abbrev Aq:C1:=λ_ _ _ _ _ _=>False
noncomputable abbrev E0:XK:=λ_ _ _=>False
theorem D8:G6 Aq X E0:=λ_ _ _ _ _ _ _ h=>h.elim
structure Fun (K:Ph)(x qual:Str)(st:Stmt)(f:Addr)(fd:FuncData):Prop where
 ex:eX9 λ(oc:Value)(od:Option Addr)(kV doc pm:Value)(an:Option Addr)(cdv ct:Value)(osl:Array (Option Value))=>
  fd=Sg x qual (Hu st) (Gh st) (A5 st) .none kV doc pm an cdv ct/\K.lookup f=some ⟨oc,od,.func fd,osl⟩/\PySem.W.codeIn K cdv qual=true
 kp:Rl K (.ref f)=true
section
variable {P:Program}{w:World}{K:Ph}{mg:Str->Option Value}{base:Heap}
theorem Fun.ok {x qual:Str}{st:Stmt}{f:Addr}{fd:FuncData}{N ps:List Str}{k:Nat}{sp:Sp}(F:Fun K x qual st f fd)(S:Bb N ps (A5 st))(len:∀vs H Q E,sp vs H Q E->vs.length=ps.length)
  (hbody:∀(cdv:Value)(A:Around)(outer:List Env)(s:Shared)(H:Hp)(vs:List V)(Q:VK)(E:XK),Room k (A.deeper (envOfC qual (A5 st) s.heap.objs.size f cdv))->sp vs H Q E ->
   ∃t,PSs (Fh Aq P w K mg base N qual (A5 st) f cdv A outer s H E).nox (Gh st) t/\t { nx:=λ_ H'=>Q .non H',rt:=Q } (Gq N vs) H):FnOk P w K mg base Aq (k+1) f fd ps sp:=by
 obtain⟨oc,od,kV,Y,pm,an,cdv,ct,U,rfl,Z,I⟩:=F.ex;refine Zhr Z I S len λA outer s H vs Q E hr O=>?_;obtain⟨t,h,q⟩:=hbody cdv A outer s H vs Q E hr O;exact⟨t,h.nox,q⟩
theorem Fun.binds {x qual:Str}{st:Stmt}{f:Addr}{fd:FuncData}{ps:List Str}(F:Fun K x qual st f fd)
  (h:∀(kV doc pm:Value)(an:Option Addr)(cdv ct:Value)(us:List Value),us.length=ps.length->bindArgs (Sg x qual (Hu st) (Gh st) (A5 st) .none kV doc pm an cdv ct) ⟨us,[]⟩=pure (ps.zip us)):Binds K fd ps []:=by
 obtain⟨Y,od,kV,doc,pm,an,cdv,ct,O,rfl,U,I⟩:=F.ex;exact .all (h kV doc pm an cdv ct)
theorem fun_mk {x qual:Str}{st:Stmt}{f:Addr}{oc:Value}{od an:Option Addr}{osl:Array (Option Value)}{kV doc pm cdv ct:Value}(l:K.lookup f=some ⟨oc,od,.func (Sg x qual (Hu st) (Gh st) (A5 st) .none kV doc pm an cdv ct),osl⟩)
  (c:PySem.W.codeIn K cdv qual=true) (k:Rl K (.ref f)=true):Fun K x qual st f (Sg x qual (Hu st) (Gh st) (A5 st) .none kV doc pm an cdv ct):=⟨⟨oc,od,kV,doc,pm,an,cdv,ct,osl,rfl,l,c⟩,k⟩
end
section
variable {X:Cx}
end
theorem iteF {A B:Prop}(h:B):if false=true then A else B:=by
 rw[if_neg Pt];exact h
theorem iteT {A B:Prop}(h:A):if true=true then A else B:=by
 rw[if_pos rfl];exact h
theorem Be {c A B:Prop}[Decidable c](h1:c->A)(h2:¬c->B):if c then A else B:=by
 by_cases h:c
 ·rw[if_pos h];exact h1 h
 ·rw[if_neg h];exact h2 h
def Same (H H':Hp):Prop:=∀b o,H b=some o->H' b=some o
theorem Same.refl (H:Hp):Same H H:=λ_ _ h=>h
theorem Same.trans (a:Same H H1)(b:Same H1 H2):Same H H2:=λc o h=>b c o (a c o h)
theorem Same.free (e:Same H H')(h:H' l=Option.none):H l=Option.none:=by
 cases q:H l with
 |none=>rfl
 |some o =>
  rw[e l o q]at h;cases h
theorem Same.seq {K:Ph}{H H':Hp}{a:Addr}{xs:List V}(e:Same H H')(h:SqL K H a xs):SqL K H' a xs:=by
 rcases h with(h|⟨o,h⟩)|h
 ·exact .inl (.inl (e _ _ h))
 ·exact .inl (.inr ⟨o,e _ _ h⟩)
 ·exact .inr h
end L2
set_option maxHeartbeats 8000000
namespace L2
open PySem PySem.Spec PyProof.Rows
noncomputable def Fc (env:Env):List (Str×NameKind)->List (Str×Addr)->List (Str×Addr)
 |[],I=>I
 | (n,k)::r,I=>Fc env r (if k == .free then (match env.cells.lookup n with|some a=>(n,a)::I|none=>I) else I)
theorem Zca:∀{ns:List (Str×NameKind)}{acc:List (Str×Addr)}{x:Str}{c:Addr},(∀x c,acc.lookup x=some c->env.cells.lookup x=some c)->(Fc env ns acc).lookup x=some c->env.cells.lookup x=some c
 |[],acc,x,c,h,e=>h x c e
 | (n,k)::r,acc,x,c,h,e=>by
  refine Zca (ns:=r) ?_ e;intro y d;split
  ·split
   ·rename_i a O;intro q;rw[Sb]at q;split at q
    ·rename_i U;have I:y=n:=by simpa using U
     subst I;rw[O];exact q
    ·exact h y d q
   ·exact h y d
  ·exact h y d
theorem Zgm:∀{ns:List (Str×NameKind)}{acc:List (Str×Addr)}{x:Str},(acc.lookup x).isSome=true->((Fc env ns acc).lookup x).isSome=true
 |[],acc,x,h=>h
 | (n,k)::r,acc,x,h=>by
  refine Zgm (ns:=r) ?_;split
  ·split
   ·rw[Sb];split
    ·rfl
    ·exact h
   ·exact h
  ·exact h
theorem Ze2:∀{ns:List (Str×NameKind)}{acc:List (Str×Addr)}{x:Str},(x,NameKind.free)∈ns->(env.cells.lookup x).isSome=true->((Fc env ns acc).lookup x).isSome=true
 |[],acc,x,h,_=>by cases h
 | (n,k)::r,acc,x,h,I=>by
  rcases Pr.mp h with e|e
  ·cases e;refine Zgm (ns:=r) ?_;obtain⟨a,O⟩:=R6.mp I;rw[if_pos (by rfl),O];show(R3 n ((n,a)::acc)).isSome=true;rw[Sb];simp
  ·exact Ze2 (ns:=r) e I
theorem Zgn (h:∀x∈scope.names,x.2=.free->(env.cells.lookup x.1).isSome=true):closureFor scope env=pure (Fc env scope.names []):=by
 have all:∀(ns:List (Str×NameKind))(I:List (Str×Addr)),(∀x∈ns,x.2=.free->(env.cells.lookup x.1).isSome=true) ->
   (forIn ns I λ(x:Str×NameKind) (cs:List (Str×Addr))=>(if (x.2 == NameKind.free)=true then do let a <- cellOf env x.1;pure (ForInStep.yield ((x.1,a)::cs)) else pure (ForInStep.yield cs):Sem (ForInStep (List (Str×Addr)))))=pure (Fc env ns I):=by
  intro ns
  induction ns with
  |nil=>intro I _;rfl
  |cons x r ih =>
   intro I Z;obtain⟨n,k⟩:=x;rw[Uj];by_cases U:(k == NameKind.free)=true
   ·obtain⟨a,Y⟩:=R6.mp (Z (n,k) Uc (by simpa using U));have Y:env.cells.lookup n=some a:=Y;have O:cellOf env n=pure a:=by unfold cellOf;rw[Y]
    simp only[U,if_true,O];refine Eq.trans (ih ((n,a)::I) λy hy=>Z y (Rt _ hy)) ?_
    conv=>rhs;unfold Fc
    simp only[U,if_true,Y]
   ·simp only[U];refine Eq.trans (ih I λy hy=>Z y (Rt _ hy)) ?_
    conv=>rhs;unfold Fc
    simp only[U];rfl
 unfold closureFor;exact(by
  have:=all scope.names [] h
  first|exact this|(simp only[bind_pure] ;exact this)|simpa using this)
noncomputable def Dx (X:Cx)(scope:Scope)(C:Addr)(N:List Str)(s₀:Shared)(H₀:Hp)(ex:List Addr):Cx where
 prog:=X.prog
 w:=X.w
 K:=X.K
 mg:=X.mg
 base:=X.base
 A:=X.A
 N:=N
 s₀:=s₀
 H₀:=H₀
 env:=compEnvC scope (Fc X.env scope.names []) C X.env
 outer:=X.stack
 stack:=X.stack
 ex:=ex
 fn:=λ_=>false
 calm:=X.calm
 pn:=[]
 xe:=λ_ _=>False
structure Ja (sc:Scope)(env:Env):Prop where
 kind:sc.kind=.function
 nocell:∀y∈sc.names,y.2≠.cell
 loc:∀y∈sc.names,y.2=.local->sc.names.lookup y.1=some .local
 free:∀x∈sc.names,x.2=.free->(env.cells.lookup x.1).isSome=true
theorem Zai {env:Env}:∀{names:List (Str×NameKind)}{x:Str}{k:NameKind},((names.map λ(n,k)=>if (k == NameKind.free && env.scope.kind == .function && env.kindOf n == some .cell) then (n,NameKind.cell) else (n,k)).lookup x=some k) ->
  ∃k',names.lookup x=some k'/\(k'=k\/(k'=.free/\k=.cell))
 |[],x,k,h=>by simp at h
 | (n,q)::r,x,k,h=>by
  have U:=@Zai env r x k;have h:R3 x ((if (q == NameKind.free && env.scope.kind == .function && env.kindOf n == some .cell)=true then (n,NameKind.cell) else (n,q))::_)=some k:=h;rw[Sb];cases O:x == n with
  |true =>
   by_cases I:(q == NameKind.free && env.scope.kind == .function && env.kindOf n == some .cell)=true
   ·rw[if_pos I]at h;simp only[Sb,O]at h;refine⟨q,rfl,.inr ⟨?_,(Qg h).symm⟩⟩;simp only[Rw]at I;simpa using I.1.1
   ·rw[if_neg I]at h;simp only[Sb,O]at h;exact⟨q,rfl,.inl (Qg h)⟩
  |false =>
   by_cases I:(q == NameKind.free && env.scope.kind == .function && env.kindOf n == some .cell)=true
   ·rw[if_pos I]at h;simp only[Sb,O]at h;exact U h
   ·rw[if_neg I]at h;simp only[Sb,O]at h;exact U h
def Ih (X:Cx)(scope:Scope)(N:List Str)(σ σ0:St):Prop :=
 σ0.length=N.length/\∀(i:Nat)(x:Str)(v:V),N[i]?=some x->σ0[i]?=some (some v)->∃j:Nat,X.N[j]?=some x/\σ[j]?=some (some v)/\scope.names.lookup x=some .free/\(X.env.kindOf x=some .cell\/X.env.kindOf x=some .free)
section
variable {X:Cx}
theorem Zsr (I:Inv X pins σ H s)(S:Ja scope X.env)(hf:∀b∈fp,FpOk X pins H b)(hlt:∀b∈fp,b<s.heap.objs.size)(T:Ih X scope N σ σ0)(hn:h'.Ns s.heap.objs.size (λ_=>none))(hk:∀b o,s.heap.get? b=some o->h'.get? b=some o) :
  Inv (Dx X scope s.heap.objs.size N s H fp) [] σ0 H { s with heap:=h',toks:=tk }:=by
 have O:∀x c,(Fc X.env scope.names []).lookup x=some c->X.env.cells.lookup x=some c:=λx c e=>Zca (ns:=scope.names) (acc:=[]) (λy d z=>by simp at z) e;have Y:∀x,scope.names.lookup x=some .free->∃c,(Fc X.env scope.names []).lookup x=some c:=λx e=>by
  have m:=Sl e;exact R6.mp (Ze2 m (S.free _ m rfl))
 have ac:∀b∈fp,b ∉ B4 X.stack:=λb hb z=>by
  obtain⟨_,f1,f2,_⟩:=hf b hb;rcases Pr.mp (I.stkSub b z) with e|e
  ·exact f1 e
  ·exact f2 e
 have Z:∀x,((relabel scope X.env).names.lookup x=some .cell\/(relabel scope X.env).names.lookup x=some .free)->scope.names.lookup x=some .free:=λx hx=>by
  rcases hx with hx|hx
  ·obtain⟨k',e,q⟩:=Zai hx;rcases q with q|⟨q,_⟩
   ·subst q;exact absurd rfl (S.nocell _ (Sl e))
   ·rw[e,q]
  ·obtain⟨k',e,q⟩:=Zai hx;rcases q with q|⟨_,q⟩
   ·rw[e,q]
   ·cases q
 have noex:∀b o,X.base.get? b=some o->b ∉ fp:=λb o e hb=>by
  obtain⟨_,_,_,f3,_⟩:=hf b hb;rcases f3 with z|z
  ·exact I.ok.noex b o e z
  ·exact absurd (P9 (Pq e) (Qb I.ok.bsz z)) (Q5 _)
 refine⟨⟨I.ok.mod,S.kind,I.ok.glob,I.ok.blt,Pl _,λx y c e1 e2=>I.ok.inj x y c (O x c e1) (O y c e2),λx hx=>Y x (Z x hx),λx c z=>absurd (show false=true from z) Pt,I.ok.hd,I.ok.frames,.inl rfl,
   λb hb=>⟨P0 (hlt b hb),λx c e=>(hf b hb).2.2.2.2.1 x c (O x c e)⟩,I.bs,Qb I.ok.bsz I.sz,noex,ac,I.stack,I.stkFree⟩,
  rfl,I.bare,Un.kept hk,⟨_,hn,λi x v e1 e2 e3=>?_⟩,λx c e=>?_,I.hok.fresh (Pl _),λx c e=>I.freeC x c (O x c e),λp hp=>absurd (show p∈([]:List (Addr×Obj)) from hp) (by simp),I.hok.kept hk,T.1⟩
 ·obtain⟨j,hj,hs,aa,U⟩:=T.2 i x v e1 e2;obtain⟨m,_,hl⟩:=I.loc;obtain⟨u,r,l⟩:=hl j x v hj hs (U.elim (λz=>Or.inr (Or.inl z)) λz=>Or.inr (Or.inr z));refine⟨u,r,.inr ⟨?_,?_⟩⟩
  ·show(relabel scope X.env).names.lookup x=some .cell\/(relabel scope X.env).names.lookup x=some .free;rcases e3 with z|z|z
   ·obtain⟨k',e,q⟩:=Zai (show(relabel scope X.env).names.lookup x=some .local from z);rw[aa]at e;cases e;rcases q with q|⟨_,q⟩ <;> cases q
   ·exact .inl z
   ·exact .inr z
  ·obtain⟨c,hc⟩:=Y x aa;refine⟨c,hc,?_⟩;rcases l with⟨k,_⟩|⟨_,c',e,z⟩
   ·rcases U with U|U <;> (rw[U]at k;cases k)
   ·have e':=O x c hc;rw[e]at e';cases e';obtain⟨o,ho,hd⟩:=z;exact⟨o,hk _ o ho,hd⟩
 ·obtain⟨v,o,ho,hd⟩:=I.cell x c (O x c e);exact⟨v,o,hk _ o ho,hd⟩
theorem Zwl (I:Inv X pins σ H s)(hf:∀b∈fp,FpOk X pins H b)(I':Inv (Dx X scope s.heap.objs.size N s H fp) pins' σ' H' s')(hs:P4 s.heap.objs.size s'.heap h'):Inv X pins σ H' { s' with heap:=h' }:=by
 have Y:H' s.heap.objs.size=none:=I'.free;have ne:∀b o,s.heap.get? b=some o->b≠s.heap.objs.size:=λb o e=>P0 (Pq e);have B:Un (B4 X.stack) fp H H' s.heap s'.heap:=I'.base;refine I.call' (s':={ s' with heap:=h' }) (ch:=fp) I'.os ⟨λb o e n hb O=>?_,λb o e n hb O=>?_,B.free,λb o e O=>?_,B.tups,B.frzs,B.tbls⟩ (λb o e=>?_) I'.bare (λb hb=>?_)
 ·exact(hs.2 b (ne b o e)).trans (B.keep b o e n hb O)
 ·obtain⟨sl,q⟩:=B.slot b o e n hb O;exact⟨sl,(hs.2 b (ne b o e)).trans q⟩
 ·obtain⟨o',q⟩:=B.there b o e O;exact⟨o',(hs.2 b (ne b o e)).trans q⟩
 ·refine(I'.hok b o e).stay (λc w' U q=>(hs.2 c ?_).trans q) (λ_ q=>q) λ_ _ q=>q;rintro rfl;rcases U with rfl|U
  ·rw[Y]at e;cases e
  ·rw[Y]at U;cases U
 ·obtain⟨_,Z,_,f3,f4,f5⟩:=hf b hb;exact⟨f3,Z,f4,f5⟩
end
section
variable {prog:Program}{w:World}{A:Around}{R:Result->Shared->Prop}{s:Shared}
theorem Zli (I:Nat->Shared->Prop)(turn:∀n s,I n s->wpAny (model prog w) A (pyNext it) (λr s₁=>match r with
   |none=>R (.ok .next) s₁
   |some v=>wpAny (model prog w) A (letOwnedTupleGo target it v) (λ_ s₁'=>wpAny (model prog w) A (assign target env v) (λ_ s₂ =>
     wpAny (model prog w) A (forIn ifs true λc r=>if r=true then do let ok <- isTrue c env (eval c env);pure (ForInStep.yield ok) else pure (ForInStep.yield r)) (λok s₃ =>
      if ok=true then wpAny (model prog w) A (eval elt env) (λx s₄ =>
       wpAny (model prog w) A (call (.builtin "list.append") [acc,x]) (λ_ s₅=>∃m,m<n/\I m s₅) (λ_ _=>False) s₄) (λ_ _=>False) s₃
      else ∃m,m<n/\I m s₃) (λ_ _=>False) s₂) (λ_ _=>False) s₁') (λ_ _=>False) s₁) (λ_ _=>False) s)(n:Nat)(h:I n s):codeAny (model prog w) A (.compLoop (.ListComp elt [⟨target,iter,ifs,0⟩] scope pos) 0 it acc env) R s:=by
 refine codeAny_loop rfl I (λn s hI=>?_) n h;show wpAny _ A ((compTurn (.ListComp elt [⟨target,iter,ifs,0⟩] scope pos) 0 it acc env).onRaise (λx=>do noteFrame x env;theTreesLotGoes x)) _ _ s;refine wpAny_noted ?_;rw[compTurn_list];have up:∀{α:Type}{t:Sem α}{Q:α->Shared->Prop}{s:Shared}{E:Value->Shared->Prop},wpAny (model prog w) A t Q (λ_ _=>False) s->wpAny (model prog w) A t Q E s:=λh=>wpAny_noRaise h;refine Pi (wpAny_standAt (Pi (up (As (turn n s hI) λr s₁ O=>?_))));cases r with
 |none=>exact Pk O
 |some v =>
  refine Pi (up (As O λ_ s₁' Y=>?_));refine Pi (up (As Y λ_ s₂ aa=>Pi (up (As aa λok s₃ U=>?_))));cases ok with
  |false=>exact Pk ⟨rfl,U⟩
  |true =>
   exact Pi (Pi (up (As U λx s₄ Z=>Pi (up (As Z λ_ s₅ ac=>Pk (Pk ⟨rfl,ac⟩))))))
end
def Za5 (J:It)(g:TG)(tt:TT)(te:TE)(σ0:St)(H1:Hp)(D:Addr)(Q:VK):Prop :=
 ∃W:Nat->Nat->St->Hp->Prop,(∃m,W 0 m σ0 (upd H1 D (.lst [])))/\∀i m σ' H',W i m σ' H' ->
  (J.stop i H'/\Q (.ref D) H')\/(J.go i H'/\∃N:St->Hp->Prop,(∀I H2,N I H2->∃m',m'<m/\W (i+1) m' I H2)/\∀x H2,J.yld i H' x H2->g x σ' H2 λI Y=>tt I Y λb U =>
   if b=true then te I U λy O=>∃ys,O D=some (.lst ys)/\ys.length<sizeLine/\N I (upd O D (.lst (ys++[y]))) else N I U)
def Mr (wi:TI)(σ0:St->St)(g:TG)(tt:TT)(te:TE):TE:=λσ H Q=>wi σ H λJ H1=>∀D,H1 D=none->Za5 J g tt te (σ0 σ) H1 D Q
def Jc (X:Cx)(ifs:List Expr)(t:TT):Prop :=
 ∀(pins:List (Addr×Obj))(s:Shared)(σ:St)(H:Hp)(Q:Bool->Hp->Prop),Inv X pins σ H s->t σ H Q ->
  wpAny (model X.prog X.w) X.A (forIn ifs true λc r=>if r=true then do let ok <- isTrue c X.env (eval c X.env);pure (ForInStep.yield ok) else pure (ForInStep.yield r)) (TP X pins σ Q) X.xe s
def Zcs:TT:=λ_ H Q=>Q true H
section
variable {X:Cx}{elt target iter:Expr}{ifs:List Expr}{scope:Scope}{pos:Pos}{N:List Str}{wi:TI}{σ0:St->St}{g:TG}{tt:TT}{te:TE}
theorem Ze0 {pins:List (Addr×Obj)}{σ:St}{H:Hp}{s:Shared}{it:Addr}{fp:List Addr}{tn:Nat->Heap->Prop}{J:It}{Q:Addr->Hp->Prop}{RR:Value->Addr->Result->Shared->Prop}{E:Value->Shared->Prop}
  (hc:X.calm=true) (S:Ja scope X.env) (T:Ih X scope N σ (σ0 σ)) (I:Inv X pins σ H s) (Tn:Jf X.prog X.w X.K target J fp it tn) (st:tn 0 s.heap) (hf:∀b∈fp,FpOk X pins H b)
  (hg:∀C s H fp,PG (Dx X scope C N s H fp) target g) (ht:∀C s H fp,Jc (Dx X scope C N s H fp) ifs tt) (he:∀C s H fp,PE (Dx X scope C N s H fp) elt te)
  (hw:∀D,H D=none->∃W:Nat->Nat->St->Hp->Prop,(∃m,W 0 m (σ0 σ) (upd H D (.lst [])))/\∀i m σ' H',W i m σ' H' ->
   (J.stop i H'/\Q D H')\/(J.go i H'/\∃N:St->Hp->Prop,(∀σ2 H2,N σ2 H2->∃m',m'<m/\W (i+1) m' σ2 H2)/\∀x H2,J.yld i H' x H2->g x σ' H2 λσ2 H3=>tt σ2 H3 λb H4 =>
    if b=true then te σ2 H4 λy H5=>∃ys,H5 D=some (.lst ys)/\ys.length<sizeLine/\N σ2 (upd H5 D (.lst (ys++[y]))) else N σ2 H4))
  (hR:∀(D C:Addr)(H':Hp)(s':Shared)(m:Str->Option Value),s.heap.objs.size<=C->H' C=none->s'.heap.Ns C m->(∀h',P4 C s'.heap h'->Inv X pins σ H' { s' with heap:=h' })->Q D H'->RR (.ref D) C (.ok .next) s') :
  wpAny (model X.prog X.w) X.A (newList []) (λacc s₃=>wpAny (model X.prog X.w) X.A (newFunctionEnv scope X.env.globals (Fc X.env scope.names []) [] X.env.qual none .none (some X.env)) (λcenv s₄ =>
   codeAny (model X.prog X.w) X.A (.compStart (.ListComp elt [⟨target,iter,ifs,0⟩] scope pos) 0 (.ref it) acc { cenv with scope:=relabel scope X.env }) (RR acc cenv.locals) s₄) E s₃) E s:=by
 refine R9 (wpAny_newFunctionEnv S.nocell (by intro y hy;simp at hy) (λaf ag ah=>?_) S.kind);have hD:H s.heap.objs.size=none:=I.hok.fresh (Pl _);have I3:Inv X pins σ (upd H s.heap.objs.size (.lst [])) { s with heap:=s.heap.push { cls:=.type "list",dict:=none,data:=.seq ([]:List Value).toArray } }:=I.lnew (ys:=[]) (its:=[]) (t':=s.toks) .nil (by simp);have a3:∀b∈fp,b<s.heap.objs.size:=λb hb=>by obtain⟨o,e,_⟩:=Tn.obj _ _ st b hb;exact Pq e
 have ai:∀b∈fp,FpOk X pins (upd H s.heap.objs.size (.lst [])) b:=λb hb=>⟨by rw[Af (P0 (a3 b hb))];exact(hf b hb).1,(hf b hb).2⟩;have al:∀b∈fp,b<({ s with heap:=s.heap.push { cls:=.type "list",dict:=none,data:=.seq ([]:List Value).toArray } }:Shared).heap.objs.size:=λb hb=>by
  show b<(s.heap.push _).objs.size;rw[Qt];exact Nat.lt_succ_of_lt (a3 b hb)
 have as:∀b o,({ s with heap:=s.heap.push { cls:=.type "list",dict:=none,data:=.seq ([]:List Value).toArray } }:Shared).heap.get? b=some o->af.get? b=some o:=λb o e =>
  ah.extBut b o (P0 (Pq e)) (Po _ e)
 have I4:=Zsr (N:=N) (tk:=s.toks+([]:List (Str×Value)).length) I3 S ai al T ag as;have av:tn 0 af:=Tn.keep _ _ _ st λb hb o e=>as b o (Po _ e);obtain⟨W,⟨m0,w0⟩,ay⟩:=hw _ hD;generalize hX:Dx X scope ({ s with heap:=s.heap.push { cls:=.type "list",dict:=none,data:=.seq ([]:List Value).toArray } }:Shared).heap.objs.size N { s with heap:=s.heap.push { cls:=.type "list",dict:=none,data:=.seq ([]:List Value).toArray } } (upd H s.heap.objs.size (.lst [])) fp=O at I4;have eP:O.prog=X.prog:=by rw[<- hX];rfl
 have eW:O.w=X.w:=by rw[<- hX];rfl
 have eK:O.K=X.K:=by rw[<- hX];rfl
 have eA:O.A=X.A:=by rw[<- hX];rfl
 have eC:O.calm=true:=by rw[<- hX];exact hc
 have eX:O.xe=λ_ _=>False:=by rw[<- hX];rfl
 have bj:O.ex=fp:=by rw[<- hX];rfl
 have a5:PG O target g:=by rw[<- hX];exact hg _ _ _ _
 have be:Jc O ifs tt:=by rw[<- hX];exact ht _ _ _ _
 have a8:PE O elt te:=by rw[<- hX];exact he _ _ _ _
 have eE:O.env=compEnvC scope (Fc X.env scope.names []) ({ s with heap:=s.heap.push { cls:=.type "list",dict:=none,data:=.seq ([]:List Value).toArray } }:Shared).heap.objs.size X.env:=by rw[<- hX];rfl
 have ae:∀{H':Hp},(∀b∈fp,H' b=none)->∀b∈fp,FpOk O [] H' b:=λ{H'} hn b hb=>by
  obtain⟨f0,f1,f2,f3,f4,f5⟩:=ai b hb;rw[<- hX];refine⟨hn b hb,P0 (al b hb),λz=>?_,.inl hb,λx c e=>f4 x c (Zca (ns:=scope.names) (acc:=[]) (λy d z=>by simp at z) e),λp hp=>absurd (show p∈([]:List (Addr×Obj)) from hp) (by simp)⟩;rcases Pr.mp (I3.stkSub b z) with e|e
  ·exact f1 e
  ·exact f2 e
 have a7:∀b∈fp,upd H s.heap.objs.size (.lst []) b=none:=λb hb=>(ai b hb).1;have ac:codeAny (model X.prog X.w) X.A (.compLoop (.ListComp elt [⟨target,iter,ifs,0⟩] scope pos) 0 (.ref it) (.ref s.heap.objs.size) O.env)
   (RR (.ref s.heap.objs.size) ({ s with heap:=s.heap.push { cls:=.type "list",dict:=none,data:=.seq ([]:List Value).toArray } }:Shared).heap.objs.size)
   { s with heap:=af,toks:=s.toks+([]:List (Str×Value)).length }:=by
  refine Zli (λn s'=>eX3 λi σ' H'=>Inv O [] σ' H' s'/\tn i s'.heap/\(∀b∈fp,H' b=none)/\W i n σ' H') ?_ m0 ⟨0,σ0 σ,_,I4,av,a7,w0⟩;rintro n s5 ⟨i,aj,H5,I5,a0,ax,w5⟩;rcases ay i n aj H5 w5 with⟨stop,qn⟩|⟨go,Nx,hN,step⟩
  ·have q:=Tn.done O eP eW eK eC i [] s5 aj H5 (λ_ _=>False) I5 (ae ax) a0 stop;rw[eA]at q;refine As q λr s6 zq=>?_;obtain⟨hr,I6⟩:=zq;subst hr;obtain⟨mm,ak,_⟩:=I6.loc;rw[eE]at ak;have aw:=I6.free;rw[eE]at aw;refine hR _ _ H5 s6 mm ?_ aw ak (λh' hs=>?_) qn
   ·show s.heap.objs.size<=(s.heap.push _).objs.size;rw[Qt];exact V6 _
   ·rw[<- hX]at I6;exact Zwl I3 ai I6 hs
  ·have q:=Tn.item O eP eW eK eC i [] s5 aj H5 (λ_ _=>False) I5 (ae ax) a0 go;rw[eA]at q;refine As q λr s6 zq=>?_;obtain⟨u,hr,h6⟩:=zq;subst hr;refine As h6 λ_ s7 zq=>?_;obtain⟨x,H7,I7,r7,y7,ao,bf⟩:=zq;have ba:=I7.pinned (ae bf) (Tn.obj _ _ ao);have q8:=a5 _ s7 aj H7 x u _ ba r7 (step x H7 y7);rw[eP,eW,eA,eX]at q8;refine As q8 λ_ s8 zq=>?_;obtain⟨Z,H8,I8,q8⟩:=zq;have q9:=be _ s8 Z H8 _ I8 q8;rw[eP,eW,eA,eX]at q9;refine As q9 λok s9 zq=>?_;obtain⟨H9,I9,q9⟩:=zq;have ad:∀{U:St}{Y:Hp}{aa:Shared},Inv O ([]++Mt fp s7.heap) U Y aa->Nx U Y->∃m,m<n/\eX3 λi σ' H'=>Inv O [] σ' H' aa/\tn i aa.heap/\(∀b∈fp,H' b=none)/\W i m σ' H':=λ{U Y aa} am an=>by
    obtain⟨m',hm,w10⟩:=hN U Y an;refine⟨m',hm,i+1,U,Y,am.unpinned,Tn.keep _ _ _ ao λb hb o e=>(am.pin (b,o) (Ri _ (Ri _ (Zao hb e)))).1,λb hb=>?_,w10⟩;obtain⟨o,e,d⟩:=Tn.obj _ _ ao b hb;exact(am.pin (b,o) (Ri _ (Ri _ (Zao hb e)))).2.1
   cases ok with
   |false =>
    have ap:Nx Z H9:=q9;exact ad I9 ap
   |true =>
    have ap:te Z H9 _:=q9;have au:=a8 _ s9 Z H9 _ I9 ap;rw[eP,eW,eA,eX]at au;refine As au λy aa zq=>?_;obtain⟨yv,Y,bb,bg,ys,bh,hz,an⟩:=zq;have aq:=(C0 (X:=O)) _ aa Z Y (.ref s.heap.objs.size) [yv] (.ref s.heap.objs.size) [y] (λ_ a4=>Nx Z a4) bb rfl (.cons bg .nil) ⟨_,ys,yv,rfl,rfl,bh,hz,an⟩;rw[eP,eW,eA,eX]at aq;exact As aq λ_ bi ⟨_,a4,a6,_,a9⟩=>ad a6 a9
 rw[eE]at ac;exact codeAny_compStart_list ac (Tn.self _ 0 _ _ _ av ac)
theorem Zsk (hc:X.calm=true)(S:Ja scope X.env)(hi:PI X target iter wi)(T:∀σ,σ.length=X.N.length->Ih X scope N σ (σ0 σ))
  (hg:∀C s H fp,PG (Dx X scope C N s H fp) target g) (ht:∀C s H fp,Jc (Dx X scope C N s H fp) ifs tt) (he:∀C s H fp,PE (Dx X scope C N s H fp) elt te)
  (hs:autoParam (∀x,foldedSetIterable iter X.env x=pure x) zE):PE X (.ListComp elt [⟨target,iter,ifs,0⟩] scope pos) (Mr wi σ0 g tt te):=by
 intro pins s σ H Q I h;rw[eval_ListComp];refine wpAny_comprehension_free (use:=none) rfl hs (Zgn S.free) S.kind S.loc (As (hi pins s σ H _ I h) λxv ad U=>As U λae ac O=>?_);obtain⟨it,fp,tn,J,H2,rfl,I2,Tn,Z,f2,hw⟩:=O;refine Ze0 (Q:=λD H'=>Q (.ref D) H') (RR:=λaa C=>compPost (model X.prog X.w) X.A X.xe none (EP X pins σ Q) aa C) hc S (T σ I.len) I2 Tn Z f2 hg ht he hw ?_;intro D C H' s' m hC _ hn hI hq;exact⟨m,hn,λh' Y=>⟨.ref D,H',hI h' Y,rfl,hq⟩⟩
theorem Zvr (hc:X.calm=true)(S:Ja scope X.env)(hi:PI X target iter wi)(T:∀σ,σ.length=X.N.length->Ih X scope N σ (σ0 σ))(hg:∀C s H fp,PG (Dx X scope C N s H fp) target g)(ht:∀C s H fp,Jc (Dx X scope C N s H fp) ifs tt)(he:∀C s H fp,PE (Dx X scope C N s H fp) elt te)(hN:X.N.Nodup)(hy:X.N[i]?=some y)(hx:Ee X.env.scope y)(hsw:autoParam (swapsWith (.ListComp elt [⟨target,iter,ifs,0⟩] scope pos) (some (.Name y py)) spos.line X.env=pure true) zX)(hf:autoParam (X.fn y=true\/X.env.scope.names.lookup y=some .local) zQ)(hs:autoParam (∀x,foldedSetIterable iter X.env x=pure x) zE):PS X (.Assign [.Name y py] (.ListComp elt [⟨target,iter,ifs,0⟩] scope pos) spos) (Ik (Mr wi σ0 g tt te) (Ep i)):=by
 intro pins s σ H D I h;rw[exec_Assign_Name_used _ _ _ _ hsw];refine Pi (wpAny_standAt (Pi ?_));show wpAny _ X.A (do let _ <- comprehension (.ListComp elt [⟨target,iter,ifs,0⟩] scope pos) scope X.env _ (newList []) false (eval iter X.env) (some (assign (.Name y py) X.env))) _ _ s;refine Pi (As (wpAny_comprehension_free (use:=some (assign (.Name y py) X.env)) (Q:=λ_ s'=>SP X pins D .next s') rfl hs (Zgn S.free) S.kind S.loc
  (As (hi pins s σ H _ I h) λxv aj aa=>As aa λak ai Z=>?_)) λ_ s' hq=>Pk (Pk hq))
 obtain⟨it,fp,tn,J,H2,rfl,U,Tn,af,f2,hw⟩:=Z;refine Ze0 (Q:=λL H'=>D.nx (σ.set i (some (.ref L))) H') (RR:=λad C=>compPost (model X.prog X.w) X.A X.xe (some (assign (.Name y py) X.env)) (λ_ s'=>SP X pins D .next s') ad C) hc S (T σ I.len) U Tn af f2 hg ht he hw ?_;intro L C H' s' m Y O hn hI hq;have I3:Inv X pins σ H' s':=hI s'.heap (.refl ..);refine wpAny_assign_Name (Zf2 I3 hN hy hx (v:=.ref L) rfl (λs4 I4 ah=>?_) hf);obtain⟨a,ag,ha⟩:=ah;have ae:C≠a:=by
  rintro rfl;rcases ha with e|e
  ·have:=U.lt;rw[<- e]at this;exact absurd (P9 this Y) (Q5 _)
  ·obtain⟨v,z⟩:=U.cell y _ e;exact absurd (P9 z.lt Y) (Q5 _)
 refine⟨m,hn.sameBut ag ae,λh' ac=>⟨_,H',?_,hq⟩⟩;have e4:({ s4 with heap:=h' }:Shared)={ s4 with heap:=h',toks:=s4.toks }:=rfl;rw[e4];refine I4.turned (it:=C) (λb o hb e=>(ac.2 b hb).trans e) O ?_ (.inr (Qb U.sz Y)) ?_ ?_
 ·exact Q1 (P9 U.lt Y)
 ·rintro x c e rfl;obtain⟨v,z⟩:=U.cell x _ e;exact absurd (P9 z.lt Y) (Q5 _)
 ·rintro p hp e;exact absurd (P9 (Pq (U.pin p hp).1) (by rw[e];exact Y)) (Q5 _)
end
section
variable {X:Cx}
theorem Zt7 {K:Ph}{T:String}:Rm K (.type T) (.type T)=some true:=by
 unfold Rm;rw[if_pos (by simp)]
theorem Zvu {K:Ph}{T U:String}{b:Bool}{l:List Value}(hm:PySem.W.kitMeta U=true)(hn:¬T=U)(hl:fastBuiltinMro T=some l)(hb:l.contains (.type U)=b):Rm K (.type T) (.type U)=some b:=by
 unfold Rm;rw[if_neg (by simp[hn])];show(if PySem.W.kitMeta U=true then Ss K (.type T) (.type U) else none)=some b;rw[if_pos hm];show(fastBuiltinMro T).map (·.contains (.type U))=some b;rw[hl,<- hb];rfl
theorem Zqt:OpR X (compareOp .LtE) (λx y H Q=>eX2 λi j=>x=.str i/\y=.str j/\Q (.bl (!(decide (j.cps.toList<i.cps.toList)))) H):=by
 intro pins s σ H x y v u Q I U O h;obtain⟨i,j,rfl,rfl,q⟩:=h;obtain⟨t,rfl⟩:=U;obtain⟨t',rfl⟩:=O;exact PySem.P.le_str (B2 I q rfl)
theorem Zu7:OpR X (compareOp .In) (λx y H Q=>eX2 λ(c:Nat)(j:Str)=>x=.str ⟨#[c]⟩/\y=.str j/\Q (.bl (decide (c∈j.cps.toList))) H):=by
 intro pins s σ H x y v u Q I O U h;obtain⟨c,j,rfl,rfl,q⟩:=h;exact Zpq pins s σ H _ _ v u Q I O U ⟨_,_,rfl,rfl,by rw[StrLaws.found_one];exact q⟩
theorem Zvk:OpR X (compareOp .NotIn) (λx y H Q=>eX2 λ(c:Nat)(j:Str)=>x=.str ⟨#[c]⟩/\y=.str j/\Q (.bl (!decide (c∈j.cps.toList))) H):=by
 intro pins s σ H x y v u Q I O U h;obtain⟨c,j,rfl,rfl,q⟩:=h;exact Zsu pins s σ H _ _ v u Q I O U ⟨_,_,rfl,rfl,by rw[StrLaws.found_one];exact q⟩
def Zcb:V->Option Int->Option Int->Hp->VK->Prop:=λx lo hi H Q=>∃z,x=.str z/\z.length<=sizeLine/\Q (.str (Uv z lo hi)) H
theorem sl_str:SlR X Zcb:=by
 intro pins s σ H x v vl vu lo hi sl Q I rx hs pl Z h;obtain⟨z,rfl,Y,q⟩:=h;obtain⟨t,rfl⟩:=rx;obtain⟨o,O,U,hd⟩:=hs;refine⟨"str",_,slot_str_getitem.lookup,typeIs_str _ _ _,?_⟩;cases pl with
 |none =>
  cases Z with
  |none=>exact U6 (l:=none) (u:=none) (st:=none) ⟨_,O,U,hd⟩ rfl (Vq ⟨Qb (V4 z _ _) Y,λt' k=>⟨.str (Uv z _ _),H,I.tok k,⟨t',rfl⟩,q⟩⟩)
  |int j u=>exact U6 (l:=none) (u:=some (j,u)) (st:=none) ⟨_,O,U,hd⟩ rfl (Vq ⟨Qb (V4 z _ _) Y,λt' k=>⟨.str (Uv z _ _),H,I.tok k,⟨t',rfl⟩,q⟩⟩)
 |int i ti =>
  cases Z with
  |none=>exact U6 (l:=some (i,ti)) (u:=none) (st:=none) ⟨_,O,U,hd⟩ rfl (Vq ⟨Qb (V4 z _ _) Y,λt' k=>⟨.str (Uv z _ _),H,I.tok k,⟨t',rfl⟩,q⟩⟩)
  |int j u=>exact U6 (l:=some (i,ti)) (u:=some (j,u)) (st:=none) ⟨_,O,U,hd⟩ rfl (Vq ⟨Qb (V4 z _ _) Y,λt' k=>⟨.str (Uv z _ _),H,I.tok k,⟨t',rfl⟩,q⟩⟩)
end
noncomputable def Its (z:Str):It:=⟨λi _=>i<z.cps.size,λi H x H'=>H'=H/\∃c,z.cps.toList[i]?=some c/\x=.str ⟨#[c]⟩,λi _=>i=z.cps.size⟩
theorem Zn2 (z:Str):["enumerate","zip","dict_itemiterator","dict_reverseitemiterator","odict_iterator","itertools.zip_longest","itertools.pairwise"].contains (strIterType z)=false:=by
 unfold strIterType;cases z.cps.all (· < 128) <;> decide
theorem Zfz (hh:A.handled=none)(it:Addr)(z:Str)(t:Tok):Walks P w A it [it] [it] z.cps.size (SignAt z) (λi h=>h.IsStrIter it (strIterType z) z t i):=by
 unfold strIterType;cases z.cps.all (· < 128)
 ·exact Walks.strWide hh it z t
 ·exact Walks.strAscii hh it z t
theorem Zt8 {P:Program}{w:World}{K:Ph}{tg:Expr}(it:Addr)(z:Str)(t:Tok):Jf P w K tg (Its z) [it] it (λi h=>h.IsStrIter it (strIterType z) z t i) where
 mem:=by simp
 obj:=λi h st b hb=>by
  have e:b=it:=by simpa using hb
  subst e;obtain⟨o,e,c,d⟩:=st;exact⟨o,e,λv z=>by rw[d]at z;cases z⟩
 keep:=λi h h' st k=>let ⟨o,e,r⟩:=st;⟨o,k it (by simp) o e,r⟩
 item:=by
  intro X Z hw hK hc i pins s σ H E I Y st U;subst Z hw hK;obtain⟨f0,f1,f2,f3,f4,f5⟩:=Y it (by simp);refine(Zfz (P:=X.prog) (w:=X.w) (I.ok.hd hc) it z t).item i s _ _ U st λv h' tk hv O kk=>?_;obtain⟨c,u,aa,rfl⟩:=hv;have I1:Inv X pins σ H { s with heap:=h',toks:=tk }:=I.turned (λb o hb e=>kk b o (by simpa using hb) e) f0 f1 f3 f4 f5;obtain⟨o,e,cc,d⟩:=id O;exact⟨_,rfl,Lp (s:={ s with heap:=h',toks:=tk }) e cc d (Zn2 z) ⟨.str ⟨#[c]⟩,H,I1,⟨u,rfl⟩,⟨rfl,c,by simpa using aa,rfl⟩,O,λb hb=>(Y b hb).1⟩⟩
 done:=by
  intro X Z hw hK hc i pins s σ H E I Y st U;subst Z hw hK;obtain⟨f0,f1,f2,f3,f4,f5⟩:=Y it (by simp);have U:i=z.cps.size:=U;subst U;exact(Zfz (P:=X.prog) (w:=X.w) (I.ok.hd hc) it z t).done s _ _ st λh' tk kk=>⟨rfl,I.turned (λb o hb e=>kk b o (by simpa using hb) e) f0 f1 f3 f4 f5⟩
 self:=λA i s Q E st h=>by
  obtain⟨o,e,c,d⟩:=st;unfold strIterType at c;cases ha:z.cps.all (· < 128)
  ·rw[ha]at c;exact wpAny_pyIter_striter_wide ⟨o,e,c,d⟩ h
  ·rw[ha]at c;exact wpAny_pyIter_striter_ascii ⟨o,e,c,d⟩ h
section
variable {X:Cx}{tg:Expr}
end
section
variable {g:TG}{tt:TT}{te:TE}{σ0:St}{H1:Hp}{D:Addr}{Q:VK}
def Zdo (g:TG)(tt:TT)(te:TE)(D:Addr)(Nx:List V->St->Hp->Prop)(x:V)(σ:St)(H:Hp):Prop :=
 g x σ H λI Y=>tt I Y λb U=>if b=true then te I U λy O=>∃ys,O D=some (.lst ys)/\ys.length<sizeLine/\(∃zs,upd O D (.lst (ys++[y])) D=some (.lst zs)/\Nx zs I (upd O D (.lst (ys++[y])))) else ∃zs,U D=some (.lst zs)/\Nx zs I U
theorem Np {K:Ph}{a:Addr}{xs:List V}(Pv:Nat->List V->St->Hp->Prop)(h0:Pv 0 [] σ0 (upd H1 D (.lst [])))(hl:∀i ys σ H,i<=xs.length->Pv i ys σ H->SqL K H a xs)
  (hs:∀i x ys σ H,xs[i]?=some x->H D=some (.lst ys)->Pv i ys σ H->Zdo g tt te D (Pv (i+1)) x σ H)
  (hd:∀ys σ H,H D=some (.lst ys)->Pv xs.length ys σ H->Q (.ref D) H):Za5 (Ju K a) g tt te σ0 H1 D Q:=by
 refine⟨λi m σ H=>m=xs.length-i/\i<=xs.length/\∃ys,H D=some (.lst ys)/\Pv i ys σ H,⟨xs.length,by simp,Qn _,[],Ac,h0⟩,?_⟩;rintro i m σ H ⟨rfl,hi,ys,U,p⟩;have q:=hl i ys σ H hi p;by_cases I:i<xs.length
 ·refine .inr ⟨⟨xs,xs[i],q,by simp[I]⟩,λO H2=>∃zs,H2 D=some (.lst zs)/\Pv (i+1) zs O H2,λZ H' Y=>⟨xs.length-(i+1),by lia,rfl,I,Y⟩,λx H' y=>?_⟩;obtain⟨e,y⟩:=y;subst e;exact hs i x ys σ _ (y xs q) U p
 ·have e:i=xs.length:=by lia
  subst e;exact .inl ⟨⟨xs,q,Pl _⟩,hd ys σ H U p⟩
end
section
variable {X:Cx}
theorem Zjk:∀{bs:List Bool}{us:List Value},Vals (bs.map V.bl) us->us=bs.map Value.bool
 |[],_,.nil=>rfl
 |b::bs,_,.cons r t=>by
  cases r;rw[Zjk t];rfl
theorem Zrn {bs:List Bool}:(P6 bs.length).all (λi=>bs.getD i true)=bs.all id:=by
 induction bs with
 |nil=>rfl
 |cons b r I =>
  rw[Qa,List.range_succ_eq_map,Rn,List.all_map,Rn];have:((λi=>(b::r).getD i true) ∘ Nat.succ)=λi=>r.getD i true:=by
   funext i;simp
  rw[this,I];rfl
theorem Zwn (hc:X.calm=true):Cz X (.builtin "all") (λxs H Q=>eX2 λ(p:Addr)(bs:List Bool)=>xs=[.ref p]/\SqL X.K H p (bs.map V.bl)/\Q (.bl (bs.all id)) H):=by
 intro pins s σ H xs us Q I r h;obtain⟨p,bs,rfl,hq,q⟩:=h;obtain⟨u,rfl,ru⟩:=r.one;cases ru;obtain⟨aa,rv,pl,hz⟩:=I.list hq;obtain rfl:=Zjk rv;refine call_all_walk (Vi pl.isList ?_);have Y:p<s.heap.objs.size:=by obtain⟨o,e,_⟩:=pl.isList;exact Pq e
 have Z:(s.heap.push { cls:=.type "list_iterator",data:=.fields #[.ref p,rawInt 0] }).IsList p (bs.map Value.bool).toArray:=pl.isList.at λo e=>Po _ e;refine⟨s.heap.objs.size,_,_,_,_,_,λi=>bs.getD i true,rfl,Walks.list (A:=X.A.in1) (show X.A.in1.handled=none from I.ok.hd hc) s.heap.objs.size p (P0 Y) (bs.map Value.bool).toArray,⟨⟨_,P3 _ rfl,rfl,rfl⟩,?_⟩,?_,?_⟩
 ·exact pl.isList.at λo e=>Po _ e
 ·intro i v s' Q' E' hv U;have O:(bs.map Value.bool)[i]?=some v:=by simpa using hv
  rw[Ql]at O;cases e:bs[i]? with
  |none=>rw[e]at O;cases O
  |some b =>
   rw[e]at O;cases O;have:bs.getD i true=b:=by simp[List.getD,e]
   have U:Q' (bs.getD i true) s':=U;rw[this]at U;exact Ru U
 ·intro h' tk hk;have I1:Inv X pins σ H { s with heap:=s.heap.push { cls:=.type "list_iterator",data:=.fields #[.ref p,rawInt 0] } }:=I.kept (t':=s.toks) λb o e=>Po _ e;have F:=I.fpOk (Pl s.heap.objs.size) (I.hok.fresh (Pl _));obtain⟨f0,f1,f2,f3,f4,f5⟩:=F;have I2:Inv X pins σ H { s with heap:=h',toks:=tk }:=Inv.turned (s:={ s with heap:=s.heap.push { cls:=.type "list_iterator",data:=.fields #[.ref p,rawInt 0] } }) (h':=h') (t':=tk) (it:=s.heap.objs.size) I1 (λb o hb e=>hk b o (by simpa using hb) e) f0 f1 f3 f4 f5;refine⟨.bl (bs.all id),H,I2,?_,q⟩;show Value.bool _=Value.bool _;have:(bs.map Value.bool).toArray.size=bs.length:=by simp
  rw[this,Zrn]
end
theorem Same.upd (h:H p=none):Same H (upd H p o):=λb u e=>by rw[Af (C9 e h)];exact e
theorem Dq (h:H a=none)(o:HO):∃H1,Same H H1/\H1 a=some o/\upd H a o=H1:=⟨_,Same.upd h,Ac,rfl⟩
theorem Same.put (s:Same H0 H)(h:H p=none):Same H0 (L2.upd H p o):=s.trans (Same.upd h)
theorem Same.over (s:Same H0 H)(h:H0 p=none):Same H0 (L2.upd H p o):=λb u e=>by rw[Af (C9 e h)];exact s b u e
theorem Same.tup {K:Ph}{H H':Hp}{a:Addr}{xs:List V}(e:Same H H')(h:SqT K H a xs):SqT K H' a xs:=by
 rcases h with(h|⟨o,h⟩)|h
 ·exact .inl (.inl (e _ _ h))
 ·exact .inl (.inr ⟨o,e _ _ h⟩)
 ·exact .inr h
theorem J2 (hk:sc.kind=.function)(hc:(sc.names.all λy=>y.2 != .cell)=true)(hl:(sc.names.all λy=>y.2 != .local || sc.names.lookup y.1 == some .local)=true)(hf:(sc.names.all λy=>y.2 != .free || out.names.lookup y.1 == some .cell)=true):Ja sc (envOfC qual out n f cd) where
 kind:=hk
 nocell:=λy I e=>by have:=Sd.mp hc y I;rw[e]at this;cases this
 loc:=λy I e=>by
  have:=Sd.mp hl y I;rw[e]at this;simpa using this
 free:=λy I e=>by
  have h:=Sd.mp hf y I;rw[e]at h;have h:out.names.lookup y.1=some .cell:=by simpa using h
  obtain⟨c,hc⟩:=Zdk (n:=n+1) h;show((cellsFrom (n+1) out.names []).lookup y.1).isSome=true;rw[hc];rfl
noncomputable def Fv (k:Nat)(cap:List Nat)(σ:St):St:=Qu k none++cap.map λj=>(σ[j]?).join
theorem Zuk (hl:k+cap.length=N.length)(h:∀(i j:Nat)(x:Str),cap[i]?=some j->N[k+i]?=some x->X.N[j]?=some x/\scope.names.lookup x=some .free/\(X.env.kindOf x=some .cell\/X.env.kindOf x=some .free)):Ih X scope N σ (Fv k cap σ):=by
 refine⟨by unfold Fv;simp[hl],λi x v Y I=>?_⟩;unfold Fv at I;by_cases hi:i<k
 ·rw[Qj (by simpa using hi),List.getElem?_replicate,if_pos hi]at I;cases I
 ·rw[Qr (by simpa using hi),List.length_replicate,Ql]at I;cases O:cap[i-k]? with
  |none=>rw[O]at I;cases I
  |some j =>
   rw[O]at I;have I:(σ[j]?).join=some v:=Qg I;obtain⟨h1,h2,U⟩:=h (i-k) j x O (by rw[show k+(i-k)=i by lia];exact Y);refine⟨j,h1,?_,h2,U⟩;cases e:σ[j]? with
   |none=>rw[e]at I;cases I
   |some o=>rw[e]at I;exact congrArg some I
theorem Jt (hl:k+cap.length=N.length)(h:((cap.zip (N.drop k)).all λp=>X.N[p.1]? == some p.2 && scope.names.lookup p.2 == some .free && (X.env.kindOf p.2 == some .cell || X.env.kindOf p.2 == some .free))=true):∀σ,σ.length=X.N.length->Ih X scope N σ (Fv k cap σ):=λσ _ =>
 Zuk hl λi j x O I=>by
  have m:(j,x)∈cap.zip (N.drop k):=by
   refine Qs (i:=i) ?_;rw[List.getElem?_zip_eq_some];exact⟨O,by rw[List.getElem?_drop];exact I⟩
  have:=Sd.mp h _ m;simp only[Rw,Bool.or_eq_true,beq_iff_eq]at this;exact⟨this.1.1,this.1.2,this.2⟩
theorem Kj {α:Type}{xs:List α}{i:Int}(h0:0<=i)(h1:i<xs.length):∃v,Cr xs i=some v/\v∈xs:=by
 have I:i.toNat<xs.length:=by lia
 refine⟨xs[i.toNat],?_,Vl I⟩;have:=Cp (xs:=xs) (j:=i.toNat) (v:=xs[i.toNat]) (by simp[I]);rwa[Wl h0]at this
noncomputable def Zc2:Expr->Option V
 |.Constant (.str x) _ _=>some (.str x)
 |.Constant (.int i) _ _=>some (.int i)
 |.Constant (.bool b) _ _=>some (.bl b)
 |.Constant .none _ _=>some .non
 |_=>none
noncomputable def On:List Expr->Option (List V)
 |[]=>some []
 |e::es=>match Zc2 e,On es with
  |some v,some vs=>some (v::vs)
  |_,_=>none
def Zd3 (xs:List V):TA:=λ_ H Q=>Q xs H
theorem Zt4 (h:Zc2 e=some v):PE X e (tC v)/\∀es,starEach (e::es) X.env=(false,eval e X.env)::starEach es X.env:=by
 unfold Zc2 at h;split at h
 ·cases h;exact⟨Zf6,λ_=>rfl⟩
 ·cases h;exact⟨Zhy,λ_=>rfl⟩
 ·cases h;exact⟨Zf0,λ_=>rfl⟩
 ·cases h;exact⟨Zhz,λ_=>rfl⟩
 ·cases h
theorem Zkc:∀{es:List Expr}{xs:List V},On es=some xs->PA X es (Zd3 xs)
 |[],xs,h=>by
  have h:some []=some xs:=h;cases h;exact Zf8
 |e::es,xs,h=>by
  unfold On at h;split at h
  ·rename_i v vs h1 h2;cases h;obtain⟨p,I⟩:=Zt4 (X:=X) h1;exact Zjs p (Zkc h2) (I es)
  ·cases h
structure Ba (P:Program)(w:World)(K:Ph)(mg:Str->Option Value)(base:Heap)(k:Nat)(x:Str)(ps:List Str)(sp:Sp):Prop where
 ex:eX2 λ(f:Addr)(fd:FuncData)=>FnOk P w K mg base Aq k f fd ps sp/\mg x=some (.ref f)/\Rl K (.ref f)=true/\Binds K fd ps []
section
variable {X:Cx}{k:Nat}{x:Str}{ps:List Str}{sp:Sp}{p pos:Pos}{e:Expr}{es:List Expr}{t:TA}
end
end L2
namespace L2
open PySem
theorem Zws (h:Ot u=some x):RelV x u:=by
 cases u <;> simp only[Ot]at h <;> first|(cases h;first|rfl|exact⟨_,rfl⟩)|cases h
noncomputable def Fp:List Value->Option (List V)
 |[]=>some []
 |u::r=>match Ot u,Fp r with
  |some x,some xs=>some (x::xs)
  |_,_=>none
theorem Zig:∀{us:List Value}{xs:List V},Fp us=some xs->Vals xs us
 |[],xs,h=>by
  have h:some []=some xs:=h;cases h;exact .nil
 |u::r,xs,h=>by
  unfold Fp at h;split at h
  ·rename_i x ys h1 h2;cases h;exact .cons (Zws h1) (Zig h2)
  ·cases h
theorem Jr (l:K.lookup a=some ⟨.type "tuple",od,.seq its n,sl⟩)(h:Fp its.toList=some xs)(hz:xs.length<=1000):∀H,SqT K H a xs:=λH=>by
 have v:=Zig h;refine .inr ⟨_,its,n,l,rfl,rfl,?_,v⟩;have e:=v.length;have b:1000<=sizeLine:=by decide
 have I:its.toList.length=its.size:=Vc;lia
theorem Kb (F:FnOk P w K mg base Aq k f fd ps sp)(m:mg x=some (.ref f))(kp:Rl K (.ref f)=true)(b:Binds K fd ps []):Ba P w K mg base k x ps sp:=⟨f,fd,F,m,kp,b⟩
section
variable {P:Program}{w:World}{K:Ph}{mg:Str->Option Value}{base:Heap}
end
end L2
set_option autoImplicit true
namespace L2
open PySem PySem.Spec PyProof.Rows
structure QE (X:Cx)(e:Expr)(t:TE):Prop where
 run:PE X e t
structure QT (X:Cx)(e:Expr)(t:TT):Prop where
 run:PT X e t
structure QW (X:Cx)(e:Expr)(t:TT):Prop where
 run:PW X e t
structure QA (X:Cx)(es:List Expr)(t:TA):Prop where
 run:PA X es t
structure QS (X:Cx)(st:Stmt)(t:TS):Prop where
 run:PS X st t
structure Fj (X:Cx)(sts:List Stmt)(t:TS):Prop where
 run:PSs X sts t
structure QG (X:Cx)(e:Expr)(g:TG):Prop where
 run:PG X e g
structure QGs (X:Cx)(es:List Expr)(g:Ff):Prop where
 run:PGs X es g
structure QI (X:Cx)(tg iter:Expr)(wi:TI):Prop where
 run:PI X tg iter wi
structure QC (X:Cx)(op:CmpOp)(a b:Expr)(t:TE):Prop where
 run:PC X op a b t
structure QO (X:Cx)(e:Option Expr)(t:TO):Prop where
 run:PO X e t
structure QTs (X:Cx)(ifs:List Expr)(t:TT):Prop where
 run:Jc X ifs t
theorem Aa {i j pos}:QE X (.Constant (.int i) j pos) (tC (.int i)):=⟨Zhy⟩
theorem Cy {b j pos}:QE X (.Constant (.bool b) j pos) (tC (.bl b)):=⟨Zf0⟩
theorem Hc {j pos}:QE X (.Constant .none j pos) (tC .non):=⟨Zhz⟩
theorem Aj {x j pos}:QE X (.Constant (.str x) j pos) (tC (.str x)):=⟨Zf6⟩
theorem Ca (hg:Gl X x)(hm:X.mg x=none)(hv:bootBuiltins x=some u)(r:RelV v u)(hn:autoParam (x≠"__name__") zW)(hd:autoParam ((x == ("__debug__":Str))=false) zW):QE X (.Name x pos) (tC v):=⟨λ_ _ _ H _ I h=>G4 I hg hm hv ⟨v,H,I,r,h⟩ hn hd⟩
theorem Ae (ho:OpR X (binaryOp op) r)(ha:QE X a ta)(hb:QE X b tb):QE X (.BinOp a op b pos) (Ev r ta tb):=by
 refine⟨?_⟩;have ha:=ha.run;have hb:=hb.run
 intro pins s σ H Q I h;exact wpAny_BinOp (Zbo ha hb I h λv u U x y H2 O Z Y q=>ho pins U σ H2 x y v u Q O Z Y q)
theorem Ii (ho:UnR X (unaryOp op) r)(ha:QE X a ta):QE X (.UnaryOp op a pos) (tUn r ta):=by
 refine⟨?_⟩;have ha:=ha.run
 intro pins s σ H Q I h;exact UnaryOp_ (As (ha pins s σ H _ I h) λv Z ⟨x,H1,O,U,Y⟩=>ho pins Z σ H1 x v Q O U Y)
theorem Lw (h:QC X op a b t)(h1:behindInMarks op b=false:=by first|exact O0 _ (by decide) (by decide)|rfl):QE X (.Compare a [op] [b] pos) t:=by
 refine⟨?_⟩;have h:=h.run;exact λpins s σ H Q I O=>wpAny_Compare1 (h pins s σ H Q I O) h1
theorem O6 (h:QC X op a b t)(h1:behindInMarks op b=false:=by first|exact O0 _ (by decide) (by decide)|rfl):QT X (.Compare a [op] [b] pos) (tB t):=by
 refine⟨?_⟩;have h:=h.run
 intro pins s σ H Q I hw;refine wpAny_isTrue_Compare1 (As (h pins s σ H _ I hw) λv s1 h1=>As h1 λu s2 h2=>As h2 λc s3 O=>?_) h1;obtain⟨x,H1,Y,Z,U⟩:=O;obtain⟨d,rfl,q⟩:=U;cases Z;exact Ru ⟨H1,Y,q⟩
theorem Zeq (ho:OpR X (compareOp op) r)(ha:QE X a ta)(hb:QE X b tb)(hm:behindInMarks op b=false):QE X (.Compare a [op] [b] pos) (Ev r ta tb):=by
 refine⟨?_⟩;have ha:=ha.run;have hb:=hb.run
 intro pins s σ H Q I h;exact wpAny_Compare1 (Zbo ha hb I h λv u U x y H2 O Z Y q=>ho pins U σ H2 x y v u Q O Z Y q) hm
theorem Ziz (ho:OpR X (compareOp op) r)(ha:QE X a ta)(hb:QE X b tb)(hm:behindInMarks op b=false):QT X (.Compare a [op] [b] pos) (My (Ev r ta tb)):=by
 refine⟨?_⟩;have ha:=ha.run;have hb:=hb.run
 intro pins s σ H Q I h;refine wpAny_isTrue_Compare1 (As (ha pins s σ H _ I h) λv s1 ⟨x,H1,I1,r1,Y⟩=>As (hb pins s1 σ H1 _ I1 Y) λu U ⟨y,H2,O,r2,q2⟩ =>
  As (ho pins U σ H2 x y v u _ O r1 r2 q2) λc s3 ⟨z,H3,Z,r3,k,e,q3⟩=>?_) hm
 subst e;cases r3;exact Ru ⟨H3,Z,q3⟩
theorem Zho (ho:OpR X (compareOp op) r)(ho':OpR X (compareOp op') r')(ha:QE X a ta)(hb:QE X b tb)(hc:QE X c tc)(hm:lastMarks [op,op'] [b,c]=false:=by with_unfolding_all rfl):QE X (.Compare a [op,op'] [b,c] pos) (Zdy r r' ta tb tc):=by
 refine⟨?_⟩;have ha:=ha.run;have hb:=hb.run;have hc:=hc.run
 intro pins s σ H Q I h;refine Compare_chain (As (ha pins s σ H _ I h) λv s1 ⟨x,H1,I1,r1,q1⟩=>chain_link (As (hb pins s1 σ H1 _ I1 q1) λu s2 ⟨y,H2,I2,Z,q2⟩ =>
  As (ho pins s2 σ H2 x y v u _ I2 r1 Z q2) λd s3 ⟨z,Y,O,r3,k,e,U⟩=>?_)) hm
 subst e;cases r3;refine Ru ?_;cases k with
 |false=>exact ite_ff ⟨.bl false,Y,O,rfl,U⟩
 |true=>exact ite_tt (chain_last (As (hc pins s3 σ Y _ O U) λw' s4 ⟨z',H4,I4,r4,q4⟩=>ho' pins s4 σ H4 y z' u w' Q I4 Z r4 q4))
theorem B0 (h:QE X e t)(he:autoParam (∀whole,isTrue e X.env whole=(do let v <- whole;standAt e.pos;holding [v] (truthy v))) zE):QT X e (tB t):=by
 refine⟨?_⟩;have h:=h.run
 intro pins s σ H Q I Z;refine isTrue_plain (As (h pins s σ H _ I Z) λv s1 U=>?_) (he _);obtain⟨x,H1,O,Y,q1⟩:=U;obtain⟨d,rfl,q⟩:=q1;cases Y;exact Ru ⟨H1,O,q⟩
theorem Ec (ha:QT X a tA):QW X (.BoolOp .And [a] pos) tA:=by
 refine⟨?_⟩;have ha:=ha.run
 intro O pins s σ H Q I h;refine isTrue_and (As (ha pins s σ H Q I h) λc U e=>?_);cases c with
 |true=>exact isTrue_and_nil e
 |false=>exact e
theorem D7 (ha:QT X a tA):QW X (.BoolOp .Or [a] pos) tA:=by
 refine⟨?_⟩;have ha:=ha.run
 intro O pins s σ H Q I h;refine isTrue_or (As (ha pins s σ H Q I h) λc U e=>?_);cases c with
 |false=>exact isTrue_or_nil e
 |true=>exact e
theorem Eg (ha:QT X a tA)(hb:QW X (.BoolOp .And (b::rest) pos) tB'):QW X (.BoolOp .And (a::b::rest) pos) (Zdj tA tB'):=by
 refine⟨?_⟩;have ha:=ha.run;have hb:=hb.run
 intro Y pins s σ H Q I h;refine isTrue_and (As (ha pins s σ H _ I h) λc s1 Z=>?_);obtain⟨H1,O,U⟩:=Z;cases c with
 |true=>exact hb Y pins s1 σ H1 Q O U
 |false=>exact⟨H1,O,U⟩
theorem Ds (ha:QT X a tA)(hb:QW X (.BoolOp .Or (b::rest) pos) tB'):QW X (.BoolOp .Or (a::b::rest) pos) (tOr tA tB'):=by
 refine⟨?_⟩;have ha:=ha.run;have hb:=hb.run
 intro Y pins s σ H Q I h;refine isTrue_or (As (ha pins s σ H _ I h) λc s1 Z=>?_);obtain⟨H1,O,U⟩:=Z;cases c with
 |true=>exact⟨H1,O,U⟩
 |false=>exact hb Y pins s1 σ H1 Q O U
theorem De (ha:QT X a tA):QT X (.UnaryOp .Not a pos) (Zej tA):=by
 refine⟨?_⟩;have ha:=ha.run
 intro pins s σ H Q I h;exact isTrue_not (ha pins s σ H (λc H1=>Q (!c) H1) I h)
theorem Gf {op}(h:QE X a t):QE X (.BoolOp op [a] pos) t:=by
 refine⟨?_⟩;have h:=h.run;exact λpins s σ H Q I O=>BoolOp_one (h pins s σ H Q I O)
theorem Ga (ha:QE X a ta)(hb:QE X (.BoolOp .And (b::rest) pos) tb):QE X (.BoolOp .And (a::b::rest) pos) (Zeu ta tb):=by
 refine⟨?_⟩;have ha:=ha.run;have hb:=hb.run
 intro pins s σ H Q I h;refine BoolOp_and (As (ha pins s σ H _ I h) λv Z Y=>?_);obtain⟨x,H1,U,r1,O⟩:=Y;obtain⟨c,rfl,O⟩:=O;cases r1;refine Ru ?_;cases c with
 |true=>exact hb pins Z σ H1 Q U O
 |false=>exact⟨.bl false,H1,U,rfl,O⟩
theorem Zvw (ha:QE X a ta)(hb:QE X (.BoolOp .Or (b::rest) pos) tb):QE X (.BoolOp .Or (a::b::rest) pos) (Zd1 ta tb):=by
 refine⟨?_⟩;have ha:=ha.run;have hb:=hb.run
 intro pins s σ H Q I h;refine BoolOp_or (As (ha pins s σ H _ I h) λv Z Y=>?_);obtain⟨x,H1,U,r1,O⟩:=Y;obtain⟨c,rfl,O⟩:=O;cases r1;refine Ru ?_;cases c with
 |false=>exact hb pins Z σ H1 Q U O
 |true=>exact⟨.bl true,H1,U,rfl,O⟩
theorem Zk9 (ha:QE X a ta):QE X (.UnaryOp .Not a pos) (Zcp ta):=by
 refine⟨?_⟩;have ha:=ha.run
 intro pins s σ H Q I h;refine UnaryOp_ (As (ha pins s σ H _ I h) λv s1 Y=>?_);obtain⟨x,H1,U,Z,O⟩:=Y;obtain⟨c,rfl,O⟩:=O;cases Z;exact not_of (Ru ⟨.bl (!c),H1,U,rfl,O⟩)
theorem Za6 (hc:QT X c tA)(ha:QE X a ta)(hb:QE X b tb):QE X (.IfExp c a b pos) (Kl tA ta tb):=by
 refine⟨?_⟩;have hc:=hc.run;have ha:=ha.run;have hb:=hb.run
 intro pins s σ H Q I h;refine wpAny_IfExp (As (hc pins s σ H _ I h) λd Y Z=>?_);obtain⟨H1,O,U⟩:=Z;cases d with
 |true=>exact ha pins Y σ H1 Q O U
 |false=>exact hb pins Y σ H1 Q O U
theorem A0  : Fj X [] Zb5:=⟨λ_ _ σ H _ I h=>Td ⟨σ,H,I,h⟩⟩
theorem Ad {st:Stmt}{rest:List Stmt}{t u:TS}(h1:QS X st t)(h2:Fj X rest u):Fj X (st::rest) (Zcr t u):=by
 refine⟨?_⟩;have h1:=h1.run;have h2:=h2.run
 intro pins s σ H D I h;refine Wv (As (h1 pins s σ H { D with nx:=u D } I h) λf Y q=>?_);cases f with
 |next =>
  obtain⟨O,H',U,q⟩:=q;exact h2 pins Y O H' D U q
 |ret v=>exact q
 |brk=>exact q
 |cont=>exact q
theorem A3 {st:Stmt}{t:TS}(h1:QS X st t):Fj X [st] t:=by
 refine⟨?_⟩;have h1:=h1.run
 intro pins s σ H D I h;refine Wv (As (h1 pins s σ H D I h) λf O q=>?_);cases f with
 |next=>exact Td q
 |ret v=>exact q
 |brk=>exact q
 |cont=>exact q
theorem Bx (he:QE X e te)(hs:autoParam (swapsWith e none pos.line X.env=pure false) zX):QS X (.Expr e pos) (Zdf te):=by
 refine⟨?_⟩;have he:=he.run
 intro pins s σ H D I h;exact wpAny_Expr_any (As (he pins s σ H _ I h) λv Z ⟨x,H1,O,Y,U⟩=>⟨σ,H1,O,U⟩) I.quiet hs
theorem Zlv (he:QE X e te):QS X (.Return (some e) pos) (N0 te):=by
 refine⟨?_⟩;have he:=he.run
 intro pins s σ H D I h;exact wpAny_Return_some (As (he pins s σ H _ I h) λv Z ⟨x,H1,O,U,Y⟩=>⟨x,σ,H1,O,U,Y⟩)
theorem Ax (hc:QT X c tc)(ha:Fj X a t)(hb:Fj X b u):QS X (.If c a b pos) (Cf tc t u):=by
 refine⟨?_⟩;have hc:=hc.run;have ha:=ha.run;have hb:=hb.run
 intro pins s σ H D I h;refine wpAny_If (As (hc pins s σ H _ I h) λd Y Z=>?_);obtain⟨H1,O,U⟩:=Z;cases d with
 |true=>exact ha pins Y σ H1 D O U
 |false=>exact hb pins Y σ H1 D O U
theorem Oo  : QGs X [] Lj:=by
 refine⟨?_⟩
 intro pins s σ H vs O Q I r h;obtain⟨e,h⟩:=h;subst e;cases r;exact assignInOrder_nil ⟨σ,H,I,h⟩
theorem Hi (h1:QG X e t)(h2:QGs X es u)(hs:autoParam ((assignEach (e::es) X.env).map (·.2)=assign e X.env::(assignEach es X.env).map (·.2)) zX):QGs X (e::es) (Iy t u):=by
 refine⟨?_⟩;have h1:=h1.run;have h2:=h2.run
 intro pins s σ H vs us Q I r h;obtain⟨v,vr,e1,h⟩:=h;subst e1;cases r with
 |cons r rr =>
  rw[hs];refine assignInOrder_cons (As (h1 pins s σ H _ _ _ I r h) λ_ Z U=>?_);obtain⟨O,H1,I1,Y⟩:=U;exact h2 pins Z O H1 _ _ Q I1 rr Y
theorem Gr (hN:X.N.Nodup)(hi:X.N[i]?=some x)(hx:Ee X.env.scope x)(hf:autoParam (X.fn x=true\/X.env.scope.names.lookup x=some .local) zQ):QG X (.Name x pos) (Ep i):=by
 refine⟨?_⟩
 intro pins s σ H v u Q I r h;exact wpAny_assign_Name (Zev I hN hi hx r (λs' O=>⟨_,H,O,h⟩) hf)
theorem Zr1 (hc:X.calm=true)(h:QGs X es t)(hn:autoParam ((assignEach es X.env).length=n) zX)(hst:autoParam ((assignEach es X.env).findIdx? (·.1)=none) zX):QG X (.Tuple es k pos) (Kx X.K n t):=by
 refine⟨?_⟩;have h:=h.run
 intro pins s σ H v u Q I r O;obtain⟨a,xs,e1,hq,hl,O⟩:=O;subst e1;cases r;obtain⟨Y,U,ht,hz⟩:=I.tuple hq;refine assign_Tuple_tuple (I.ok.hd hc) ht (by simp[hn,<- hl,U.length]) hst λh' hx=>?_;have Z:Inv X pins σ H { s with heap:=h' }:=I.kept (t':=s.toks) λb o e=>hx b o (P0 (Pq e)) e;exact h pins _ σ H xs _ Q Z (by simpa using U) O
theorem Zl3 (ho:QE X o to)(hi:QE X i ti)(hs:Zd9 X t)(ha:autoParam (∀v,assign (.Subscript o i pos) X.env v=(do
   let ov <- holding [v] (eval o X.env);let iv <- holding [v,ov] (eval i X.env)
   standAt pos
   holding [v,ov,iv] (setItem ov iv v)
   release [v,ov,iv] [])) zE):QG X (.Subscript o i pos) (Zc5 to ti t):=by
 refine⟨?_⟩;have ho:=ho.run;have hi:=hi.run
 intro pins s σ H v u Q I r h;rw[ha];refine Pi (Q6 (As (ho pins s σ H _ I h) λov s1 O=>?_));obtain⟨x,H1,I1,r1,q1⟩:=O;refine Pi (Q6 (As (hi pins s1 σ H1 _ I1 q1) λiv Y O=>?_));obtain⟨y,H2,U,r2,q2⟩:=O;refine Pi (wpAny_standAt (Pi (Q6 (As (hs pins Y σ H2 x y v ov iv u _ U r1 r2 r q2) λ_ s3 O=>?_))));obtain⟨H3,Z,q3⟩:=O;exact wpAny_release ⟨σ,H3,Z,q3⟩
theorem Ek (he:QE X e te)(hg:QG X tg g)(hs:autoParam (swapsWithSole [tg] e pos.line X.env=pure false) zX)(hw:autoParam (swappedStores [tg] e X.env=pure none) zX)(h1:autoParam ((assignEach [tg] X.env).map (·.2)=[assign tg X.env]) zX):QS X (.Assign [tg] e pos) (Ik te g):=by
 refine⟨?_⟩;have he:=he.run;have hg:=hg.run
 intro pins s σ H D I h;refine wpAny_Assign_stores (As (he pins s σ H _ I h) λv s1 U=>?_) hs hw;obtain⟨x,H1,O,Y,Z⟩:=U;rw[h1];exact As (hg pins s1 σ H1 x v _ O Y Z) λ_ s2 q=>q
theorem Zmx (hN:X.N.Nodup)(hi:X.N[i]?=some x)(hx:Ee X.env.scope x)(he:QE X e te)(hs:autoParam (swapsWith e (some (.Name x pos')) pos.line X.env=pure false) zX)(hf:autoParam (X.fn x=true\/X.env.scope.names.lookup x=some .local) zQ):QS X (.Assign [.Name x pos'] e pos) (Ik te (Ep i)):=by
 refine⟨?_⟩;have he:=he.run
 intro pins s σ H D I h;refine wpAny_Assign_Name (As (he pins s σ H _ I h) λv s1 Y=>?_) hs;obtain⟨y,H1,U,Z,q1⟩:=Y;exact Zev U hN hi hx Z (λs2 O=>⟨_,H1,O,q1⟩) hf
theorem Zhn (hp:PassesOwn (model X.prog X.w) X.A X.env X.xe)(hc:QT X c tc)(hb:Fj X body tb):QS X (.While c body [] pos) (Zfi tc tb):=by
 refine⟨?_⟩;have hc:=hc.run;have hb:=hb.run
 intro pins s σ H D I h;obtain⟨W,⟨m0,w0⟩,Y⟩:=h;refine wpAny_While (codeAny_whileLoop (λn s'=>eX2 λσ' H'=>Inv X pins σ' H' s'/\W n σ' H') ?_ m0 ⟨σ,H,I,w0⟩);rintro n s1 ⟨U,H1,I1,w1⟩;refine Sr hp (As (hc pins s1 U H1 _ I1 (Y n U H1 w1)) λb s2 zq=>?_);obtain⟨H2,I2,q2⟩:=zq;cases b with
 |true =>
  obtain⟨N,hN,q2⟩:=q2;rw[if_pos rfl];refine Sr hp (As (hb pins s2 U H2 _ I2 q2) λf s3 q3=>?_);cases f with
  |next =>
   obtain⟨O,Z,I3,n3⟩:=q3;obtain⟨m',hm,w3⟩:=hN O Z n3;exact⟨m',hm,O,Z,I3,w3⟩
  |cont =>
   obtain⟨O,Z,I3,n3⟩:=q3;obtain⟨m',hm,w3⟩:=hN O Z n3;exact⟨m',hm,O,Z,I3,w3⟩
  |brk=>exact q3
  |ret v=>exact q3
 |false =>
  rw[if_neg Pt];exact Td ⟨U,H2,I2,q2⟩
theorem He (hg:Gl X "range")(hm:X.mg "range"=none)(ha:QA X [a] ta)(hs:autoParam (starEach [a] X.env=[(false,eval a X.env)]) zX):QI X tg (.Call (.Name "range" p) [a] [] pos) (Zer ta):=by
 refine⟨?_⟩;have ha:=ha.run
 intro pins s σ H R I h;refine Call_ (G4 I hg hm boot_range (Sh (As (ha pos pins s σ H _ I h) λus s1 U=>?_) hs rfl));obtain⟨vs,H1,Z,r1,O⟩:=U;obtain⟨j,e,O,Y,q⟩:=O;subst e;cases r1 with
 |cons r rr =>
  cases rr;obtain⟨t,rfl⟩:=r;exact call_range_1 (Zv9 Z (by lia) (by lia) O Y (by simpa using q))
theorem Dw (hp:PassesOwn (model X.prog X.w) X.A X.env X.xe)(hc:X.calm=true)(hi:QI X tg iter wi)(hg:QG X tg g)(hb:Fj X body tb)(hs:autoParam (∀x,foldedSetIterable iter X.env x=pure x) zE):QS X (.For tg iter body [] pos) (Zcn wi g tb):=by
 refine⟨?_⟩;have hi:=hi.run;have hg:=hg.run;have hb:=hb.run
 intro pins s σ H D I h;refine wpAny_For (As (hi pins s σ H _ I h) λv s1 h1=>As h1 λal s2 h2=>?_) hs;obtain⟨it,fp,tn,J,H2,e,I2,T,ak,f2,W,⟨m0,w0⟩,af⟩:=h2;subst e;have aa:∀{H':Hp},(∀b∈fp,H' b=none)->∀b∈fp,FpOk X pins H' b:=λhn b hb=>⟨hn b hb,(f2 b hb).2⟩;refine codeAny_forLoop_any (λn s'=>eX3 λi σ' H'=>Inv X pins σ' H' s'/\tn i s'.heap/\(∀b∈fp,H' b=none)/\W i n σ' H') ?_ m0 ⟨0,σ,H2,I2,ak,λb hb=>(f2 b hb).1,w0⟩;rintro n s3 ⟨i,ac,H3,I3,ag,ae,w3⟩;rcases af i n ac H3 w3 with⟨stop,qn⟩|⟨go,N,hN,step⟩
 ·refine Sr hp (As (T.done X rfl rfl rfl hc i pins s3 ac H3 X.xe I3 (aa ae) ag stop) λr s4 zq=>?_);obtain⟨hr,I4⟩:=zq;subst hr;exact Td ⟨ac,H3,I4,qn⟩
 ·refine Sr hp (As (T.item X rfl rfl rfl hc i pins s3 ac H3 X.xe I3 (aa ae) ag go) λr s4 zq=>?_);obtain⟨u,hr,h4⟩:=zq;subst hr;refine Sr hp (As h4 λ_ s5 zq=>?_);obtain⟨x,H5,I5,r5,y5,ad,ai⟩:=zq;have aj:=I5.pinned (aa ai) (T.obj _ _ ad);refine Sr hp (As (hg _ s5 ac H5 x u _ aj r5 (step x H5 y5)) λ_ s6 zq=>?_);obtain⟨ah,H6,I6,q6⟩:=zq;refine Sr hp (As (hb _ s6 ah H6 _ I6 q6) λf s7 q7=>?_);have U:∀{O:St}{Z:Hp},Inv X (pins++Mt fp s5.heap) O Z s7->N O Z->∃m,m<n/\eX3 λi σ' H'=>Inv X pins σ' H' s7/\tn i s7.heap/\(∀b∈fp,H' b=none)/\W i m σ' H':=λ{O Z} Y n7=>by
   obtain⟨m',hm,w7⟩:=hN O Z n7;refine⟨m',hm,i+1,O,Z,Y.unpinned,T.keep _ _ _ ad λb hb o e=>(Y.pin (b,o) (Ri _ (Ri _ (Zao hb e)))).1,λb hb=>?_,w7⟩;obtain⟨o,e,d⟩:=T.obj _ _ ad b hb;exact(Y.pin (b,o) (Ri _ (Ri _ (Zao hb e)))).2.1
  cases f with
  |next=>obtain⟨O,Z,Y,n7⟩:=q7;exact U Y n7
  |cont=>obtain⟨O,Z,Y,n7⟩:=q7;exact U Y n7
  |brk=>obtain⟨O,Z,Y,q7⟩:=q7;exact⟨O,Z,Y.unpinned,q7⟩
  |ret v=>obtain⟨x7,O,Z,Y,r7,q7⟩:=q7;exact⟨x7,O,Z,Y.unpinned,r7,q7⟩
theorem Zvm (he:QE X e ta)(hb:attributeBase e f X.env (eval e X.env)=eval e X.env):QE X (.Attribute e f pos) (Zek X.K ta f):=by
 refine⟨?_⟩;have he:=he.run
 intro pins s σ H Q I h;refine Zmm hb (As (he pins s σ H _ I h) λu s1 U=>?_);obtain⟨x,H1,I1,Z,a,C,dx,fs,v,ex,Y,c,n,l,q⟩:=U;subst ex;obtain rfl:u=Value.ref a:=Z;exact Zfm I1 Y c n l λu' s2 O ru=>⟨v,H1,O,ru,q⟩
theorem Zth (ha:QE X o ta)(hv:QE X value tv)(hs:swapsWith value (some (.Attribute o f pos')) pos.line X.env=pure false):QS X (.Assign [.Attribute o f pos'] value pos) (Zbe X.K ta tv f):=by
 refine⟨?_⟩;have ha:=ha.run;have hv:=hv.run
 intro pins s σ H D I h;refine plainObj_wpAny_Assign_Attribute (As (hv pins s σ H _ I h) λu s1 O=>?_) hs;obtain⟨y,H1,I1,Y,q⟩:=O;refine As (ha pins s1 σ H1 _ I1 q) λov s2 O=>?_;obtain⟨x,H2,U,rx,a,C,dx,fs,ex,ea,c,n,l,q2⟩:=O;subst ex;obtain rfl:ov=Value.ref a:=rx;exact Zi9 U ea c n l Y λs3 Z=>⟨σ,_,Z,q2⟩
theorem Bh  : QA X [] Fo:=⟨Zf8⟩
theorem Kr (ha:QE X e te)(hr:QA X es t)(hs:autoParam (starEach (e::es) X.env=(false,eval e X.env)::starEach es X.env) zX):QA X (e::es) (Dr te t):=⟨Zjs ha.run hr.run hs⟩
theorem Ak {x1}(h:QA X es t):QE X (.Tuple es x1 pos) (Zdn t):=by
 refine⟨?_⟩;have h:=h.run
 intro pins s σ H Q I Y;refine wpAny_Tuple_spliced (As (h pos pins s σ H _ I Y) λZ O ⟨xs,H1,U,r,z,q⟩=>⟨by rw[<- r.length];exact z,?_⟩);have hf:H1 O.heap.objs.size=none:=U.hok.fresh (Pl _);refine⟨.ref O.heap.objs.size,upd H1 O.heap.objs.size (.tup xs),U.laid (t':=O.toks) (λb u e=>Po _ e) (Pl _) ?_,rfl,q _ hf⟩;exact⟨z,Z,r,⟨_,P3 _ rfl,rfl,_,rfl⟩⟩
theorem Bk (h:QA X es t):QE X (.List es pos) (Zch t):=by
 refine⟨?_⟩;have h:=h.run
 intro pins s σ H Q I Y;refine wpAny_List_spliced (As (h pos pins s σ H _ I Y) λZ O ⟨xs,H1,U,r,z,q⟩=>⟨by rw[<- r.length];exact z,?_⟩);have hf:H1 O.heap.objs.size=none:=U.hok.fresh (Pl _);refine⟨.ref O.heap.objs.size,upd H1 O.heap.objs.size (.lst xs),U.laid (t':=O.toks) (λb u e=>Po _ e) (Pl _) ?_,rfl,q _ hf⟩;exact⟨z,Z,0,r,P3 _ rfl⟩
theorem Ay (C:Ba X.prog X.w X.K X.mg X.base k x ps sp)(hr:Room k X.A)(ha:QA X (e::es) t)(hg:autoParam (Gl X x) zX)(hdb:autoParam ((x == ("__debug__":Str))=false) zW)(he:autoParam (starEach (e::es) X.env=(false,eval e X.env)::starEach es X.env) zX)(hpl:autoParam ((backTo pos (starEach es X.env)).any (·.1)=false) zX):QE X (.Call (.Name x p) (e::es) [] pos) (Ll sp [] E0 t):=by
 refine⟨?_⟩;have ha:=ha.run
 obtain⟨f,fd,F,I,O,hb⟩:=C.ex;exact Ziw F hr hg I O hb .nil D8 ha hdb he hpl
theorem Zq5 {id:String}(hc:Cz X (.builtin id) r)(hg:Gl X x)(hm:X.mg x=none)(hv:bootBuiltins x=some (.builtin id))(ha:QA X (e::es) t)(hn:autoParam (x≠"__name__") zW)(hdb:autoParam ((x == ("__debug__":Str))=false) zW)(he:autoParam (starEach (e::es) X.env=(false,eval e X.env)::starEach es X.env) zX)(hpl:autoParam ((backTo pos (starEach es X.env)).any (·.1)=false) zX):QE X (.Call (.Name x p) (e::es) [] pos) (Ig r t):=by
 refine⟨?_⟩;have ha:=ha.run
 intro pins s σ H Q I h;refine Ud (G4 I hg hm hv ?_ hn hdb);exact PyProof.Rows.callWith_builtin1 (As (ha pos pins s σ H _ I h) λY s1 ⟨vs,H1,O,U,Z⟩=>hc pins s1 σ H1 vs Y Q O U Z) he hpl
theorem Zq9 (hc:Cz X (.type T) r)(hg:Gl X x)(hm:X.mg x=none)(hv:bootBuiltins x=some (.type T))(ha:QA X (e::es) t)(hn:autoParam (x≠"__name__") zW)(hdb:autoParam ((x == ("__debug__":Str))=false) zW)(he:autoParam (starEach (e::es) X.env=(false,eval e X.env)::starEach es X.env) zX)(hpl:autoParam ((backTo pos (starEach es X.env)).any (·.1)=false) zX):QE X (.Call (.Name x p) (e::es) [] pos) (Ig r t):=by
 refine⟨?_⟩;have ha:=ha.run
 intro pins s σ H Q I h;refine Ud (G4 I hg hm hv ?_ hn hdb);exact Sh (As (ha pos pins s σ H _ I h) λY s1 ⟨vs,H1,O,U,Z⟩=>hc pins s1 σ H1 vs Y Q O U Z) he hpl
theorem Fz  : QO X none Zbl:=by
 refine⟨?_⟩
 intro pins s σ H Q I h;rw[evalPart_none];exact Pk ⟨none,H,I,.none,h⟩
theorem Ci (h:QE X e te):QO X (some e) (Zd8 te):=by
 refine⟨?_⟩;have h:=h.run
 intro pins s σ H Q I hw;rw[evalPart_some];refine As (h pins s σ H _ I hw) λu s1 O=>?_;obtain⟨x,H1,Y,Z,U⟩:=O;obtain⟨i,rfl,q⟩:=U;obtain⟨t,rfl⟩:=Z;exact⟨some i,H1,Y,.int i t,q⟩
theorem Eh {lo hi:Option Expr}{r:V->Option Int->Option Int->Hp->VK->Prop}(hr:SlR X r)(he:QE X e te)(hl:QO X lo tl)(hu:QO X hi th):QE X (.Subscript e (.Slice lo hi none p2) pos) (tSl r te tl th):=by
 refine⟨?_⟩;have he:=he.run;have hl:=hl.run;have hu:=hu.run
 intro pins s σ H Q I h;refine Subscript_ (As (he pins s σ H _ I h) λv s1 U=>?_);obtain⟨x,H1,I1,r1,q1⟩:=U;refine wpAny_Slice (As (hl pins s1 σ H1 _ I1 q1) λY s2 U=>?_);obtain⟨l,H2,I2,pl,q2⟩:=U;refine As (hu pins s2 σ H2 _ I2 q2) λZ O U=>?_;obtain⟨u,H3,I3,pu,q3⟩:=U;rw[evalPart_none];refine Pk ?_;have I4:Inv X pins σ H3 { O with heap:=O.heap.push { cls:=.type "slice",data:=.fields #[Y,Z,.none] } }:=I3.kept (t':=O.toks) λb ob q=>Po _ q;obtain⟨T,id,hT,ht,hg⟩:=hr pins { O with heap:=O.heap.push { cls:=.type "slice",data:=.fields #[Y,Z,.none] } } σ H3 x v Y Z l u O.heap.objs.size Q I4 r1 (Heap.IsSliceOf.new ..) pl pu q3;show wpAny (model X.prog X.w) X.A (subscriptTail e (.Slice lo hi none p2) v (.ref O.heap.objs.size)) (EP X pins σ Q) X.xe { O with heap:=O.heap.push { cls:=.type "slice",data:=.fields #[Y,Z,.none] } };exact tail_any (ops:=[.ref O.heap.objs.size,v]) ht hT hg (by with_unfolding_all rfl)
theorem Za0 (hr:IxR X r)(ha:QE X a ta)(hb:QE X b tb)(hs:Zei b):QE X (.Subscript a b pos) (Ev r ta tb):=by
 refine⟨?_⟩;have ha:=ha.run;have hb:=hb.run
 intro pins s σ H Q I h;exact Subscript_ (Zbo ha hb I h λv u U x y H2 O Z Y q=>hr a b pins U σ H2 x y v u Q O Z Y q (hs _ _))
theorem Zpy {T id:String}(pa:PlainAttrs T)(slot:Slot T name id)(hty:typeOf (.builtin id)=pure (.type "method_descriptor"))(hm:J8 X id r)(ho:QE X o to)(ha:QA X (e::es) t)(hbase:autoParam (attributeBase o name X.env (eval o X.env)=eval o X.env) zX)(hfew:autoParam (((backTo cpos (starEach (e::es) X.env)).all (λx=>!x.1) && (backToKw cpos (keywordEach [] X.env)).all (λx=>x.1.isSome)
   && decide ((e::es).length+([]:List Keyword).length+(if ([]:List Keyword).isEmpty then 0 else 1)<30))=true) zX) (hline:autoParam ((apos.endLine == cpos.line)=true) zX) (hs:autoParam (starEach (e::es) X.env=(false,eval e X.env)::starEach es X.env) zX) (hplain:autoParam ((backTo cpos (starEach es X.env)).any (·.1)=false) zX):QE X (.Call (.Attribute o name apos) (e::es) [] cpos) (tBM X.K T r to t):=by
 refine⟨?_⟩;have ho:=ho.run;have ha:=ha.run
 intro pins s σ H Q I h;refine wpAny_Call_method_late hbase hfew hline rfl (As (ho pins s σ H _ I h) λv s1 zq=>?_);obtain⟨x,H1,O,U,ty,q1⟩:=zq;obtain⟨h1,h2⟩:=Zgw O U ty;refine⟨T,id,pa,slot,hty,h1,h2,?_⟩;have Y:=ha cpos pins s1 σ H1 _ O q1;rw[hs]at Y ⊢;refine Calls.callWith_builtin (by show(false || (backTo cpos (starEach es X.env)).any (·.1))=false;rw[hplain] <;> rfl) (Calls.evalArgs_plain ?_);exact As Y λus s2 ⟨vs,H2,Z,r2,q2⟩=>hm pins s2 σ H2 x vs v us Q Z U r2 q2
theorem Zoj {T id:String}(pa:PlainAttrs T)(slot:Slot T name id)(hty:typeOf (.builtin id)=pure (.type "method_descriptor"))(hm:J8 X id r)(ho:QE X o to)(hbase:autoParam (attributeBase o name X.env (eval o X.env)=eval o X.env) zX)(hline:autoParam ((apos.endLine == cpos.line)=true) zX):QE X (.Call (.Attribute o name apos) [] [] cpos) (Oe X.K T r to):=by
 refine⟨?_⟩;have ho:=ho.run
 intro pins s σ H Q I h;refine wpAny_Call_method0_late hbase hline (As (ho pins s σ H _ I h) λv s1 Y=>?_);obtain⟨x,H1,O,U,ty,Z⟩:=Y;obtain⟨h1,h2⟩:=Zgw O U ty;exact⟨T,id,pa,slot,hty,h1,h2,Calls.callWith_builtin rfl (PySem.evalArgs_none (hm pins s1 σ H1 x [] v [] Q O U .nil Z))⟩
theorem Zdd (hc:X.calm=true)(S:Ja scope X.env)(hi:QI X target iter wi)(T:∀σ,σ.length=X.N.length->Ih X scope N σ (σ0 σ))(hg:∀C s H fp,QG (Dx X scope C N s H fp) target g)(ht:∀C s H fp,QTs (Dx X scope C N s H fp) ifs tt)(he:∀C s H fp,QE (Dx X scope C N s H fp) elt te)(hs:autoParam (∀x,foldedSetIterable iter X.env x=pure x) zE):QE X (.ListComp elt [⟨target,iter,ifs,0⟩] scope pos) (Mr wi σ0 g tt te):=⟨Zsk hc S hi.run T (λC s H fp=>(hg C s H fp).run) (λC s H fp=>(ht C s H fp).run) (λC s H fp=>(he C s H fp).run) hs⟩
theorem Of (hc:X.calm=true)(S:Ja scope X.env)(hi:QI X target iter wi)(T:∀σ,σ.length=X.N.length->Ih X scope N σ (σ0 σ))(hg:∀C s H fp,QG (Dx X scope C N s H fp) target g)(ht:∀C s H fp,QTs (Dx X scope C N s H fp) ifs tt)(he:∀C s H fp,QE (Dx X scope C N s H fp) elt te)(hN:X.N.Nodup)(hy:X.N[i]?=some y)(hx:Ee X.env.scope y)(hsw:autoParam (swapsWith (.ListComp elt [⟨target,iter,ifs,0⟩] scope pos) (some (.Name y py)) spos.line X.env=pure true) zX)(hf:autoParam (X.fn y=true\/X.env.scope.names.lookup y=some .local) zQ)(hs:autoParam (∀x,foldedSetIterable iter X.env x=pure x) zE):QS X (.Assign [.Name y py] (.ListComp elt [⟨target,iter,ifs,0⟩] scope pos) spos) (Ik (Mr wi σ0 g tt te) (Ep i)):=⟨Zvr hc S hi.run T (λC s H fp=>(hg C s H fp).run) (λC s H fp=>(ht C s H fp).run) (λC s H fp=>(he C s H fp).run) hN hy hx hsw hf hs⟩
theorem Kv:QTs X [] Zcs:=⟨λ_ _ _ H _ I h=>wpAny_tests_nil ⟨H,I,h⟩⟩
theorem Zpx (h:QT X c t):QTs X [c] t:=by
 refine⟨?_⟩;have h:=h.run;exact λpins s σ H Q I O=>wpAny_tests_one (h pins s σ H Q I O)
theorem Ij {j pos'}(ha:QE X a ta):QC X .Is a (.Constant .none j pos') (Zeb ta):=by
 refine⟨?_⟩;have ha:=ha.run
 intro pins s σ H Q I h;refine As (ha pins s σ H _ I h) λv s1 U=>?_;obtain⟨x,H1,O,Y,Z⟩:=U;exact Constant_none (is_none_gen ⟨.bl _,H1,O,by rw[Y.none_iff];rfl,Z⟩)
theorem Il (h:On es=some xs):QA X es (Zd3 xs):=⟨Zkc h⟩
theorem qv (i:Nat)(hN:autoParam (X.N[i]?=some x) zX)(hv:autoParam (Dp X.env.scope x) zY)(hd:autoParam ((x == ("__debug__":Str))=false) zW)(hcd:autoParam ((x == ("__classdict__":Str))=false) zW):QE X (.Name x pos) (Dm i):=by
 refine⟨?_⟩
 intro pins s σ H Q I h;obtain⟨v,e,h⟩:=h;obtain⟨m,hn,hl⟩:=I.loc;obtain⟨u,r,l⟩:=hl i x v hN e hv;have U:EP X pins σ Q u s:=⟨v,H,I,r,h⟩;rcases l with⟨Y,hm⟩|⟨Y,c,Z,O⟩
 ·exact wpAny_Name (wpAny_loadName_local I.ok.kind Y hn hm U) hd
 ·rcases Y with Y|Y
  ·exact wpAny_Name (wpAny_loadName_cell I.ok.kind Y Z O U) hd
  ·exact wpAny_Name (wpAny_loadName_free I.ok.kind Y Z O U hcd) hd
theorem QW.qt (h:QW X e t):QT X e t:=⟨h.run.pt⟩
section
variable {P:Program}{w:World}{K:Ph}{mg:Str->Option Value}{base:Heap}
theorem Fun.okq {x qual:Str}{st:Stmt}{f:Addr}{fd:FuncData}{N ps:List Str}{k:Nat}{sp:Sp}(F:Fun K x qual st f fd)(S:Bb N ps (A5 st))(len:∀vs H Q E,sp vs H Q E->vs.length=ps.length)
  (hbody:∀(cdv:Value)(A:Around)(outer:List Env)(s:Shared)(H:Hp)(vs:List V)(Q:VK)(E:XK),Room k (A.deeper (envOfC qual (A5 st) s.heap.objs.size f cdv))->sp vs H Q E ->
   ∃t,Fj (Fh Aq P w K mg base N qual (A5 st) f cdv A outer s H E).nox (Gh st) t/\t { nx:=λ_ H'=>Q .non H',rt:=Q } (Gq N vs) H):FnOk P w K mg base Aq (k+1) f fd ps sp :=
 F.ok S len λcdv A outer s H vs Q E I h=>by
  obtain⟨t,q,r⟩:=hbody cdv A outer s H vs Q E I h;exact⟨t,q.run,r⟩
end
section
variable {X:Cx}
def Zmb:R2:=λx y H Q=>eX2 λi j=>x=.str i/\y=.str j/\i.length+j.length<=sizeLine/\Q (.str (i++j)) H
def Zhq (K:Ph):R2:=λx y H Q=>eX4 λa b xs ys=>x=.ref a/\y=.ref b/\SqT K H a xs/\SqT K H b ys/\xs.length+ys.length<=sizeLine /\
 ∀r H',Same H H'->SqT K H' r (xs++ys)->Q (.ref r) H'
theorem Zla:OpR X (binaryOp .Add) (Zhq X.K):=by
 intro pins s σ H x y v u Q I rx ry h;obtain⟨a,b,xs,ys,rfl,rfl,Z,hb,hz,q⟩:=h;by_cases hx:xs=[]
 ·subst hx;cases rx;cases ry;obtain⟨ah,r1,p1,_⟩:=I.tuple Z;obtain⟨ae,r2,p2,_⟩:=I.tuple hb;cases r1;obtain⟨⟨ai,dd,ag,sl⟩,ho,hc,n,hd⟩:=id p1;obtain⟨⟨af,ad,ac,aa⟩,O,U,n2,Y⟩:=id p2;simp only at hc hd U Y;subst hc hd U Y;exact V3 ⟨_,ho,rfl⟩ ⟨_,O,rfl⟩ Vk Vy U8 U5 (U2 _ _)
   (tuple_addW0 a b _ _ n n2 dd ad sl aa (by simp)) ⟨ho,O,⟨.ref b,H,I,rfl,q b H (Same.refl H) hb⟩⟩
 ·refine Zhu pins s σ H _ _ v u Q I rx ry ⟨a,b,xs,ys,rfl,rfl,Z,hb,hx,hz,λe=>?_,λ_ p hp=>q p _ (λc o e=>by rw[Af (C9 e hp)];exact e) (.inl (.inl Ac))⟩;subst e;exact q a H (Same.refl H) (by rw[Q0];exact Z)
def Ji (K:Ph):R2:=λx y H Q=>Fs (λi j=>.int (i+j)) x y H Q\/Zmb x y H Q\/rCat x y H Q\/Zhq K x y H Q
theorem op_addA:OpR X (binaryOp .Add) (Ji X.K):=op_add.or (op_add_str.or (op_cat.or Zla))
theorem s_add_int {K:Ph}{i j:Int}{H:Hp}{Q:VK}(h:Q (.int (i+j)) H):Ji K (.int i) (.int j) H Q:=.inl ⟨i,j,rfl,rfl,h⟩
theorem Zba {K:Ph}{i j:Str}{H:Hp}{Q:VK}(hl:i.length+j.length<=sizeLine)(h:Q (.str (i++j)) H):Ji K (.str i) (.str j) H Q:=.inr (.inl ⟨i,j,rfl,rfl,hl,h⟩)
theorem Iq {K:Ph}{a b:Addr}{xs ys:List V}{H:Hp}{Q:VK}(ha:H a=some (.lst xs))(hb:H b=some (.lst ys))(hz:xs.length+ys.length<=sizeLine)(h:∀p,H p=none->Q (.ref p) (upd H p (.lst (xs++ys)))):Ji K (.ref a) (.ref b) H Q:=.inr (.inr (.inl ⟨a,b,xs,ys,rfl,rfl,ha,hb,hz,h⟩))
theorem Zfg {K:Ph}{a b:Addr}{xs ys:List V}{H:Hp}{Q:VK}(ha:SqT K H a xs)(hb:SqT K H b ys)(hz:xs.length+ys.length<=sizeLine)(h:∀r H',Same H H'->SqT K H' r (xs++ys)->Q (.ref r) H'):Ji K (.ref a) (.ref b) H Q:=.inr (.inr (.inr ⟨a,b,xs,ys,rfl,rfl,ha,hb,hz,h⟩))
def Zcy:R2:=λx y H Q=>rI CMul (λi j=>.int (i*j)) x y H Q\/rRep x y H Q
theorem Fd:OpR X (binaryOp .Mult) Zcy:=op_mul.or Ztz
theorem s_mul_l (h1:-(2 ^ 64)<i)(h2:i<2 ^ 64)(h:Q (.int (i*j)) H):Zcy (.int i) (.int j) H Q:=.inl ⟨i,j,rfl,rfl,.inl ⟨h1,h2⟩,h⟩
theorem s_mul_r (h1:-(2 ^ 64)<j)(h2:j<2 ^ 64)(h:Q (.int (i*j)) H):Zcy (.int i) (.int j) H Q:=.inl ⟨i,j,rfl,rfl,.inr ⟨h1,h2⟩,h⟩
theorem s_rI (hc:C i j)(h:Q (g i j) H):rI C g (.int i) (.int j) H Q:=⟨i,j,rfl,rfl,hc,h⟩
theorem s_rI0 (h:Q (g i j) H):Fs g (.int i) (.int j) H Q:=⟨i,j,rfl,rfl,h⟩
theorem s_rU (h:Q (g i) H):rU g (.int i) H Q:=⟨i,rfl,h⟩
def rLtA:R2:=λx y H Q=>Fs (λi j=>.bl (decide (i<j))) x y H Q\/eX2 λi j=>x=.str i/\y=.str j/\Q (.bl (decide (i.cps.toList<j.cps.toList))) H
theorem Ey:OpR X (compareOp .Lt) rLtA:=op_lt.or Zp9
def rLeA:R2:=λx y H Q=>Fs (λi j=>.bl (decide (i<=j))) x y H Q\/eX2 λi j=>x=.str i/\y=.str j/\Q (.bl (!(decide (j.cps.toList<i.cps.toList)))) H
theorem Zgf:OpR X (compareOp .LtE) rLeA:=op_le.or Zqt
theorem s_lt (h:Q (.bl (decide (i<j))) H):rLtA (.int i) (.int j) H Q:=.inl ⟨i,j,rfl,rfl,h⟩
theorem s_le (h:Q (.bl (decide (i<=j))) H):rLeA (.int i) (.int j) H Q:=.inl ⟨i,j,rfl,rfl,h⟩
def Zc0 (neg:Bool):R2:=λx y H Q=>eX2 λ(c:Nat)(j:Str)=>x=.str ⟨#[c]⟩/\y=.str j/\Q (.bl (if neg then !decide (c∈j.cps.toList) else decide (c∈j.cps.toList))) H
theorem Zkv:OpR X (compareOp .In) (Zc0 false):=Zu7
theorem Zuf:OpR X (compareOp .NotIn) (Zc0 true):=Zvk
def Mz (K:Ph)(neg:Bool):R2:=λx y H Q=>rIn K neg x y H Q\/Zc0 neg x y H Q
theorem Zqz:OpR X (compareOp .In) (Mz X.K false):=op_in_seq.or Zkv
theorem Zrv:OpR X (compareOp .NotIn) (Mz X.K true):=op_notIn_seq.or Zuf
theorem Fg {K:Ph}{neg:Bool}{x:V}{p:Addr}{xs:List V}{H:Hp}{Q:VK}(hq:SqL K H p xs\/SqT K H p xs)(hx:C8 x=true)(hxs:xs.all C8=true)(h:Q (.bl (if neg then !Fk x xs else Fk x xs)) H):Mz K neg x (.ref p) H Q:=.inl ⟨p,xs,rfl,hq,hx,hxs,h⟩
def Zbj (K:Ph):V->Option Int->Option Int->Hp->VK->Prop:=λx lo hi H Q=>Zb1 K x lo hi H Q\/Zcb x lo hi H Q\/rSlT K x lo hi H Q
theorem Zof:SlR X (Zbj X.K):=sl_list.or (sl_str.or Zg2)
theorem Gc {K:Ph}{a:Addr}{xs:List V}{lo hi:Option Int}{H:Hp}{Q:VK}(ha:SqL K H a xs)(h:∀p,H p=none->Q (.ref p) (upd H p (.lst (Bf xs lo hi)))):Zbj K (.ref a) lo hi H Q:=.inl ⟨a,xs,rfl,ha,h⟩
theorem Bo {K:Ph}{a:Addr}{xs:List V}{i:Int}{v:V}{H:Hp}{Q:VK}(ha:SqL K H a xs)(hv:Cr xs i=some v)(h:Q v H):Kp K (.ref a) (.int i) H Q:=.inl ⟨a,xs,i,v,rfl,rfl,ha,hv,h⟩
theorem A1 {K:Ph}{a:Addr}{xs:List V}{i:Int}{v:V}{H:Hp}{Q:VK}(ha:SqT K H a xs)(hv:Cr xs i=some v)(h:Q v H):Kp K (.ref a) (.int i) H Q:=.inr (.inl ⟨a,xs,i,v,rfl,rfl,ha,hv,h⟩)
theorem Ztf {K:Ph}{z:Str}{i:Int}{c:Nat}{H:Hp}{Q:VK}(hl:z.length<=sizeLine)(hv:Cr z.cps.toList i=some c)(h:Q (.str ⟨#[c]⟩) H):Kp K (.str z) (.int i) H Q:=.inr (.inr ⟨z,i,c,rfl,rfl,hl,hv,h⟩)
def Ls (K:Ph):List V->Hp->VK->Prop:=λxs H Q=>eX2 λx n=>xs=[x]/\LenV K x H n/\Q (.int n) H
theorem Zld:Cz X (.builtin "len") (Ls X.K):=Zm9
theorem Cm {K:Ph}{a:Addr}{xs:List V}{H:Hp}{Q:VK}(ha:SqL K H a xs)(h:Q (.int xs.length) H):Ls K [.ref a] H Q:=⟨_,_,rfl,.inl ⟨xs,ha,rfl⟩,h⟩
theorem Ej {K:Ph}{a:Addr}{xs:List V}{H:Hp}{Q:VK}(ha:SqT K H a xs)(h:Q (.int xs.length) H):Ls K [.ref a] H Q:=⟨_,_,rfl,.inr ⟨xs,ha,rfl⟩,h⟩
structure F3 (mg:Str->Option Value)(x:Str)(v:V):Prop where
 ex:∃u,mg x=some u/\RelV v u
theorem G8 (G:F3 X.mg x v)(hg:autoParam (Gl X x) zX)(hd:autoParam ((x == ("__debug__":Str))=false) zW):QE X (.Name x pos) (tC v):=by
 obtain⟨u,h,r⟩:=G.ex;exact⟨Zug hg h r hd⟩
def Zdc (K:Ph)(tl:TE):TI:=λσ H R=>tl σ H λx H1=>(∃a,x=.ref a/\(∃xs,SqL K H1 a xs)/\R (Ju K a) H1)\/(∃a,x=.ref a/\(∃xs,SqT K H1 a xs)/\R (Jy K a) H1)\/∃z,x=.str z/\R (Its z) H1
theorem Ztn (hl:QE X l tl):QI X tg l (Zdc X.K tl):=by
 refine⟨λpins s σ H R I h=>?_⟩;refine As (hl.run pins s σ H _ I h) λv O zq=>?_;obtain⟨x,H1,U,Z,q1⟩:=zq;have one:∀(l:Expr)(t:TE),PE X l t->True:=λ_ _ _=>trivial;rcases q1 with⟨a,e,⟨xs,hq⟩,q⟩|⟨a,e,⟨xs,hq⟩,q⟩|⟨z,e,q⟩
 ·subst e;cases Z;obtain⟨Y,rv,p,hz⟩:=U.list hq;refine Vi p.isList ?_;refine⟨O.heap.objs.size,[O.heap.objs.size],_,_,H1,rfl,U.kept (t':=O.toks) λb o e=>Po _ e,Ztl a _,⟨_,P3 _ rfl,rfl,rfl⟩,λb hb=>?_,q⟩;have e:b=O.heap.objs.size:=by simpa using hb
  subst e;exact U.fpOk (Pl _) (U.hok.fresh (Pl _))
 ·subst e;cases Z;obtain⟨Y,rv,p,hz⟩:=U.tuple hq;refine Ue (show O.heap.IsTuple a Y.toArray from p) ?_;refine⟨O.heap.objs.size,[O.heap.objs.size],_,_,H1,rfl,U.kept (t':=O.toks) λb o e=>Po _ e,Zlz a _,⟨_,P3 _ rfl,rfl,rfl⟩,λb hb=>?_,q⟩;have e:b=O.heap.objs.size:=by simpa using hb
  subst e;exact U.fpOk (Pl _) (U.hok.fresh (Pl _))
 ·subst e;obtain⟨t,rfl⟩:=Z;refine wpAny_pyIter_strU ?_;refine⟨O.heap.objs.size,[O.heap.objs.size],_,_,H1,rfl,U.kept (t':=O.toks) λb o e=>Po _ e,Zt8 _ z t,⟨_,P3 _ rfl,rfl,rfl⟩,λb hb=>?_,q⟩;have e:b=O.heap.objs.size:=by simpa using hb
  subst e;exact U.fpOk (Pl _) (U.hok.fresh (Pl _))
end
section
variable {X:Cx}{tg:Expr}
end
noncomputable def Ke (K:Ph)(a:Addr)(n:Nat):It :=
 ⟨λi H=>∃xs,SqL K H a xs/\xs.length=n/\i<n,λi H x H'=>H'=H/\∀xs,SqL K H a xs->xs[n-1-i]?=some x,λi _=>i=n⟩
theorem Znp {P:Program}{w:World}{K:Ph}{tg:Expr}(a it:Addr)(n:Nat):Jf P w K tg (Ke K a n) [it] it (λi h=>i<=n/\h.IsRevIter it a ((n:Int)-1-(i:Int))) where
 mem:=by simp
 obj:=λi h st b hb=>by
  have e:b=it:=by simpa using hb
  subst e;obtain⟨o,e,c,d⟩:=st.2;exact⟨o,e,λv z=>by rw[d]at z;cases z⟩
 keep:=λi h h' st k=>⟨st.1,st.2.at λo e=>k it (by simp) o e⟩
 item:=by
  intro X hP hw hK hc i pins s σ H E I Z st Y;subst hP hw hK;obtain⟨xs,hq,hl,hi⟩:=Y;obtain⟨aa,rv,p,hz⟩:=I.list hq;have hx:xs[n-1-i]?=some (xs[n-1-i]'(by lia)):=Pj (by lia);obtain⟨u,hu,ru⟩:=rv.get hx;obtain⟨f0,f1,f2,f3,f4,f5⟩:=Z it (by simp);have e:(n:Int)-1-(i:Int)=((n-1-i:Nat):Int):=by lia
  have O:=st.2;rw[e]at O;refine wpAny_pyNext_rev_item O p.isList (x:=u) (by simpa using hu) λh' U sb=>?_;have I1:Inv X pins σ H { s with heap:=h' }:=I.turned (t':=s.toks) (λb o hb e=>(sb.2 b hb).trans e) f0 f1 f3 f4 f5;have e2:((n-1-i:Nat):Int)-1=(n:Int)-1-((i+1:Nat):Int):=by lia
  rw[e2]at U;obtain⟨o,eo,c,d⟩:=id U;exact⟨u,rfl,Lp (s:={ s with heap:=h' }) eo c d (by decide) ⟨_,H,I1,ru,⟨rfl,λys hy=>by rw[I.list_inj hy hq];exact hx⟩,⟨hi,U⟩,λb hb=>(Z b hb).1⟩⟩
 done:=by
  intro X hP hw hK hc i pins s σ H E I Z st Y;subst hP hw hK;have Y:i=n:=Y;subst Y;obtain⟨f0,f1,f2,f3,f4,f5⟩:=Z it (by simp);have e:(i:Int)-1-(i:Int)=-1:=by lia
  have O:=st.2;rw[e]at O;exact wpAny_pyNext_rev_end (I.ok.hd hc) O λh' eb=>⟨rfl,I.turned (t':=s.toks) (λb o hb e=>eb b o hb e) f0 f1 f3 f4 f5⟩
 self:=λ_ _ _ _ _ st h=>wpAny_pyIter_revIter st.2 h
theorem Zry:bootBuiltins "reversed"=some (.type "reversed"):=by right
section
variable {X:Cx}{tg:Expr}
def Zc9 (K:Ph)(ta:TA):TI:=λσ H R=>ta σ H λvs H1=>eX2 λa xs=>vs=[.ref a]/\SqL K H1 a xs/\R (Ke K a xs.length) H1
theorem Zmk (hg:Gl X "reversed")(hm:X.mg "reversed"=none)(ha:QA X [a] ta)(hs:autoParam (starEach [a] X.env=[(false,eval a X.env)]) zX):QI X tg (.Call (.Name "reversed" p) [a] [] pos) (Zc9 X.K ta):=by
 refine⟨λpins s σ H R I h=>?_⟩;refine Call_ (G4 I hg hm Zry (Sh (As (ha.run pos pins s σ H _ I h) λus O zq=>?_) hs rfl));obtain⟨vs,H1,Z,r1,q1⟩:=zq;obtain⟨l,xs,e,hq,q⟩:=q1;subst e;cases r1 with
 |cons r rr =>
  cases rr;cases r;obtain⟨Y,rv,pl,hz⟩:=Z.list hq;refine call_reversed_list pl.isList ?_;have hl:=rv.length;have U:(O.heap.push (PySem.revObj l (((Y.toArray).size:Int)-1))).IsRevIter O.heap.objs.size l ((xs.length:Int)-1-((0:Nat):Int)):=by
   refine⟨_,P3 _ rfl,rfl,?_⟩;have e:((Y.toArray).size:Int)-1=(xs.length:Int)-1-((0:Nat):Int):=by simp[hl]
   rw[<- e];rfl
  refine wpAny_pyIter_revIter (it:=O.heap.objs.size) (l:=l) (i:=(xs.length:Int)-1-((0:Nat):Int)) U ?_;refine⟨O.heap.objs.size,[O.heap.objs.size],_,_,H1,rfl,Z.kept (t':=O.toks) λb o e=>Po _ e,Znp l _ xs.length,⟨Qn _,U⟩,λb hb=>?_,q⟩;have e:b=O.heap.objs.size:=by simpa using hb
  subst e;exact Z.fpOk (Pl _) (Z.hok.fresh (Pl _))
theorem Zh7 {K:Ph}{a:Addr}{xs:List V}{g:TG}{tb:TS}{D:Ends}{σ:St}{H:Hp}(Pv:Nat->St->Hp->Prop)(h0:Pv 0 σ H)(hl:∀i σ H,i<=xs.length->Pv i σ H->SqL K H a xs)
  (hs:∀i x σ H,i<xs.length->xs[xs.length-1-i]?=some x->Pv i σ H->g x σ H λσ2 H2=>tb { D with nx:=Pv (i+1),ct:=Pv (i+1),bk:=D.nx } σ2 H2) (hd:∀σ H,Pv xs.length σ H->D.nx σ H) :
  ∃W:Nat->Nat->St->Hp->Prop,(∃m,W 0 m σ H)/\∀i m σ H,W i m σ H ->
   ((Ke K a xs.length).stop i H/\D.nx σ H)\/((Ke K a xs.length).go i H/\∃N:St->Hp->Prop,(∀σ' H',N σ' H'->∃m',m'<m/\W (i+1) m' σ' H')/\∀x H',(Ke K a xs.length).yld i H x H'->g x σ H' λσ2 H2=>tb { D with nx:=N,ct:=N,bk:=D.nx } σ2 H2):=by
 refine⟨λi m σ H=>m=xs.length-i/\i<=xs.length/\Pv i σ H,⟨xs.length,by simp,Qn _,h0⟩,?_⟩;rintro i m σ H ⟨rfl,hi,p⟩;have q:=hl i σ H hi p;by_cases I:i<xs.length
 ·refine .inr ⟨⟨xs,q,rfl,I⟩,Pv (i+1),λσ' H' O=>⟨xs.length-(i+1),by lia,rfl,I,O⟩,λx H' y=>?_⟩;obtain⟨e,y⟩:=y;subst e;exact hs i x σ _ I (y xs q) p
 ·have e:i=xs.length:=by lia
  subst e;exact .inl ⟨rfl,hd σ H p⟩
end
section
variable {prog:Program}{w:World}{A:Around}{E:Value->Shared->Prop}{s:Shared}
theorem Zk6 (hit:s.heap.IsTupleIter it t i)(ht:s.heap.IsTuple t items)(hx:items[i]?=some x)(hQ:∀h',h'.IsTupleIter it t (i+1)->P4 it s.heap h'->Q x { s with heap:=h' }):wpAny (model prog w) A (Q2 (.ref it)) Q E s:=by
 obtain⟨o,I,Y,hd⟩:=id hit;obtain⟨Z,U,_,nl,O⟩:=ht;unfold Q2;refine Pi (Rg (name:=Qv "__next__") hit.typeIs Uw
  (Rk Uw hit.typeIs W7 ?_ (W6 _)))
 show wpAny _ _ (field (.ref it) 0 >>= _) _ _ s;refine Pi (Px I hd (x:=.ref t) rfl ?_);show wpAny _ _ (if (Value.ref t == Value.none)=true then _ else _) _ _ s;rw[if_neg (show ¬((Value.ref t == Value.none)=true) from Pt)];show wpAny _ _ (field (.ref it) 1 >>= _) _ _ s;refine Pi (Px I hd (x:=.int i 0) rfl ?_);show wpAny _ _ (seqItems? (.ref t) >>= _) _ _ s;refine Pi (Rc U O ?_);simp only[Qx,hx];refine Pi (Um I hd (by simp) (Pk ⟨x,rfl,Pk (hQ _ ?_ (P4.update ..))⟩));exact⟨_,R7 _ I (Wg (Ve hd _)),(Obj.cls_mapFields ..).trans Y,by
  rw[Ve hd];simp[rawInt]⟩
theorem Zpu (hh:A.handled=none)(hit:s.heap.IsTupleIter it t i)(ht:s.heap.IsTuple t items)(hx:items[i]?=none)(hE:∀h' e,Tt it s.heap h'->(∃o,h'.get? e=some o/\o.cls=.type "StopIteration")->E (.ref e) { s with heap:=h' }):wpAny (model prog w) A (Q2 (.ref it)) Q E s:=by
 obtain⟨o,O,Y,hd⟩:=id hit;obtain⟨Z,U,_,nl,I⟩:=ht;unfold Q2;refine Pi (Rg (name:=Qv "__next__") hit.typeIs Uw
  (Rk Uw hit.typeIs W7 ?_ (W6 _)))
 show wpAny _ _ (field (.ref it) 0 >>= _) _ _ s;refine Pi (Px O hd (x:=.ref t) rfl ?_);show wpAny _ _ (if (Value.ref t == Value.none)=true then _ else _) _ _ s;rw[if_neg (show ¬((Value.ref t == Value.none)=true) from Pt)];show wpAny _ _ (field (.ref it) 1 >>= _) _ _ s;refine Pi (Px O hd (x:=.int i 0) rfl ?_);show wpAny _ _ (seqItems? (.ref t) >>= _) _ _ s;refine Pi (Rc U I ?_);simp only[Qx,hx];refine Pi (Tu (Pi (Um O hd (by simp) ?_)));show wpAny _ _ (newExc (.type "StopIteration") [] >>= _) _ _ _;refine Pi ?_;simp only[newExc,newTuple];refine Pi (R9 ?_ (by size_fits));refine Pi (m:=firstArgMember _ _) (wpAny_of_eq (a:=Value.none) (by first|rfl|(simp only[firstArgMember];rfl)) ?_);refine R9 ?_ (by size_fits);simp only[raiseNew];refine Pi (wpAny_handled ?_)
 first|rw[show A.in1.handled=none from hh]|rw[hh]
 refine Pi (Pk (wpAny_throw ?_));exact hE _ _ (((P4.update ..).extBut.push _).push _) ⟨_,P3 _ rfl,rfl⟩
end
theorem Zbk (hh:A.handled=none)(it l:Addr)(hne:l≠it)(items:Array Value) :
  Draws prog w A it [it,l] items.size (λi v=>items[i]?=some v) (λi h=>h.IsTupleIter it l i/\h.IsTuple l items) where
 live:=λ_ _ st=>let ⟨o,ho,_⟩:=st.1;⟨o,ho⟩
 frame:=λ_ _ _ st U=>⟨st.1.at λo e=>U it (by simp) o e,let ⟨o,e,r⟩:=st.2;⟨o,U l (by simp) o e,r⟩⟩
 item:=λi s Q E hi st Z=>by
  refine Zk6 st.1 st.2 (x:=items[i]) (by simp[hi]) λh' O I=>?_;exact Z _ h' s.toks (by simp[hi]) ⟨O,st.2.extBut I.extBut hne⟩ I
 done:=λs Q E st Y=>Zpu hh st.1 st.2 (by simp) Y
theorem Zr0 (l:Addr)(items:Array Value)(n:Nat)(dct:Option Addr)(sl:Array (Option Value)) :
  Meets (Builtin.«enumerate.__new__» ⟨[.type "enumerate",.ref l],[]⟩) (λ_ R s=>s.heap.get? l=some { cls:=.type "tuple",dict:=dct,data:=.seq items n,slots:=sl } /\
   R (.ok (.ret (.ref (s.heap.push { cls:=.type "tuple_iterator",data:=.fields #[.ref l,.int 0 0] }).objs.size)))
    { s with heap:=(s.heap.push { cls:=.type "tuple_iterator",data:=.fields #[.ref l,.int 0 0] }).push { cls:=.type "enumerate",data:=.fields #[.none,.bool false,.ref s.heap.objs.size,rawInt 0,.none,.none] } }) :=
 .of_wp λprog w A R s h=>by
  obtain⟨hp,g,d,tk,os⟩:=s;obtain⟨hl,h⟩:=h;have O:=sub_enumerate;have I:Heap.IsTuple (Shared.heap ⟨hp,g,d,tk,os⟩) l items:=⟨_,hl,rfl,n,rfl⟩
  wp_walk using Ux hl
  refine wpAny_stack_any λst=>Pk ?_;split
  ·rename_i c _ _ _ _ _;cases (c == Value.type "enumerate")
   ·wp_walk using Ux hl,Ue I
    exact⟨_,rfl,h⟩
   ·wp_walk using Ux hl,Ue I
    exact⟨_,rfl,h⟩
  ·wp_walk using Ux hl,Ue I
   exact⟨_,rfl,h⟩
section
variable {prog:Program}{w:World}{A:Around}{E:Value->Shared->Prop}{s:Shared}
theorem Zr6 (hL:s.heap.IsTuple l items)(h:∀h',IsEnum h' (s.heap.objs.size+1) s.heap.objs.size 0 .none->h'.IsTupleIter s.heap.objs.size l 0->h'.objs.size=s.heap.objs.size+2 ->
   (∀b o,s.heap.get? b=some o->h'.get? b=some o)->Q (.ref (s.heap.objs.size+1)) { s with heap:=h' }) :
  wpAny (model prog w) A (call (.type "enumerate") [.ref l]) Q E s:=by
 obtain⟨⟨c,I,Z,sl⟩,hl,O,n,hd⟩:=hL;replace O:c=.type "tuple":=O;replace hd:Z=.seq items n:=hd;subst O hd;refine callType_new PySem.F.called_enumerate (by decide) (PySem.F.typeCall_enumerate_1 _) (PySem.F.newCall_enumerate_1 _) (λobj=>PySem.F.args_object_init_2 obj _) PySem.F.entry_enumerate_new
  (Zr0 l items n I sl) ⟨hl,?_⟩
 have U:(s.heap.push { cls:=.type "tuple_iterator",data:=.fields #[.ref l,.int 0 0] }).objs.size=s.heap.objs.size+1:=Qt ..;show _/\_;rw[U];have Y:IsEnum ((s.heap.push { cls:=.type "tuple_iterator",data:=.fields #[.ref l,.int 0 0] }).push
   { cls:=.type "enumerate",data:=.fields #[.none,.bool false,.ref s.heap.objs.size,rawInt 0,.none,.none] }) (s.heap.objs.size+1) s.heap.objs.size 0 .none:=by
  unfold IsEnum;rw[<- U];exact P3 _ rfl
 refine⟨⟨_,Y,rfl⟩,h _ Y ⟨_,Po _ (P3 _ rfl),rfl,rfl⟩ (by rw[Qt,U]) λb o e=>Po _ (Po _ e)⟩
def Pb (h:Heap)(e it:Addr)(i:Int):Prop:=eX4 λ(a:Addr)(oa:Obj)(f1 old:Value)=>h.get? e=some { cls:=.type "enumerate",dict:=none,data:=.fields #[rawInt a,f1,.ref it,rawInt i,.none,old],slots:=#[] }/\h.get? a=some oa/\a≠e/\a≠it
theorem Zfe (h:Q (s.heap.get? a) s):wpAny (model prog w) A (loadIfAlive a) Q E s:=by
 intro Γ p I;show Sem.wp _ Γ (.loadIfAlive a .pure) _ _ p s;rw[Sem.wp_loadIfAlive];exact h
theorem Zrd {e it:Addr}{fp:List Addr}{n i:Nat}{P:Nat->Value->Prop}{St:Nat->Heap->Prop}{Q:Value->Shared->Prop}
  (D:Draws prog w A it fp n P St) (he0:Pb s.heap e it i) (hst:St i s.heap) (hlt:i<n) (hne:e≠it) (hef:e ∉ fp)
  (hQ:∀x h' tk,P i x->Pb h' e it ((i:Int)+1)->St (i+1) h' ->
   h'.get? s.heap.objs.size=some { cls:=.type "tuple",data:=.seq #[.int i tk,x] }->h'.objs.size=s.heap.objs.size+1 ->
   (∀b o,b≠e->b≠it->s.heap.get? b=some o->h'.get? b=some o)->Q (.ref s.heap.objs.size) { s with heap:=h',toks:=tk+1 }) :
  wpAny (model prog w) A (Builtin.«enumerate.__next__» ⟨[.ref e],[]⟩) (λfin s'=>∃v,fin=.done (.ret v)/\Q v s') E s:=by
 obtain⟨a,oa,f1,old,he,a5,ao,aw⟩:=he0;obtain⟨hp,g,d,a4,os⟩:=s;show wpAny _ _ (field (.ref e) 2 >>= _) _ _ _;refine Pi (Px he rfl (x:=.ref it) rfl ?_);refine Pi (D.item i _ _ _ hlt hst λx ae tk a6 al U=>?_);replace U:P4 it hp ae:=U;have ai:=(U.2 e hne).trans he;have am:=U.extBut a oa aw a5;show wpAny _ _ (field (.ref e) 3 >>= _) _ _ ⟨ae,g,d,tk,os⟩;refine Pi (Px ai rfl (x:=rawInt i) rfl ?_);show wpAny _ _ (field (.ref e) 4 >>= _) _ _ ⟨ae,g,d,tk,os⟩;refine Pi (Px ai rfl (x:=.none) rfl ?_);show wpAny _ _ (mkInt i >>= _) _ _ ⟨ae,g,d,tk,os⟩;refine Pi (wpAny_mkInt ?_);show wpAny _ _ (setField (.ref e) 3 (rawInt ((i:Int)+1)) >>= _) _ _ ⟨ae,g,d,tk+1,os⟩;refine Pi (Rj ai (by simp) λaj af Z=>?_);replace Z:P4 e ae aj:=Z;have ap:=Z.extBut a oa ao am;replace af:aj.get? e=some { cls:=.type "enumerate",dict:=none,data:=.fields #[rawInt a,f1,.ref it,rawInt ((i:Int)+1),.none,old],slots:=#[] }:=af;show wpAny _ _ (setField (.ref e) 4 .none >>= _) _ _ ⟨aj,g,d,tk+1,os⟩;refine Pi (Rj af (by simp) λaa ah Y=>?_);replace Y:P4 e aj aa:=Y;have an:=Y.extBut a oa ao ap;replace ah:aa.get? e=some { cls:=.type "enumerate",dict:=none,data:=.fields #[rawInt a,f1,.ref it,rawInt ((i:Int)+1),.none,old],slots:=#[] }:=ah;show wpAny _ _ (newTuple [.int i tk,x] >>= _) _ _ ⟨aa,g,d,tk+1,os⟩;refine Pi (wpAny_newTuple ?_);have ad:(aa.push { cls:=.type "tuple",data:=.seq #[.int i tk,x] }).get? e=some { cls:=.type "enumerate",dict:=none,data:=.fields #[rawInt a,f1,.ref it,rawInt ((i:Int)+1),.none,old],slots:=#[] }:=Po _ ah;have ag:(aa.push { cls:=.type "tuple",data:=.seq #[.int i tk,x] }).get? a=some oa:=Po _ an;generalize hh₄:aa.push { cls:=.type "tuple",data:=.seq #[.int i tk,x] }=O at ad ag;have aq:aa.objs.size=hp.objs.size:=by rw[Y.1,Z.1,U.1]
 have a3:e<hp.objs.size:=Pq he;have ay:O.get? hp.objs.size=some { cls:=.type "tuple",data:=.seq #[.int i tk,x] }:=by rw[<- hh₄,<- aq];exact P3 _ rfl
 have ax:O.objs.size=hp.objs.size+1:=by rw[<- hh₄,Qt,aq]
 have a0:∀b o,b≠e->b≠it->hp.get? b=some o->O.get? b=some o:=λb o ak au hb=>by
  rw[<- hh₄];exact Po _ (Y.extBut b o ak (Z.extBut b o ak (U.extBut b o au hb)))
 have as:St (i+1) O:=D.frame _ _ _ al λb hb o y=>by
  have ak:b≠e:=λq=>hef (q ▸ hb);rw[<- hh₄];exact Po _ (Y.extBut b o ak (Z.extBut b o ak y))
 show wpAny _ _ (Rf (.ref e) >>= _) _ _ ⟨O,g,d,tk+1,os⟩;rw[aq];clear hh₄ an ap am ah Y af Z ai U al aq aa aj ae;refine Pi ?_;unfold Rf;refine Pi (Px ad rfl (x:=rawInt a) rfl ?_);show wpAny _ _ (loadIfAlive ((a:Int).toNat) >>= _) _ _ ⟨O,g,d,tk+1,os⟩;refine Pi (Zfe ?_);rw[Qx];show wpAny _ _ (if (O.get? a).isNone=true then _ else _) _ _ ⟨O,g,d,tk+1,os⟩;rw[ag];rw[if_neg (by simp)];refine Pi (Px ad rfl (x:=f1) rfl ?_);have fin:∀ac,Pb ac e it ((i:Int)+1)->P4 e O ac->Q (.ref hp.objs.size) ⟨ac,g,d,tk+1,os⟩:=λac hl I =>
  hQ x ac tk a6 hl (D.frame _ _ _ as λb hb o y=>I.extBut b o (λq=>hef (q ▸ hb)) y) (I.extBut _ _ (Q1 a3) ay) (by rw[I.1,ax]) λb o ak au hb=>I.extBut b o ak (a0 b o ak au hb)
 by_cases hf:(f1 != Value.bool true)=true
 ·simp only[hf,if_true];refine Pi (Rj ad (by simp) λac av I=>?_);replace I:P4 e O ac:=I;refine Pk ?_;simp only[Uf,if_false];refine Pk ⟨_,rfl,fin ac ⟨a,oa,.bool true,old,av,I.extBut a oa ao ag,ao,aw⟩ I⟩
 ·simp only[hf];refine Pk ?_;simp only[Uf,if_false];exact Pk ⟨_,rfl,fin O ⟨a,oa,f1,old,ad,ag,ao,aw⟩ (P4.refl ..)⟩
def EnSt (h:Heap)(e it:Addr)(i:Nat):Prop:=(i=0/\∃old,IsEnum h e it 0 old)\/(0<i/\Pb h e it i)
theorem EnSt.obj (x:EnSt h e it i):∃vs,h.get? e=some { cls:=.type "enumerate",dict:=none,data:=.fields vs,slots:=#[] }:=by
 rcases x with⟨_,old,x⟩|⟨_,_,_,_,_,x,_⟩
 ·exact⟨_,x⟩
 ·exact⟨_,x⟩
theorem Zn3 {e it:Addr}{fp:List Addr}{n i:Nat}{P:Nat->Value->Prop}{St:Nat->Heap->Prop}{Q:Option Value->Shared->Prop}
  (D:Draws prog w A.in1 it fp n P St) (he:EnSt s.heap e it i) (hst:St i s.heap) (hlt:i<n) (hne:e≠it) (hef:e ∉ fp)
  (hQ:∀x h' tk,P i x->EnSt h' e it (i+1)->St (i+1) h' ->
   h'.get? s.heap.objs.size=some { cls:=.type "tuple",data:=.seq #[.int i tk,x] }->h'.objs.size=s.heap.objs.size+1 ->
   (∀b o,b≠e->b≠it->s.heap.get? b=some o->h'.get? b=some o)->Q (some (.ref s.heap.objs.size)) { s with heap:=h',toks:=tk+1 }) :
  wpAny (model prog w) A (pyNext (.ref e)) Q E s:=by
 obtain⟨vs,U⟩:=he.obj;have Y:s.TypeIs (.ref e) "enumerate":=⟨_,U,rfl⟩;have I:e<s.heap.objs.size:=Pq U;have O:it<s.heap.objs.size:=by obtain⟨_,y⟩:=D.live _ _ hst;exact Pq y
 rcases he with⟨rfl,old,he⟩|⟨_,he⟩
 ·refine wpAny_pyNext_enum_itemD D he hst hlt hne hef λx h' tk a b c z k q=>?_;exact hQ x h' tk a (.inr ⟨Us _,_,_,_,_,b,z,Q1 I,Q1 O⟩) c z k q
 ·unfold pyNext;exact Pi (Tk (Rg (name:=Qv "__next__") Y Uy
   (Rk Uy Y W9
    (Zrd D he hst hlt hne hef λx h' tk a b c z k q=>Pk (hQ x h' tk a (.inr ⟨Us _,b⟩) c z k q)) (W8 _))))
theorem Zo7 {e it:Addr}{fp:List Addr}{n:Nat}{P:Nat->Value->Prop}{St:Nat->Heap->Prop}{Q:Option Value->Shared->Prop}
  (D:Draws prog w A.in1 it fp n P St) (he:EnSt s.heap e it n) (hst:St n s.heap)
  (hQ:∀h',Tt it s.heap h'->Q none { s with heap:=h' }):wpAny (model prog w) A (pyNext (.ref e)) Q E s:=by
 obtain⟨vs,I⟩:=he.obj;have Z:s.TypeIs (.ref e) "enumerate":=⟨_,I,rfl⟩;have h2:vs[2]?=some (.ref it):=by
  rcases he with⟨rfl,old,he⟩|⟨_,a,oa,f1,old,he,_⟩
  ·unfold IsEnum at he;rw[I]at he;injection he with he;injection he with _ _ he _;injection he with he;rw[he];rfl
  ·rw[I]at he;injection he with he;injection he with _ _ he _;injection he with he;rw[he];rfl
 unfold pyNext;refine Pi (Tk (Rg (name:=Qv "__next__") Z Uy
  (Rk Uy Z W9 ?_ (W8 _))))
 show wpAny _ _ (field (.ref e) 2 >>= _) _ _ _;refine Pi (Px I rfl (x:=.ref it) h2 ?_);refine Pi (D.done _ _ _ hst λh' x U O=>?_);obtain⟨o,Y,hc⟩:=O;refine Pi (Ww (T:="StopIteration") (b:=true) ⟨o,Y,hc⟩ isSubtype_stop ?_);exact Pk (hQ _ U)
end
theorem Zgu (hT:s.TypeIs (.ref it) T)(n1:typeLookup (.type T) "__len__"=pure none)(n2:typeLookup (.type T) "__length_hint__"=pure none)(h:Q true s):wpAny (model prog w) A (V8 (.ref it)) Q E s:=by
 unfold V8;refine Pi (W2 hT n1 ?_);show wpAny _ A (specialOf (Value.ref it) (Qv "__length_hint__") >>= _) _ _ _;refine Pi (W2 hT n2 ?_);exact Pk h
structure Src (X:Cx)(pins:List (Addr×Obj))(σ:St)(it:Addr)(T:String)(n:Nat)(H0:Hp)(J:Nat->List V->Hp->Heap->Prop):Prop where
 ty:∀i ys H h,J i ys H h->∃o,h.get? it=some o/\o.cls=.type T
 nl:(Value.type T == Value.type "list")=false/\(Value.type T == Value.type "tuple")=false
 hint:∃mr:Bool,∀(A:Around)(s:Shared)(Q:Bool->Shared->Prop)(E:Value->Shared->Prop),s.TypeIs (.ref it) T->Q mr s->wpAny (model X.prog X.w) A (V8 (.ref it)) Q E s
 self:∀(A:Around)(s:Shared)(ys:List V)(H:Hp)(Q:Value->Shared->Prop)(E:Value->Shared->Prop),J 0 ys H s.heap->Q (.ref it) s->wpAny (model X.prog X.w) A (pyIter (.ref it)) Q E s
 keep:∀i ys H h h' S zs zs',H0 S=none->H S=some (.lst zs)->J i ys H h->(∀b o,b≠S->h.get? b=some o->h'.get? b=some o)->(∃o,h'.get? S=some o)->J i ys (upd H S (.lst zs')) h'
 fresh:∀i ys H h,J i ys H h->H it=none
 item:∀(A:Around)(i:Nat)(s:Shared)(H:Hp)(ys:List V)(E:Value->Shared->Prop),A.handled=none->i<n->Inv X pins σ H s->J i ys H s.heap ->
  wpAny (model X.prog X.w) A (pyNext (.ref it)) (λr s'=>eX3 λu x H'=>r=some u/\RelV x u/\Inv X pins σ H' s'/\J (i+1) (ys++[x]) H' s'.heap/\∀S zs,H S=some (.lst zs)->H' S=some (.lst zs)) E s
 done:∀(A:Around)(s:Shared)(H:Hp)(ys:List V)(E:Value->Shared->Prop),A.handled=none->Inv X pins σ H s->J n ys H s.heap ->
  wpAny (model X.prog X.w) A (pyNext (.ref it)) (λr s'=>r=none/\Inv X pins σ H s') E s
section
variable {X:Cx}{pins:List (Addr×Obj)}{σ:St}{it:Addr}{T:String}{n:Nat}{H0:Hp}{J:Nat->List V->Hp->Heap->Prop}
theorem Zjo (C:Src X pins σ it T n H0 J)(hn:n<=sizeLine)(hh:A.handled=none)(S:Addr)(hS0:H0 S=none)(res:Value)(fin:∀s' H' ys',Inv X pins σ H' s'->H' S=some (.lst ys')->ys'.length=n->(∃h,J n ys' H' h)->R (.ok (.ret res)) s') :
  ∀(k i:Nat)(s:Shared)(H:Hp)(ys:List V),n-i=k->i<=n->Inv X pins σ H s->J i ys H s.heap->H S=some (.lst ys)->ys.length=i ->
  codeAny (model X.prog X.w) A (.builtin "list.extend.loop" ⟨[.ref S,.ref it,res],[]⟩) R s:=by
 intro k
 induction k with
 |zero =>
  intro i s H ys hk hi I j hS hl;have aa:i=n:=by lia
  subst aa;refine Tg PySem.F.entry_extend_loop ?_;rw[Tb Tv _];show wpAny _ A.in1 (pyNext (.ref it) >>= _) _ _ s;refine Pi (As (C.done A.in1 s H ys _ hh I j) λr s' zq=>?_);obtain⟨hr,Z⟩:=zq;subst hr;exact Pk (fin s' H ys Z hS hl ⟨_,j⟩)
 |succ k ih =>
  intro i s H ys hk hi I j hS hl;have Y:i<n:=by lia
  refine Tg PySem.F.entry_extend_loop ?_;rw[Tb Tv _];show wpAny _ A.in1 (pyNext (.ref it) >>= _) _ _ s;refine Pi (As (C.item A.in1 i s H ys _ hh Y I j) λr s' zq=>?_);obtain⟨u,x,H',hr,rx,Z,j',kS⟩:=zq;subst hr;have U:=kS S ys hS;obtain⟨z,O,m,rv,ac,e⟩:=Z.lstM U;show wpAny _ A.in1 (updateSeq S (·.push u) >>= _) _ _ _;refine Pi ?_;have hu:(O.toArray.push u)=(O++[u]).toArray:=by simp
  have I2:=Z.lset (f:=(·.push u)) (its':=O++[u]) (ys:=ys++[x]) (t':=s'.toks) U e hu (rv.append (.cons rx .nil)) (by rw[Pn,Py];lia);refine Vr e rfl (Pk ⟨Su Tv _,ih (i+1) _ _ (ys++[x]) (by lia) Y I2 ?_ Ac (by simp[hl])⟩)
   (by rw[Pm];lia) (by show(O.toArray.push u).size<=sizeLine+1;rw[Array.size_push,Pm];lia)
  exact C.keep _ _ _ _ _ S ys (ys++[x]) hS0 U j' (λb o hb eb=>(Ra _ _ (Pw hb)).trans eb) ⟨_,R7 _ e rfl⟩
theorem Zkg (C:Src X pins σ it T n H J)(hn:n<=sizeLine)(hh:A.handled=none)(I:Inv X pins σ H s)(j:J 0 [] H s.heap)(jn:∀S,s.heap.objs.size<=S->H S=none->∀h',(∀b o,s.heap.get? b=some o->h'.get? b=some o)->J 0 [] (upd H S (.lst [])) h')(q:∀S H' ys,H S=none->H' S=some (.lst ys)->ys.length=n->(∃h,J n ys H' h)->Q (.ref S) H') :
  wpAny (model X.prog X.w) A (call (.type "list") [.ref it]) (EP X pins σ Q) E s:=by
 have hf:H s.heap.objs.size=none:=I.hok.fresh (Pl _);have as:s.heap.objs.size≠it:=by
  obtain⟨o,e,_⟩:=C.ty _ _ _ _ j;exact Q1 (Pq e)
 refine callType_codes (Q₁:=λobj ac=>obj=.ref s.heap.objs.size/\ac={ s with heap:=s.heap.push { cls:=.type "list",data:=.seq #[] } }) PySem.F.called_list (PySem.F.typeCall_list_1 _) PySem.F.entry_list_init
  (code_list_new _ ⟨rfl,rfl⟩) λobj ac ak=>?_
 obtain⟨rfl,rfl⟩:=ak;have hS:(s.heap.push { cls:=.type "list",data:=.seq #[] }).get? s.heap.objs.size=some { cls:=.type "list",data:=.seq #[] }:=P3 _ rfl;have I1:Inv X pins σ (upd H s.heap.objs.size (.lst [])) { s with heap:=s.heap.push { cls:=.type "list",data:=.seq ([]:List Value).toArray } }:=I.lnew (ys:=[]) (its:=[]) (t':=s.toks) .nil (by simp);have j1:J 0 [] (upd H s.heap.objs.size (.lst [])) (s.heap.push { cls:=.type "list",data:=.seq ([]:List Value).toArray })   := jn _ (Pl _) hf _ λb o e=>Po _ e;refine⟨⟨_,hS,rfl⟩,PySem.F.args_list_init_2 _ _,?_⟩;generalize hs1:({ s with heap:=s.heap.push { cls:=.type "list",data:=.seq ([]:List Value).toArray } }:Shared)=U at I1;have aa:U.heap.get? s.heap.objs.size=some { cls:=.type "list",data:=.seq ([]:List Value).toArray }:=by rw[<- hs1];exact hS
 replace j1:J 0 [] (upd H s.heap.objs.size (.lst [])) U.heap:=by rw[<- hs1];exact j1
 have ai:({ s with heap:=s.heap.push { cls:=.type "list",data:=.seq #[] } }:Shared)=U:=hs1
 first|rw[ai]|skip
 show wpAny _ A.in1.in1 (do let old <- Builtin.List.listItems (.ref s.heap.objs.size);Builtin.List.listUpdate (.ref s.heap.objs.size) (λ_=>#[]);letGo old.toList.reverse;V9 (.ref s.heap.objs.size) (.ref it) .none) _ _ U;generalize s.heap.objs.size=S at *
 refine Pi ?_;unfold Builtin.List.listItems;refine Pi (Rc aa rfl (Pk ?_));show wpAny _ A.in1.in1 (updateSeq S (λ_=>#[]) >>= λ_=>letGo (#[]:Array Value).toList.reverse >>= λ_=>V9 (.ref S) (.ref it) .none) _ _ U;refine Pi (Vr aa rfl ?_);have I2:=I1.lset (f:=λ_=>#[]) (its':=[]) (ys:=[]) (t':=U.toks) Ac aa rfl .nil (by simp);have ao:=R7 (Qw (λ_=>(#[]:Array Value))) aa rfl;have j2:=C.keep _ _ _ _ (U.heap.update S (Qw λ_=>#[])) S [] [] hf Ac j1 (λb o hb eb=>(Ra _ _ (Pw hb)).trans eb) ⟨_,ao⟩;rw[Jj]at I2 j2;generalize hs2:({ U with heap:=U.heap.update S (Qw λ_=>#[]),toks:=U.toks }:Shared)=Y at I2;replace j2:J 0 [] (upd H S (.lst [])) Y.heap:=by rw[<- hs2];exact j2
 have aj:({ U with heap:=U.heap.update S (Qw λ_=>#[]) }:Shared)=Y:=hs2
 first|rw[aj]|skip
 refine Pi (V7 ?_);obtain⟨oi,ei,ci⟩:=C.ty _ _ _ _ j2;have hT:Y.TypeIs (.ref it) T:=⟨oi,ei,ci⟩;unfold V9;refine Pi (Ts hT ?_);have h1:Builtin.List.listSameRef (.ref S) (.ref it)=false:=by simp[Builtin.List.listSameRef,as]
 have h2:=C.nl.1;have h3:=C.nl.2;simp only[h1,h2,h3,Bool.or_false,Uf,if_false];refine Pi (C.self _ Y _ _ _ _ j2 ?_);refine Pi (Q6 ?_);obtain⟨mr,al⟩:=C.hint;refine al _ _ _ _ hT ?_;split
 ·show wpAny _ A.in1.in1 (rule "list.extend.makes-room" >>= λ_=>Builtin.List.listTouch (.ref S) >>= λ_ =>
   again (.builtin "list.extend.loop" ⟨[.ref S,.ref it,.none],[]⟩)) _ _ _
  refine Pi (Tu ?_);refine Pi ?_;show wpAny _ A.in1.in1 (updateSeq S (·.push .none) >>= λ_=>updateSeq S (·.pop)) _ _ _;obtain⟨_,au,m2,am,_,e2⟩:=I2.lstM Ac;cases am;refine Pi (Vr e2 rfl ?_);have I3:=I2.lset (f:=(·.push Value.none)) (its':=[.none]) (ys:=[.non]) (t':=Y.toks) Ac e2 (by simp) (.cons rfl .nil) (by show 1<=sizeLine;decide);have ap:=R7 (Qw (·.push Value.none)) e2 rfl;have j3:=C.keep _ _ _ _ (Y.heap.update S (Qw (·.push Value.none))) S [] [.non] hf Ac j2 (λb o hb eb=>(Ra _ _ (Pw hb)).trans eb) ⟨_,ap⟩;rw[Jj]at I3 j3;generalize hs3:({ Y with heap:=Y.heap.update S (Qw (·.push Value.none)),toks:=Y.toks }:Shared)=s3 at I3;replace j3:J 0 [] (upd H S (.lst [.non])) s3.heap:=by rw[<- hs3];exact j3
  have ah:({ Y with heap:=Y.heap.update S (Qw (·.push Value.none)) }:Shared)=s3:=hs3
  first|rw[ah]|skip
  obtain⟨_,Z,m3,av,aq,e3⟩:=I3.lstM Ac;have O:Z.length=1:=aq.symm;refine Vr e3 rfl ?_ (by rw[Pm,O];decide) (by show Z.toArray.pop.size<=sizeLine+1;rw[Array.size_pop,Pm,O];decide);have I4:=I3.lset (f:=(·.pop)) (its':=[]) (ys:=[]) (t':=s3.toks) Ac e3 (by
   cases Z with
   |nil=>simp at O
   |cons a r=>cases r with
    |nil=>simp
    |cons b r'=>simp at O) .nil (by simp)
  have an:=R7 (Qw (·.pop)) e3 rfl;have j4:=C.keep _ _ _ _ (s3.heap.update S (Qw (·.pop))) S [.non] [] hf Ac j3 (λb o hb eb=>(Ra _ _ (Pw hb)).trans eb) ⟨_,an⟩;rw[Jj]at I4 j4;refine Pk ⟨Su Tv _,Zjo C hn (A:=A.in1) hh S hf .none ?_ n 0 _ _ [] rfl (Qn _) I4 j4 Ac rfl⟩;intro s' H' ad I' ag af ae;exact⟨rfl,.ref S,H',I',rfl,q S H' ad hf ag af ae⟩
 ·refine Pk ⟨Su Tv _,Zjo C hn (A:=A.in1) hh S hf .none ?_ n 0 _ _ [] rfl (Qn _) I2 j2 Ac rfl⟩;intro s' H' ad I' ag af ae;exact⟨rfl,.ref S,H',I',rfl,q S H' ad hf ag af ae⟩
end
section
variable {X:Cx}{pins:List (Addr×Obj)}{σ:St}{H:Hp}{s:Shared}{h':Heap}
theorem Inv.turned2 (I:Inv X pins σ H s)(k:∀b o,b≠i1->b≠i2->s.heap.get? b=some o->h'.get? b=some o)(f1:FpOk X pins H i1)(f2:FpOk X pins H i2):Inv X pins σ H { s with heap:=h',toks:=t' }:=by
 obtain⟨n1,Z,_,e1,c1,p1⟩:=f1;obtain⟨n2,Y,_,e2,c2,p2⟩:=f2;have U:∀b u,H b=some u->b≠i1/\b≠i2:=λb u e=>⟨(λz=>by rw[z,n1]at e;exact nomatch e),(λz=>by rw[z,n2]at e;exact nomatch e)⟩;refine I.step (g':=s.gens) (d':=s.drawn) (ch:=[i1,i2]) (λb hb=>?_) (λb o _ _ O e _=>k b o (λz=>O (by simp[z])) (λz=>O (by simp[z])) e) (λb o _ _ O e _=>⟨o.slots,k b o (λz=>O (by simp[z])) (λz=>O (by simp[z])) e⟩) (λ_ _ _ _ n=>n)
  (λb o O e=>⟨o,k b o (λz=>O (by simp[z])) (λz=>O (by simp[z])) e⟩) (λ_ _ e=>e) (λ_ _ _ e=>e) (λb ps e=>⟨#[],by rw[e];simp⟩) (λm hm=>?_) (λb u e=>?_) I.bare
 ·rcases Pr.mp hb with rfl|hb
  ·exact⟨e1,Z,c1,p1⟩
  ·rw[P7.mp hb];exact⟨e2,Y,c2,p2⟩
 ·obtain⟨o,es,ep,ho,r⟩:=hm;exact⟨o,es,ep,k _ o (Pw Z) (Pw Y) ho,r⟩
 ·refine(I.hok b u e).stay (λc v O q=>k c v ?_ ?_ q) (λ_ q=>q) λ_ _ q=>q
  ·rcases O with z|z
   ·rw[z];exact(U b u e).1
   ·exact(U c _ z).1
  ·rcases O with z|z
   ·rw[z];exact(U b u e).2
   ·exact(U c _ z).2
end
theorem FpOk.of (f:FpOk X pins H b)(h:H' b=none):FpOk X pins H' b:=⟨h,f.2⟩
theorem SqT.kept {K:Ph}{H:Hp}{S a:Addr}{zs zs' xs:List V}(hS:H S=some (.lst zs))(h:SqT K H a xs):SqT K (upd H S (.lst zs')) a xs:=by
 rcases h with(h|⟨o,h⟩)|h
 ·exact .inl (.inl (by rw[Af (Ew h hS (by intro z;cases z))];exact h))
 ·exact .inl (.inr ⟨o,by rw[Af (Ew h hS (by intro z;cases z))];exact h⟩)
 ·exact .inr h
theorem SqT.same {K:Ph}{H H':Hp}{a:Addr}{xs:List V}(h:SqT K H a xs)(e:Same H H'):SqT K H' a xs:=e.tup h
def Pairs (H:Hp)(xs:List V)(ys:List V):Prop:=∀(j:Nat)(y:V),ys[j]?=some y->eX2 λ(t:Addr)(x:V)=>y=V.ref t/\xs[j]?=some x/\H t=some (.tup [.int j,x])
def JEn (K:Ph)(H0:Hp)(en it a:Addr)(xs:List V):Nat->List V->Hp->Heap->Prop:=λi ys H h =>
 EnSt h en it i/\h.IsTupleIter it a i/\(H en=none/\H it=none)/\SqT K H a xs/\ys.length=i/\Pairs H xs ys/\Same H0 H
theorem Zmo:typeLookup (.type "enumerate") "__len__"=pure none:=by rw[Uk,Tx];kernel_rfl
theorem Zr2:typeLookup (.type "enumerate") "__length_hint__"=pure none:=by rw[Uk,Tx];kernel_rfl
theorem Zpa (fe:FpOk X pins H0 en)(fi:FpOk X pins H0 it)(hne:en≠it)(hae:a≠en)(hai:a≠it):Src X pins σ en "enumerate" xs.length H0 (JEn X.K H0 en it a xs) where
 ty:=λi ys H h j=>by
  obtain⟨vs,e⟩:=j.1.obj;exact⟨_,e,rfl⟩
 nl:=by decide
 hint:=⟨_,λA s Q E hT h=>Zgu hT Zmo Zr2 h⟩
 self:=λA s ys H Q E j q=>by
  rcases j.1 with⟨_,old,e⟩|⟨z,_⟩
  ·exact wpAny_pyIter_enum e q
  ·exact absurd z (Q5 _)
 keep:=λi ys H h h' S zs ai h0 hS j k al=>by
  obtain⟨j1,j2,⟨j3,j4⟩,j5,j6,j7,j8⟩:=j;have O:en≠S:=λz=>by rw[z,hS]at j3;cases j3
  have Z:it≠S:=λz=>by rw[z,hS]at j4;cases j4
  refine⟨?_,?_,⟨by rw[Af O];exact j3,by rw[Af Z];exact j4⟩,j5.kept hS,j6,λm y hy=>?_,λb o e=>?_⟩
  ·rcases j1 with⟨z,old,e⟩|⟨z,a0,oa,f1,old,e,ea,x1,x2⟩
   ·exact .inl ⟨z,old,k _ _ O e⟩
   ·by_cases hs:a0=S
    ·subst hs;obtain⟨o,eo⟩:=al;exact .inr ⟨z,a0,o,f1,old,k _ _ O e,eo,x1,x2⟩
    ·exact .inr ⟨z,a0,oa,f1,old,k _ _ O e,k _ _ hs ea,x1,x2⟩
  ·exact j2.at λo e=>k _ _ Z e
  ·obtain⟨t,x,e1,e2,e3⟩:=j7 m y hy;exact⟨t,x,e1,e2,by rw[Af (Ew e3 hS (by intro z;cases z))];exact e3⟩
  ·have:b≠S:=λz=>by rw[z,h0]at e;cases e
   rw[Af this];exact j8 b o e
 fresh:=λi ys H h j=>j.2.2.1.1
 item:=λA i s H ys E hh hi I j=>by
  obtain⟨j1,j2,⟨j3,j4⟩,j5,j6,j7,j8⟩:=j;obtain⟨U,rv,p,hz⟩:=I.tuple j5;have hl:=rv.length;have D:=Zbk (prog:=X.prog) (w:=X.w) (A:=A.in1) hh it a hai U.toArray;refine Zn3 D j1 ⟨j2,p⟩ (by rw[Pm];lia) hne (by simp[hne,Pw hae]) λx h' tk Y ag ae ht ah kk=>?_;have I1:Inv X pins σ H { s with heap:=h',toks:=tk+1 }:=I.turned2 (λb o h1 h2 e=>kk b o h1 h2 e) (fe.of j3) (fi.of j4);have af:U[i]?=some x:=by simpa using Y
  have ad:i<xs.length:=hi;obtain⟨u,hu,ru⟩:=rv.get (Pj ad);rw[af]at hu;cases hu;have hf:H s.heap.objs.size=none:=I.hok.fresh (Pl _);have I2:Inv X pins σ (upd H s.heap.objs.size (.tup [.int i,xs[i]])) { s with heap:=h',toks:=tk+1 }:=by
   have ac:HOk X.prog X.w (upd H s.heap.objs.size (.tup [.int i,xs[i]])) h':=λb o e=>by
    by_cases hb:b=s.heap.objs.size
    ·subst hb;rw[Ac]at e;cases e;exact⟨by show 2<=sizeLine;decide,[.int i tk,x],.cons ⟨tk,rfl⟩ (.cons ru .nil),⟨_,ht,rfl,_,rfl⟩⟩
    ·rw[Af hb]at e;refine(I1.hok b o e).stay (λc v _ q=>q) (λc q=>?_) λc zs q=>?_
     ·rw[Af (C9 q hf)];exact q
     ·rw[Af (C9 q hf)];exact q
   have u:Un (B4 X.stack) [en,it] H (upd H s.heap.objs.size (.tup [.int i,xs[i]])) s.heap h':={
    keep:=λb o e n _ Y=>kk b o (λz=>Y (by simp[z])) (λz=>Y (by simp[z])) e
    slot:=λb o e n _ Y=>⟨o.slots,kk b o (λz=>Y (by simp[z])) (λz=>Y (by simp[z])) e⟩
    free:=λb o e n _=>by rw[Af (P0 (Pq e))];exact n
    there:=λb o e Y=>⟨o,kk b o (λz=>Y (by simp[z])) (λz=>Y (by simp[z])) e⟩
    tups:=λb zs e=>by rw[Af (C9 e hf)];exact e
    frzs:=λb o u e=>by rw[Af (C9 e hf)];exact e
    tbls:=λb ps e=>⟨#[],by rw[Af (C9 e hf),e];simp⟩ }
   refine I.call (g':=s.gens) (d':=s.drawn) (t':=tk+1) u ac I.bare λb hb=>?_;rcases Pr.mp hb with rfl|hb
   ·exact⟨fe.2.2.2.1,fe.2.1,fe.2.2.2.2.1,fe.2.2.2.2.2⟩
   ·rw[P7.mp hb];exact⟨fi.2.2.2.1,fi.2.1,fi.2.2.2.2.1,fi.2.2.2.2.2⟩
  have sm:Same H (upd H s.heap.objs.size (.tup [.int i,xs[i]])):=Same.upd hf;have O:en≠s.heap.objs.size:=by obtain⟨_,e⟩:=j1.obj;exact P0 (Pq e)
  have Z:it≠s.heap.objs.size:=by obtain⟨_,e,_⟩:=j2;exact P0 (Pq e)
  refine⟨_,.ref s.heap.objs.size,_,rfl,rfl,I2,⟨ag,ae.1,⟨by rw[Af O];exact j3,by rw[Af Z];exact j4⟩,j5.same sm,by simp[j6],λm y hy=>?_,j8.trans sm⟩,λS zs e=>sm S _ e⟩;by_cases hm:m<i
  ·rw[Qj (by lia)]at hy;obtain⟨t,z,e1,e2,e3⟩:=j7 m y hy;exact⟨t,z,e1,e2,sm _ _ e3⟩
  ·have aa:=(Ps.mp hy).1;rw[Pn,Py]at aa;have:m=i:=by lia
   subst this;rw[Qr (by lia),j6,Q7]at hy;have hy:V.ref s.heap.objs.size=y:=by simpa using hy
   exact⟨_,xs[m],hy.symm,Pj ad,Ac⟩
 done:=λA s H ys E hh I j=>by
  obtain⟨j1,j2,⟨j3,j4⟩,j5,j6,j7,j8⟩:=j;obtain⟨U,rv,p,hz⟩:=I.tuple j5;have hl:=rv.length;have D:=Zbk (prog:=X.prog) (w:=X.w) (A:=A.in1) hh it a hai U.toArray;have e:xs.length=U.toArray.size:=by rw[Pm];lia
  rw[e]at j1 j2;refine Zo7 D j1 ⟨j2,p⟩ λh' eb=>⟨rfl,?_⟩;obtain⟨g0,g1,g2,g3,g4,g5⟩:=fi.of j4;exact I.turned (t':=s.toks) (λb o hb e=>eb b o hb e) g0 g1 g3 g4 g5
section
variable {X:Cx}
theorem Zg6:bootBuiltins "list"=some (.type "list"):=by right
def Zdb (K:Ph)(ta:TA):TE:=λσ H Q=>ta σ H λvs H1=>eX2 λa xs=>vs=[.ref a]/\SqT K H1 a xs /\
 ∀(S:Addr)(ys:List V)(H2:Hp),H1 S=none->Same H1 H2->ys.length=xs.length->Pairs H2 xs ys->H2 S=some (.lst ys)->Q (.ref S) H2
theorem Zpc (hg:Gl X "list")(hm:X.mg "list"=none)(hg2:Gl X "enumerate")(hm2:X.mg "enumerate"=none)(ha:QA X [e] ta)(hc:autoParam (X.calm=true) zX)(hs:autoParam (starEach [.Call (.Name "enumerate" p2) [e] [] pos2] X.env=[(false,eval (.Call (.Name "enumerate" p2) [e] [] pos2) X.env)]) zX)(hs2:autoParam (starEach [e] X.env=[(false,eval e X.env)]) zX) :
  QE X (.Call (.Name "list" p) [.Call (.Name "enumerate" p2) [e] [] pos2] [] pos) (Zdb X.K ta):=by
 refine⟨λpins s σ H Q I h=>?_⟩;refine Call_ (G4 I hg hm Zg6 (Sh ?_ hs rfl));rw[hs];show wpAny _ _ (spliced ((false,eval (.Call (.Name "enumerate" p2) [e] [] pos2) X.env)::[])) _ _ s;refine Wm ?_;refine Call_ (G4 I hg2 hm2 PyProof.Rows.boot_enumerate (Sh (As (ha.run pos2 pins s σ H _ I h) λus O zq=>?_) hs2 rfl));obtain⟨vs,H1,Y,r1,q1⟩:=zq;obtain⟨a,xs,e1,hq,q⟩:=q1;subst e1;cases r1 with
 |cons r rr =>
  cases rr;cases r;obtain⟨ae,rv,pt,hz⟩:=Y.tuple hq;have aa:a<O.heap.objs.size:=by obtain⟨o,e,_⟩:=id pt;exact Pq e
  refine Zr6 (show O.heap.IsTuple a ae.toArray from pt) λh' ac Z ag hk=>?_;refine Wr ?_;have I2:Inv X pins σ H1 { O with heap:=h' }:=Y.kept (t':=O.toks) hk;have fe:=Y.fpOk (b:=O.heap.objs.size+1) (V6 _) (Y.hok.fresh (V6 _));have fi:=Y.fpOk (b:=O.heap.objs.size) (Pl _) (Y.hok.fresh (Pl _));have C:=Zpa (X:=X) (pins:=pins) (σ:=σ) (H0:=H1) (en:=O.heap.objs.size+1) (it:=O.heap.objs.size) (a:=a) (xs:=xs) fe fi (Nat.succ_ne_self _) (P0 (Nat.lt_succ_of_lt aa)) (P0 aa);refine Zkg C (by lia) (Y.ok.hd hc) I2 ⟨.inl ⟨rfl,_,ac⟩,Z,⟨fe.1,fi.1⟩,hq,rfl,λj y hy=>by simp at hy,Same.refl _⟩ (λS U hS h2 k2=>?_) λS H' ys hS af ad hj=>?_
  ·have sm:Same H1 (upd H1 S (.lst [])):=Same.upd hS;refine⟨.inl ⟨rfl,_,k2 _ _ ac⟩,Z.at λo e=>k2 _ _ e,⟨?_,?_⟩,hq.same sm,rfl,λj y hy=>by simp at hy,sm⟩
   ·rw[Af (show O.heap.objs.size+1≠S from λz=>?_)]
    ·exact fe.1
    ·have U:h'.objs.size<=S:=U;lia
   ·rw[Af (show O.heap.objs.size≠S from λz=>?_)]
    ·exact fi.1
    ·have U:h'.objs.size<=S:=U;lia
  ·obtain⟨h,j⟩:=hj;exact q S ys H' hS j.2.2.2.2.2.2 ad j.2.2.2.2.2.1 af
end
end L2
namespace L2
open PySem PySem.SeqAt
open PySem.AutoSeq1 (wpAny_loadPart')
open PySem.MeetsSeq PySem.MeetsSeq2 PySem.MeetsSeq3 PySem.SeqRoads2
theorem Zwp (l b:Addr)(items items2:Array Value)(n n2:Nat)(dd dd2:Option Addr)(sl sl2:Array (Option Value))(hsz:items.size=items2.size)(e:Nat->Bool)(k:Nat) :
  ∀i:Nat,items.size-i=k->Meets (Builtin.«list.__eq__.loop» ⟨[.ref l,.ref b,rawInt i,rawInt 3],[]⟩)
   (λA R s=>s.heap.get? l=some { cls:=.type "list",dict:=dd,data:=.seq items n,slots:=sl }/\s.heap.get? b=some { cls:=.type "list",dict:=dd2,data:=.seq items2 n2,slots:=sl2 } /\
    (∀j (h1:j<items.size) (h2:j<items2.size),EqAt A.in1 s items[j] items2[j] (e j)) /\
    R (.ok (.ret (.bool (!((P6 items.size).drop i).all e)))) s):=by
 induction k with
 |zero =>
  intro i hk prog w A R s h;obtain⟨hp,g,d,tk,os⟩:=s;obtain⟨hl,hb,he,h⟩:=h
  wp_walk using wpAny_loadPart' hl,wpAny_loadPart' hb
  have I:items[((i:Nat):Int).toNat]?=none:=by simp;lia
  have O:items2[((i:Nat):Int).toNat]?=none:=by simp;lia
  have hd:(P6 items.size).drop i=[]:=by simp;lia
  rw[hd]at h;rw[I,O]
  wp_walk using wpAny_loadPart' hl,wpAny_loadPart' hb
  show R (.ok (.ret (.bool (items.size != items2.size)))) _;rw[hsz];simpa using h
 |succ k ih =>
  intro i hk prog w A R s h;obtain⟨hp,g,d,tk,os⟩:=s;obtain⟨hl,hb,he,h⟩:=h
  wp_walk using wpAny_loadPart' hl,wpAny_loadPart' hb
  have Y:i<items.size:=by lia
  have U:i<items2.size:=by lia
  have I:items[((i:Nat):Int).toNat]?=some items[i]:=by simp[Y]
  have O:items2[((i:Nat):Int).toNat]?=some items2[i]:=by simp[U]
  have hd:(P6 items.size).drop i=i::(P6 items.size).drop (i+1):=by simp[Sj,Y]
  have hc:((i:Int)+1)=((i+1:Nat):Int):=by push_cast;rfl
  rw[hd,Rn]at h;rw[I,O];refine Pi (he i Y U prog w _ _ ?_);cases Z:e i with
  |true =>
   rw[Z]at h
   wp_walk
   rw[hc];exact⟨Su plain_eq_loop _,Tg entry_eq_loop (by
    rw[Tb plain_eq_loop _];exact ih (i+1) (by lia) prog w A R _ ⟨hl,hb,he,by simpa using h⟩)⟩
  |false =>
   rw[Z]at h
   wp_walk using wpAny_loadPart' hl,wpAny_loadPart' hb
   rw[I,O]
   wp_walk
   simpa using h
theorem Zot (l b:Addr)(items items2:Array Value)(n n2:Nat)(dd dd2:Option Addr)(sl sl2:Array (Option Value))(hsz:items.size=items2.size)(e:Nat->Bool) :
  Meets (Builtin.«list.__ne__» ⟨[.ref l,.ref b],[]⟩)
   (λA R s=>s.heap.get? l=some { cls:=.type "list",dict:=dd,data:=.seq items n,slots:=sl }/\s.heap.get? b=some { cls:=.type "list",dict:=dd2,data:=.seq items2 n2,slots:=sl2 } /\
    (∀j (h1:j<items.size) (h2:j<items2.size),EqAt A.in1 s items[j] items2[j] (e j)) /\
    R (.ok (.ret (.bool (!(P6 items.size).all e)))) s):=by
 intro prog w A R s h;obtain⟨hp,g,d,tk,os⟩:=s;obtain⟨hl,hb,I,h⟩:=h;have U:=PySem.AutoSeq1.sub_list_list;have O:¬(items.size != items2.size)=true:=by simp[hsz]
 wp_walk using wpAny_loadPart' hl,wpAny_loadPart' hb
 exact⟨Su plain_eq_loop _,Tg entry_eq_loop (by
  rw[Tb plain_eq_loop _];exact Zwp l b items items2 n n2 dd dd2 sl sl2 hsz e _ 0 rfl prog w A R _ ⟨hl,hb,I,by simpa using h⟩)⟩
theorem Zs5 (l b:Addr)(items items2:Array Value)(n n2:Nat)(dd dd2:Option Addr)(sl sl2:Array (Option Value))(e:Nat->Bool) :
  Meets (Builtin.«tuple.__ne__» ⟨[.ref l,.ref b],[]⟩)
   (λA R s=>s.heap.get? l=some { cls:=.type "tuple",dict:=dd,data:=.seq items n,slots:=sl }/\s.heap.get? b=some { cls:=.type "tuple",dict:=dd2,data:=.seq items2 n2,slots:=sl2 } /\
    (∀j (h1:j<items.size) (h2:j<items2.size),EqAt A.in1 s items[j] items2[j] (e j)) /\
    R (.ok (.ret (.bool (!((P6 (min items.size items2.size)).all e && items.size == items2.size))))) s) :=
 .of_wp λprog w A R s h=>by
  obtain⟨hp,g,d,tk,os⟩:=s;obtain⟨hl,hb,he,h⟩:=h;have f2:=PySem.AutoSeq1.sub_tuple_tuple;have hZ:(items.toList.zip items2.toList).length=min items.size items2.size:=by simp
  wp_walk using wpAny_loadPart' hl,wpAny_loadPart' hb,wpAny_forIn_list _ (λrest b s'=>b.1=none/\s'=⟨hp,g,d,tk,os⟩/\∃i,rest=(items.toList.zip items2.toList).drop i /\
   R (.ok (.ret (.bool (!(((P6 (min items.size items2.size)).drop i).all e && items.size == items2.size))))) ⟨hp,g,d,tk,os⟩) _
  case turn =>
   rintro⟨y,x⟩ rest b s' ⟨I,rfl,i,O,hR⟩;have U:i<(items.toList.zip items2.toList).length:=by
    rcases Nat.lt_or_ge i (items.toList.zip items2.toList).length with h'|h'
    ·exact h'
    ·rw[Sk h']at O;cases O
   have Z:i<min items.size items2.size:=hZ ▸ U;have h1:i<items.size:=P9 Z (Nat.min_le_left _ _);have h2:i<items2.size:=P9 Z (Nat.min_le_right _ _);rw[Sj U]at O;injection O with hyx hrest;have Y:y=items[i]:=by have:=congrArg Prod.fst hyx;simpa using this
   have hx:x=items2[i]:=by have:=congrArg Prod.snd hyx;simpa using this
   subst Y hx;have hd:(P6 (min items.size items2.size)).drop i=i::(P6 (min items.size items2.size)).drop (i+1):=by simp[Sj,Z]
   rw[hd,Rn]at hR;refine Pi (he i h1 h2 prog w _ _ ?_);cases Y:e i with
   |true =>
    rw[Y]at hR
    wp_walk
    exact⟨rfl,rfl,i+1,hrest,by simpa using hR⟩
   |false =>
    rw[Y]at hR
    wp_walk
    exact⟨_,rfl,by simpa using hR⟩
  case fin =>
   rintro⟨b1,b2⟩ s' ⟨I,rfl,i,O,hR⟩;simp only at I;subst I;have aa:min items.size items2.size<=i:=by
    rcases Nat.lt_or_ge i (items.toList.zip items2.toList).length with h'|h'
    ·rw[Sj h']at O;cases O
    ·exact hZ ▸ h'
   rw[Sk (by simpa using aa)]at hR
   wp_walk
   exact⟨_,rfl,by simpa [Builtin.Tuple.tupleCompareSizes,bne] using hR⟩
  case h =>
   exact⟨rfl,rfl,0,rfl,by simpa using h⟩
section
variable {prog:Program}{w:World}{A:Around}{E:Value->Shared->Prop}{s:Shared}
theorem Ztq (hl:s.heap.IsList l items)(hb:s.heap.IsList b items2)(hsz:items.size=items2.size)(hu:A.units<cLine)(he:∀j (h1:j<items.size) (h2:j<items2.size),EqAt A.in1 s items[j] items2[j] (e j))(h:Q (.bool (!(P6 items.size).all e)) s):wpAny (model prog w) A (compareOp .NotEq (.ref l) (.ref b)) Q E s:=by
 obtain⟨⟨ae,dd,ad,sl⟩,ho,hc,n,hd⟩:=id hl;obtain⟨⟨ac,Y,aa,Z⟩,U,O,n2,I⟩:=id hb;simp only at hc hd O I;subst hc hd O I;exact richCompare_meets_room (op:=.NotEq) ⟨_,ho,rfl⟩ ⟨_,U,rfl⟩ F.slot_list_ne F.entry_list_ne (F.args_list_ne_2 _ _) (Zot l b items items2 n n2 dd Y sl Z hsz e)
  ⟨ho,U,he,show Value.bool (!(P6 items.size).all e)≠Value.notImplemented/\Q (.bool (!(P6 items.size).all e)) s from⟨(λx=>nomatch x),h⟩⟩ hu
theorem Zl4 (hl:s.heap.IsTuple l items)(hb:s.heap.IsTuple b items2)(hu:A.units<cLine)(he:∀j (h1:j<items.size) (h2:j<items2.size),EqAt A.in1 s items[j] items2[j] (e j))(h:Q (.bool (!((P6 (min items.size items2.size)).all e && items.size == items2.size))) s):wpAny (model prog w) A (compareOp .NotEq (.ref l) (.ref b)) Q E s:=by
 obtain⟨⟨ae,dd,ad,sl⟩,ho,hc,n,hd⟩:=id hl;obtain⟨⟨ac,Y,aa,Z⟩,U,O,n2,I⟩:=id hb;simp only at hc hd O I;subst hc hd O I;exact richCompare_meets_room (op:=.NotEq) ⟨_,ho,rfl⟩ ⟨_,U,rfl⟩ F.slot_tuple_ne F.entry_tuple_ne (F.args_tuple_ne_2 _ _) (Zs5 l b items items2 n n2 dd Y sl Z e)
  ⟨ho,U,he,show Value.bool (!((P6 (min items.size items2.size)).all e && items.size == items2.size))≠Value.notImplemented/\Q (.bool (!((P6 (min items.size items2.size)).all e && items.size == items2.size))) s from⟨(λx=>nomatch x),h⟩⟩ hu
end
end L2
namespace L2
open PySem PySem.Spec PyProof.Rows
inductive Dt where
 |flat (v:V)
 |tup (ds:List Dt)
 |lst (ds:List Dt)
inductive IsD (K:Ph)(H:Hp):Nat->V->Dt->Prop where
 |flat {n:Nat} {v:V} (h:C8 v=true):IsD K H n v (.flat v)
 |tup {n:Nat} {a:Addr} {vs:List V} {ds:List Dt} (q:SqT K H a vs) (l:vs.length=ds.length) (h:∀(j:Nat)(v:V)(d:Dt),vs[j]?=some v->ds[j]?=some d->IsD K H n v d):IsD K H (n+1) (.ref a) (.tup ds)
 |lst {n:Nat} {a:Addr} {vs:List V} {ds:List Dt} (q:SqL K H a vs) (l:vs.length=ds.length) (h:∀(j:Nat)(v:V)(d:Dt),vs[j]?=some v->ds[j]?=some d->IsD K H n v d):IsD K H (n+1) (.ref a) (.lst ds)
theorem IsD.same {K:Ph}{H H':Hp}{n:Nat}{v:V}{d:Dt}(h:IsD K H n v d)(e:Same H H'):IsD K H' n v d:=by
 induction h with
 |flat h=>exact .flat h
 |tup q l _ I=>exact .tup (e.tup q) l I
 |lst q l _ I=>exact .lst (e.seq q) l I
theorem IsD.up {K:Ph}{H:Hp}{n m:Nat}{v:V}{d:Dt}(h:IsD K H n v d)(hm:n<=m):IsD K H m v d:=by
 induction h generalizing m with
 |flat h=>exact .flat h
 |tup q l _ U =>
  obtain⟨k,rfl⟩:∃k,m=k+1:=⟨m-1,by lia⟩;exact .tup q l λj v d I O=>U j v d I O (by lia)
 |lst q l _ U =>
  obtain⟨k,rfl⟩:∃k,m=k+1:=⟨m-1,by lia⟩;exact .lst q l λj v d I O=>U j v d I O (by lia)
theorem Zi3 (h:C8 v=true):Fn v v=true:=by
 cases v with
 |non=>rfl
 |bl b=>simp[Fn]
 |int i=>simp[Fn]
 |str x=>simp[Fn]
 |byt _=>cases h
 |flt _=>cases h
 |ref _=>cases h
 |ty _=>cases h
section
variable {X:Cx}{pins:List (Addr×Obj)}{σ:St}{H:Hp}{s:Shared}
theorem Zu8 (I:Inv X pins σ H s):∀{n:Nat}{x y:V}{d:Dt},IsD X.K H n x d->IsD X.K H n y d->∀{A:Around}{u v:Value},RelV x u->RelV y v->A.units+n<cLine->P5 A s u v true:=by
 intro n
 induction n with
 |zero =>
  intro x y d hx hy A u v rx ry hu;cases hx with
  |flat fx =>
   cases hy with
   |flat fy =>
    have:=Zcl (A:=A) (s:=s) rx ry fx fy;rw[Zi3 fx]at this;exact this
 |succ n ih =>
  intro x y d hx hy A u v rx ry hu;cases hx with
  |flat fx =>
   cases hy with
   |flat fy =>
    have:=Zcl (A:=A) (s:=s) rx ry fx fy;rw[Zi3 fx]at this;exact this
  | @tup _ a vs ds q l h =>
   cases hy with
   | @tup _ b ws _ q' l' h' =>
    cases rx;cases ry;by_cases Z:a=b
    ·subst Z;exact W0 _
    obtain⟨U,r1,p1,_⟩:=I.tuple q;obtain⟨O,r2,p2,_⟩:=I.tuple q';have l1:=r1.length;have l2:=r2.length;have:=SeqAt.RcAt.tuples (A:=A) (e:=λ_=>true) (show s.heap.IsTuple a U.toArray from p1) (show s.heap.IsTuple b O.toArray from p2) (by lia) λj h1 h2=>by
     have aa:j<vs.length:=by simp only[Pm]at h1;lia
     have Y:j<ws.length:=by simp only[Pm]at h2;lia
     obtain⟨u1,g1,k1⟩:=r1.get (Pj aa);obtain⟨u2,g2,k2⟩:=r2.get (Pj Y);have e1:U.toArray[j]=u1:=by
      have:U[j]?=some U[j]:=by simp
      rw[this]at g1;simpa using g1
     have e2:O.toArray[j]=u2:=by
      have:O[j]?=some O[j]:=by simp
      rw[this]at g2;simpa using g2
     rw[e1,e2];have hd:j<ds.length:=by lia
     exact ih (h j _ _ (Pj aa) (Pj hd)) (h' j _ _ (Pj Y) (Pj hd)) k1 k2 (by show A.units+1+n<cLine;lia)
    have e:((P6 (min U.toArray.size O.toArray.size)).all (λ_=>true) && U.toArray.size == O.toArray.size)=true:=by
     have:U.toArray.size=O.toArray.size:=by simp only[Pm];lia
     rw[this];simp
    rw[e]at this;exact P5.of_refs Z this
  | @lst _ a vs ds q l h =>
   cases hy with
   | @lst _ b ws _ q' l' h' =>
    cases rx;cases ry;by_cases Z:a=b
    ·subst Z;exact W0 _
    obtain⟨U,r1,p1,_⟩:=I.list q;obtain⟨O,r2,p2,_⟩:=I.list q';have l1:=r1.length;have l2:=r2.length;have:=SeqAt.RcAt.lists (A:=A) (e:=λ_=>true) p1.isList p2.isList (by simp only[Pm];lia) (by lia) λj h1 h2=>by
     have aa:j<vs.length:=by simp only[Pm]at h1;lia
     have Y:j<ws.length:=by simp only[Pm]at h2;lia
     obtain⟨u1,g1,k1⟩:=r1.get (Pj aa);obtain⟨u2,g2,k2⟩:=r2.get (Pj Y);have e1:U.toArray[j]=u1:=by
      have:U[j]?=some U[j]:=by simp
      rw[this]at g1;simpa using g1
     have e2:O.toArray[j]=u2:=by
      have:O[j]?=some O[j]:=by simp
      rw[this]at g2;simpa using g2
     rw[e1,e2];have hd:j<ds.length:=by lia
     exact ih (h j _ _ (Pj aa) (Pj hd)) (h' j _ _ (Pj Y) (Pj hd)) k1 k2 (by show A.units+1+n<cLine;lia)
    have e:(P6 U.toArray.size).all (λ_=>true)=true:=by simp
    rw[e]at this;exact P5.of_refs Z this
theorem Zas (I:Inv X pins σ H s){n:Nat}{A:Around}{vs ws:List V}{its its2:List Value}{ds:List Dt}(r1:Vals vs its)(r2:Vals ws its2)(l:vs.length=ds.length)(l':ws.length=ds.length)
  (h:∀(j:Nat)(v:V)(d:Dt),vs[j]?=some v->ds[j]?=some d->IsD X.K H n v d) (h':∀(j:Nat)(v:V)(d:Dt),ws[j]?=some v->ds[j]?=some d->IsD X.K H n v d) (hu:A.units+n<cLine) :
  ∀j (h1:j<its.toArray.size) (h2:j<its2.toArray.size),P5 A s its.toArray[j] its2.toArray[j] ((λ_=>true) j):=λj h1 h2=>by
 have l1:=r1.length;have l2:=r2.length;have O:j<vs.length:=by simp only[Pm]at h1;lia
 have U:j<ws.length:=by simp only[Pm]at h2;lia
 obtain⟨u1,g1,k1⟩:=r1.get (Pj O);obtain⟨Z,g2,k2⟩:=r2.get (Pj U);have Y:its.toArray[j]=u1:=by
  have:its[j]?=some its[j]:=by simp
  rw[this]at g1;simpa using g1
 have e2:its2.toArray[j]=Z:=by
  have:its2[j]?=some its2[j]:=by simp
  rw[this]at g2;simpa using g2
 rw[Y,e2];have hd:j<ds.length:=by lia
 exact Zu8 I (h j _ _ (Pj O) (Pj hd)) (h' j _ _ (Pj U) (Pj hd)) k1 k2 hu
end
section
variable {X:Cx}
def Zbd (K:Ph)(b:Bool):R2:=λx y H Q=>eX4 λ(a c:Addr)(n:Nat)(d:Dt)=>x=.ref a/\y=.ref c/\n<=190/\IsD K H n x d/\IsD K H n y d/\Q (.bl b) H
theorem Zps (hu:X.A.units+200<cLine):OpR X (compareOp .Eq) (Zbd X.K true):=by
 intro pins s σ H x y v u Q I rx ry h;obtain⟨a,c,n,d,rfl,rfl,hn,hx,hy,q⟩:=h;cases rx;cases ry;cases hx with
 |flat fx=>cases fx
 | @tup n _ vs ds qx l hd =>
  cases hy with
  | @tup _ _ ws _ qy l' Y =>
   obtain⟨U,Z,p1,_⟩:=I.tuple qx;obtain⟨O,r2,p2,_⟩:=I.tuple qy;have l1:=Z.length;have l2:=r2.length;refine SeqAt.eq_tupleAt (e:=λ_=>true) (show s.heap.IsTuple a U.toArray from p1) (show s.heap.IsTuple c O.toArray from p2) (by lia) (Zas I Z r2 l l' hd Y (by show X.A.units+1+n<cLine;lia)) ?_;have e:((P6 (min U.toArray.size O.toArray.size)).all (λ_=>true) && U.toArray.size == O.toArray.size)=true:=by
    have:U.toArray.size=O.toArray.size:=by simp only[Pm];lia
    rw[this];simp
   rw[e];exact⟨.bl true,H,I,rfl,q⟩
 | @lst n _ vs ds qx l hd =>
  cases hy with
  | @lst _ _ ws _ qy l' Y =>
   obtain⟨U,Z,p1,_⟩:=I.list qx;obtain⟨O,r2,p2,_⟩:=I.list qy;have l1:=Z.length;have l2:=r2.length;refine SeqAt.eq_listAt (e:=λ_=>true) p1.isList p2.isList (by simp only[Pm];lia) (by lia) (Zas I Z r2 l l' hd Y (by show X.A.units+1+n<cLine;lia)) ?_;have e:(P6 U.toArray.size).all (λ_=>true)=true:=by simp
   rw[e];exact⟨.bl true,H,I,rfl,q⟩
theorem Zsn (hu:X.A.units+200<cLine):OpR X (compareOp .NotEq) (Zbd X.K false):=by
 intro pins s σ H x y v u Q I rx ry h;obtain⟨a,c,n,d,rfl,rfl,hn,hx,hy,q⟩:=h;cases rx;cases ry;cases hx with
 |flat fx=>cases fx
 | @tup n _ vs ds qx l hd =>
  cases hy with
  | @tup _ _ ws _ qy l' Y =>
   obtain⟨U,Z,p1,_⟩:=I.tuple qx;obtain⟨O,r2,p2,_⟩:=I.tuple qy;have l1:=Z.length;have l2:=r2.length;refine Zl4 (e:=λ_=>true) (show s.heap.IsTuple a U.toArray from p1) (show s.heap.IsTuple c O.toArray from p2) (by lia) (Zas I Z r2 l l' hd Y (by show X.A.units+1+n<cLine;lia)) ?_;have e:(!((P6 (min U.toArray.size O.toArray.size)).all (λ_=>true) && U.toArray.size == O.toArray.size))=false:=by
    have:U.toArray.size=O.toArray.size:=by simp only[Pm];lia
    rw[this];simp
   rw[e];exact⟨.bl false,H,I,rfl,q⟩
 | @lst n _ vs ds qx l hd =>
  cases hy with
  | @lst _ _ ws _ qy l' Y =>
   obtain⟨U,Z,p1,_⟩:=I.list qx;obtain⟨O,r2,p2,_⟩:=I.list qy;have l1:=Z.length;have l2:=r2.length;refine Ztq (e:=λ_=>true) p1.isList p2.isList (by simp only[Pm];lia) (by lia) (Zas I Z r2 l l' hd Y (by show X.A.units+1+n<cLine;lia)) ?_;have e:(!(P6 U.toArray.size).all (λ_=>true))=false:=by simp
   rw[e];exact⟨.bl false,H,I,rfl,q⟩
def K4 (K:Ph):R2:=λx y H Q=>rEq x y H Q\/Zbd K true x y H Q
def Zbu (K:Ph):R2:=λx y H Q=>rNe x y H Q\/Zbd K false x y H Q
theorem Zjl (hu:X.A.units+200<cLine):OpR X (compareOp .Eq) (K4 X.K):=op_eq.or (Zps hu)
theorem Zmw (hu:X.A.units+200<cLine):OpR X (compareOp .NotEq) (Zbu X.K):=op_ne.or (Zsn hu)
theorem s_eq {K:Ph}{x y:V}{H:Hp}{Q:VK}(hs:Zbc x y=true)(h:Q (.bl (decide (x=y))) H):K4 K x y H Q:=.inl ⟨hs,h⟩
theorem s_ne {K:Ph}{x y:V}{H:Hp}{Q:VK}(hs:Zbc x y=true)(h:Q (.bl (!decide (x=y))) H):Zbu K x y H Q:=.inl ⟨hs,h⟩
theorem Room.u200 (r:Room k A):A.units+200<cLine:=by have:=r.un;lia
end
section
variable {t u:TS}{c d:TT}{te ta tb tc:TE}{g:TG}{gs:Ff}{ts:TA}{D:Ends}{σ:St}{H:Hp}{Q:VK}{QB:Bool->Hp->Prop}{QA':List V->Hp->Prop}
theorem s_seq (h:t { D with nx:=u D } σ H):Zcr t u D σ H:=h
theorem s_asg (h:te σ H λx H1=>g x σ H1 D.nx):Ik te g D σ H:=h
theorem s_ret (h:te σ H D.rt):N0 te D σ H:=h
theorem s_drop (h:te σ H λ_ H1=>D.nx σ H1):Zdf te D σ H:=h
theorem s_next (h:D.nx σ H):Zb5 D σ H:=h
theorem s_ifS (h:c σ H λb H1=>if b=true then t D σ H1 else u D σ H1):Cf c t u D σ H:=h
theorem s_var (e:σ[i]?=some (some v))(h:Q v H):Dm i σ H Q:=⟨v,e,h⟩
theorem s_c (h:Q v H):tC v σ H Q:=h
theorem s_op (h:ta σ H λx H1=>tb σ H1 λy H2=>r x y H2 Q):Ev r ta tb σ H Q:=h
theorem s_un (h:ta σ H λx H1=>r x H1 Q):tUn r ta σ H Q:=h
theorem s_test (h:te σ H λx H'=>∃k,x=.bl k/\QB k H'):My te σ H QB:=h
theorem s_tB (h:te σ H λx H'=>∃k,x=.bl k/\QB k H'):tB te σ H QB:=h
theorem s_ex {b:Bool}{P:Bool->Prop}(h:P b):∃k,V.bl b=V.bl k/\P k:=⟨b,rfl,h⟩
theorem s_exi {i:Int}{P:Int->Prop}(h:P i):∃k,V.int i=V.int k/\P k:=⟨i,rfl,h⟩
theorem s_not (h:c σ H λb H1=>QB (!b) H1):Zej c σ H QB:=h
theorem s_and (h:c σ H λb H1=>if b=true then d σ H1 QB else QB false H1):Zdj c d σ H QB:=h
theorem s_or (h:c σ H λb H1=>if b=true then QB true H1 else d σ H1 QB):tOr c d σ H QB:=h
theorem s_andV (h:ta σ H λx H1=>∃k,x=.bl k/\if k=true then tb σ H1 Q else Q (.bl false) H1):Zeu ta tb σ H Q:=h
theorem s_orV (h:ta σ H λx H1=>∃k,x=.bl k/\if k=true then Q (.bl true) H1 else tb σ H1 Q):Zd1 ta tb σ H Q:=h
theorem s_notV (h:ta σ H λx H1=>∃k,x=.bl k/\Q (.bl (!k)) H1):Zcp ta σ H Q:=h
theorem s_nil (h:QA' [] H):Fo σ H QA':=h
theorem s_cons (h:te σ H λx H1=>ts σ H1 λxs H2=>QA' (x::xs) H2):Dr te ts σ H QA':=h
theorem s_vals (h:QA' xs H):Zd3 xs σ H QA':=h
theorem s_tup (h:ts σ H λxs H1=>xs.length<=sizeLine/\∀p,H1 p=none->Q (.ref p) (upd H1 p (.tup xs))):Zdn ts σ H Q:=h
theorem s_lst (h:ts σ H λxs H1=>xs.length<=sizeLine/\∀p,H1 p=none->Q (.ref p) (upd H1 p (.lst xs))):Zch ts σ H Q:=h
theorem s_call (h:ts σ H λvs H1=>sp (vs++dvs) H1 Q E):Ll sp dvs E ts σ H Q:=h
theorem s_cb (h:ts σ H λvs H1=>r vs H1 Q):Ig r ts σ H Q:=h
theorem s_bm {K:Ph}{T:String}{r:V->List V->Hp->VK->Prop}(h:te σ H λx H1=>Kh K T x H1/\ts σ H1 λxs H2=>r x xs H2 Q):tBM K T r te ts σ H Q:=h
theorem s_bm0 {K:Ph}{T:String}{r:V->List V->Hp->VK->Prop}(h:te σ H λx H1=>Kh K T x H1/\r x [] H1 Q):Oe K T r te σ H Q:=h
theorem s_sl (h:te σ H λx H1=>tl σ H1 λl H2=>th σ H2 λu H3=>r x l u H3 Q):tSl r te tl th σ H Q:=h
theorem s_po (h:te σ H λx H1=>∃i,x=.int i/\QO' (some i) H1):Zd8 te σ H QO':=h
theorem s_po0 (h:QO' none H):Zbl σ H QO':=h
theorem s_gname (h:QS' (σ.set i (some v)) H):Ep i v σ H QS':=h
theorem Du {K:Ph}{n:Nat}{a:Addr}{xs:List V}{QS':St->Hp->Prop}(q:SqT K H a xs)(l:xs.length=n)(h:gs xs σ H QS'):Kx K n gs (.ref a) σ H QS':=⟨a,xs,rfl,q,l,h⟩
theorem s_gcons (h:g v σ H λσ' H'=>gs r σ' H' QS'):Iy g gs (v::r) σ H QS':=⟨v,r,rfl,h⟩
theorem s_gnil (h:QS' σ H):Lj [] σ H QS':=⟨rfl,h⟩
theorem s_gsub (h:to σ H λo H1=>ti σ H1 λi H2=>tt o i v H2 λH3=>QS' σ H3):Zc5 to ti tt v σ H QS':=h
theorem s_isN (h:ta σ H λx H1=>Q (.bl (decide (x=.non))) H1):Zeb ta σ H Q:=h
end
section
variable {wi:TI}{σ0:St->St}{g:TG}{tt:TT}{te:TE}{ta:TA}{tb:TS}{D:Ends}{σ:St}{H:Hp}{Q:VK}{R:It->Hp->Prop}{K:Ph}
theorem s_comp (h:wi σ H λJ H1=>∀L,H1 L=none->Za5 J g tt te (σ0 σ) H1 L Q):Mr wi σ0 g tt te σ H Q:=h
theorem s_for (h:wi σ H λJ H1=>∃W:Nat->Nat->St->Hp->Prop,(∃m,W 0 m σ H1)/\∀i m σ H,W i m σ H ->
 (J.stop i H/\D.nx σ H)\/(J.go i H/\∃N:St->Hp->Prop,(∀σ' H',N σ' H'->∃m',m'<m/\W (i+1) m' σ' H')/\∀x H',J.yld i H x H'->g x σ H' λσ2 H2=>tb { D with nx:=N,ct:=N,bk:=D.nx } σ2 H2)):Zcn wi g tb D σ H:=h
theorem s_rng1 (h:ta σ H λvs H1=>∃j:Int,vs=[.int j]/\-(2 ^ 62)<=j/\j<2 ^ 62/\R (Jh 0 j.toNat) H1):Zer ta σ H R:=h
theorem s_exr {i:Int}{P:Int->Prop}(h:P i):∃j,([V.int i]:List V)=[.int j]/\P j:=⟨i,rfl,h⟩
theorem s_iany (h:te σ H λx H1=>(∃a,x=.ref a/\(∃xs,SqL K H1 a xs)/\R (Ju K a) H1)\/(∃a,x=.ref a/\(∃xs,SqT K H1 a xs)/\R (Jy K a) H1)\/∃z,x=.str z/\R (Its z) H1):Zdc K te σ H R:=h
theorem s_irev (h:ta σ H λvs H1=>eX2 λa xs=>vs=[.ref a]/\SqL K H1 a xs/\R (Ke K a xs.length) H1):Zc9 K ta σ H R:=h
theorem s_listen (h:ta σ H λvs H1=>eX2 λa xs=>vs=[.ref a]/\SqT K H1 a xs/\∀(S:Addr)(ys:List V)(H2:Hp),H1 S=none->Same H1 H2->ys.length=xs.length->Pairs H2 xs ys->H2 S=some (.lst ys)->Q (.ref S) H2):Zdb K ta σ H Q:=h
theorem s_yes (h:QB true H):Zcs σ H QB:=h
theorem s_turn (h:g x σ H λσ2 H3=>tt σ2 H3 λb H4=>if b=true then te σ2 H4 λy H5=>∃ys,H5 L=some (.lst ys)/\ys.length<sizeLine/\(∃zs,upd H5 L (.lst (ys++[y])) L=some (.lst zs)/\Nx zs σ2 (upd H5 L (.lst (ys++[y])))) else ∃zs,H4 L=some (.lst zs)/\Nx zs σ2 H4):Zdo g tt te L Nx x σ H:=h
theorem Cw (e:H l=some (.lst xs))(z:xs.length<sizeLine)(h:Q .non (upd H l (.lst (xs++[y])))):Zik (.ref l) [y] H Q:=⟨l,xs,y,rfl,rfl,e,z,h⟩
theorem K8 (e:H l=some (.lst (xs++[y])))(h:Q y (upd H l (.lst xs))):rPop (.ref l) [] H Q:=⟨l,xs++[y],y,rfl,rfl,e,by simp,by simpa using h⟩
theorem Zvg (e:H p=some (.lst xs))(hj:F8 xs.length k=some j)(h:QH (upd H p (.lst (xs.set j v)))):Zij (.ref p) (.int k) v H QH:=⟨p,xs,k,j,rfl,rfl,e,hj,h⟩
end
section
variable {X:Cx}(K:Ph)
theorem B5 (hK:autoParam (X.K=K) zX):OpR X (binaryOp .Add) (Ji K):=by subst hK;exact op_addA
theorem Zcc (hu:X.A.units+200<cLine)(hK:autoParam (X.K=K) zX):OpR X (compareOp .Eq) (K4 K):=by subst hK;exact Zjl hu
theorem Fq (hu:X.A.units+200<cLine)(hK:autoParam (X.K=K) zX):OpR X (compareOp .NotEq) (Zbu K):=by subst hK;exact Zmw hu
theorem Hj (hK:autoParam (X.K=K) zX):OpR X (compareOp .In) (Mz K false):=by subst hK;exact Zqz
theorem Zkx (hK:autoParam (X.K=K) zX):OpR X (compareOp .NotIn) (Mz K true):=by subst hK;exact Zrv
theorem k_ix (hK:autoParam (X.K=K) zX):IxR X (Kp K):=by subst hK;exact Zu9
theorem E3 (hK:autoParam (X.K=K) zX):SlR X (Zbj K):=by subst hK;exact Zof
theorem Zuz (hK:autoParam (X.K=K) zX):Cz X (.builtin "len") (Ls K):=by subst hK;exact Zld
inductive TyQ (K:Ph)(H:Hp):V->Value->Prop where
 |ty {x:V} {t:Value} (h:E2 K H x t):TyQ K H x t
 |tup {a:Addr} {xs:List V} (q:SqT K H a xs):TyQ K H (.ref a) (.type "tuple")
 |lst {a:Addr} {xs:List V} (q:SqL K H a xs):TyQ K H (.ref a) (.type "list")
def Mp (K:Ph)(T:String):List V->Hp->VK->Prop:=λxs H Q=>eX3 λx t b=>xs=[x,.ty T]/\TyQ K H x t/\Rm K t (.type T)=some b/\Q (.bl b) H
theorem Zv0:Cz X (.builtin "isinstance") (Mp X.K T):=by
 intro pins s σ H xs us Q I r h;obtain⟨x,t,b,rfl,ty,e,q⟩:=h;obtain⟨u,v,rfl,U,Z⟩:=r.two;obtain rfl:v=Value.type T:=Z;cases ty with
 |ty ty=>exact Zn7 I U ty e λtk=>⟨.bl b,H,I.tok tk,rfl,q⟩
 |tup Y =>
  cases U;obtain⟨O,_,p,_⟩:=I.tuple Y;obtain⟨o,h1,h2,_⟩:=p;exact Qz PySem.W.kitx_tuple I.kIn ⟨o,h1,h2⟩ e (λz=>nomatch z) λtk=>⟨.bl b,H,I.tok tk,rfl,q⟩
 |lst Y =>
  cases U;obtain⟨O,_,p,_⟩:=I.list Y;obtain⟨o,n,h1,h2,_⟩:=p;exact Qz Wq I.kIn ⟨o,h1,h2⟩ e (λz=>nomatch z) λtk=>⟨.bl b,H,I.tok tk,rfl,q⟩
theorem B9 (T:String)(hK:autoParam (X.K=K) zX):Cz X (.builtin "isinstance") (Mp K T):=by subst hK;exact Zv0
def rAll (K:Ph):List V->Hp->VK->Prop:=λxs H Q=>eX2 λ(p:Addr)(bs:List Bool)=>xs=[.ref p]/\SqL K H p (bs.map V.bl)/\Q (.bl (bs.all id)) H
theorem Zri (hc:X.calm=true)(hK:autoParam (X.K=K) zX):Cz X (.builtin "all") (rAll K):=by subst hK;exact Zwn hc
def Zu4 (K:Ph):List V->Hp->VK->Prop:=λxs H Q=>eX2 λp ys=>xs=[.ref p]/\(SqL K H p ys\/SqT K H p ys)/\∀l,H l=none->Q (.ref l) (upd H l (.lst ys))
theorem K1 (hK:autoParam (X.K=K) zX):Cz X (.type "list") (Zu4 K):=by subst hK;exact Zqq
def Zgq (K:Ph):List V->Hp->VK->Prop:=λxs H Q=>eX2 λp ys=>xs=[.ref p]/\((SqL K H p ys/\∀l,H l=none->Q (.ref l) (upd H l (.tup ys)))\/(SqT K H p ys/\Q (.ref p) H))
theorem Zf1 (hK:autoParam (X.K=K) zX):Cz X (.type "tuple") (Zgq K):=by subst hK;exact Zwr
def rInt:List V->Hp->VK->Prop:=λxs H Q=>(∃i,xs=[.int i]/\Q (.int i) H)\/∃k,xs=[.bl k]/\Q (.int (if k then 1 else 0)) H
theorem L8:Cz X (.type "int") rInt:=Zub
theorem s_intb (h:Q (.int (if k=true then 1 else 0)) H):rInt [.bl k] H Q:=.inr ⟨k,rfl,h⟩
theorem El {tg l:Expr}{tl:TE}(hl:QE X l tl)(hK:autoParam (X.K=K) zX):QI X tg l (Zdc K tl):=by subst hK;exact Ztn hl
theorem Zjz {tg a:Expr}{ta:TA}{p pos:Pos}(hg:Gl X "reversed")(hm:X.mg "reversed"=none)(ha:QA X [a] ta)(hK:autoParam (X.K=K) zX)(hs:autoParam (starEach [a] X.env=[(false,eval a X.env)]) zX):QI X tg (.Call (.Name "reversed" p) [a] [] pos) (Zc9 K ta):=by subst hK;exact Zmk hg hm ha hs
theorem Zl8 {e:Expr}{ta:TA}{p p2 pos pos2:Pos}(hg:Gl X "list")(hm:X.mg "list"=none)(hg2:Gl X "enumerate")(hm2:X.mg "enumerate"=none)(ha:QA X [e] ta)(hK:autoParam (X.K=K) zX)(hc:autoParam (X.calm=true) zX)
  (hs:autoParam (starEach [.Call (.Name "enumerate" p2) [e] [] pos2] X.env=[(false,eval (.Call (.Name "enumerate" p2) [e] [] pos2) X.env)]) zX) (hs2:autoParam (starEach [e] X.env=[(false,eval e X.env)]) zX) :
  QE X (.Call (.Name "list" p) [.Call (.Name "enumerate" p2) [e] [] pos2] [] pos) (Zdb K ta):=by subst hK;exact Zpc hg hm hg2 hm2 ha hc hs hs2
theorem Ol {es:List Expr}{k:Nat}{pos:Pos}{t:Ff}{n:Nat}(hc:X.calm=true)(h:QGs X es t)(hK:autoParam (X.K=K) zX)(hn:autoParam ((assignEach es X.env).length=n) zX)(hst:autoParam ((assignEach es X.env).findIdx? (·.1)=none) zX):QG X (.Tuple es k pos) (Kx K n t):=by subst hK;exact Zr1 hc h hn hst
def Zhs (K:Ph)(ta:TE):TT:=λσ H Q=>ta σ H λx H'=>∃k,Nk K x H' k/\Q k H'
theorem Zbq {a:Expr}{ta:TE}(ha:QE X a ta)(he:∀whole,isTrue a X.env whole=(do let v <- whole;standAt a.pos;holding [v] (truthy v)))(hK:autoParam (X.K=K) zX):QT X a (Zhs K ta):=by subst hK;exact⟨Zl9 ha.run he⟩
theorem Co {o e:Expr}{es:List Expr}{to:TE}{t:TA}{name:Str}{apos cpos:Pos}{T id:String}{r:V->List V->Hp->VK->Prop}(pa:PlainAttrs T)(slot:Slot T name id)(hty:typeOf (.builtin id)=pure (.type "method_descriptor"))(hm:J8 X id r)(ho:QE X o to)(ha:QA X (e::es) t)(hK:autoParam (X.K=K) zX)
  (hbase:autoParam (attributeBase o name X.env (eval o X.env)=eval o X.env) zX) (hfew:autoParam (((backTo cpos (starEach (e::es) X.env)).all (λx=>!x.1) && (backToKw cpos (keywordEach [] X.env)).all (λx=>x.1.isSome)
   && decide ((e::es).length+([]:List Keyword).length+(if ([]:List Keyword).isEmpty then 0 else 1)<30))=true) zX) (hline:autoParam ((apos.endLine == cpos.line)=true) zX) (hs:autoParam (starEach (e::es) X.env=(false,eval e X.env)::starEach es X.env) zX) (hplain:autoParam ((backTo cpos (starEach es X.env)).any (·.1)=false) zX):QE X (.Call (.Attribute o name apos) (e::es) [] cpos) (tBM K T r to t):=by subst hK;exact Zpy pa slot hty hm ho ha hbase hfew hline hs hplain
theorem Mf {o:Expr}{to:TE}{name:Str}{apos cpos:Pos}{T id:String}{r:V->List V->Hp->VK->Prop}(pa:PlainAttrs T)(slot:Slot T name id)(hty:typeOf (.builtin id)=pure (.type "method_descriptor"))(hm:J8 X id r)(ho:QE X o to)(hK:autoParam (X.K=K) zX)(hbase:autoParam (attributeBase o name X.env (eval o X.env)=eval o X.env) zX)(hline:autoParam ((apos.endLine == cpos.line)=true) zX):QE X (.Call (.Attribute o name apos) [] [] cpos) (Oe K T r to):=by subst hK;exact Zoj pa slot hty hm ho hbase hline
end
section
variable {K:Ph}{σ:St}{H:Hp}{Q:VK}{QB:Bool->Hp->Prop}{ta:TE}
theorem s_truth (h:ta σ H λx H'=>∃k,Nk K x H' k/\QB k H'):Zhs K ta σ H QB:=h
theorem Zi7 {a:Addr}{xs:List V}{P:Bool->Prop}(q:SqL K H a xs)(h:P (!xs.isEmpty)):∃k,Nk K (.ref a) H k/\P k:=⟨_,.inl ⟨xs,q,rfl⟩,h⟩
theorem B7 (ty:E2 K H x t)(e:Rm K t (.type T)=some b)(h:Q (.bl b) H):Mp K T [x,.ty T] H Q:=⟨x,t,b,rfl,.ty ty,e,h⟩
theorem Fe (q:SqT K H a xs)(e:Rm K (.type "tuple") (.type T)=some b)(h:Q (.bl b) H):Mp K T [.ref a,.ty T] H Q:=⟨_,_,b,rfl,.tup q,e,h⟩
theorem G0 (q:SqL K H a xs)(e:Rm K (.type "list") (.type T)=some b)(h:Q (.bl b) H):Mp K T [.ref a,.ty T] H Q:=⟨_,_,b,rfl,.lst q,e,h⟩
theorem Zlo:Rm K (.type "int") (.type "bool")=some false:=Zvu (l:=(fastBuiltinMro "int").get (by right)) (by right) (by decide) (by simp) (by right)
theorem Zhf (q:SqL K H p ys)(h:∀l,H l=none->Q (.ref l) (upd H l (.tup ys))):Zgq K [.ref p] H Q:=⟨p,ys,rfl,.inl ⟨q,h⟩⟩
theorem B6 {P:Prop}(q:SqL K H a xs)(h:P):Kh K "list" (.ref a) H/\P:=⟨.inl ⟨rfl,_,q⟩,h⟩
end
theorem s_nt {A B:Prop}(h:B):if (!true)=true then A else B:=by simpa using h
theorem s_nf {A B:Prop}(h:A):if (!false)=true then A else B:=by simpa using h
end L2
namespace L2
open PySem
inductive Tr where
 |mk (wd:Str) (note:Dt) (ps:List Tr)
noncomputable def Tr.wd:Tr->Str
 |.mk w _ _=>w
noncomputable def Tr.ps:Tr->List Tr
 |.mk _ _ ps=>ps
mutual
noncomputable def Tr.size:Tr->Nat
 |.mk _ _ ps=>1+Bs ps
noncomputable def Bs:List Tr->Nat
 |[]=>0
 |t::r=>t.size+Bs r
end
theorem Tr.size_eq (t:Tr):t.size=1+Bs t.ps:=by
 cases t with
 |mk w n ps=>rw[Tr.size];rfl
theorem Zg1 (a b:List Tr):Bs (a++b)=Bs a+Bs b:=by
 induction a with
 |nil=>simp[Bs]
 |cons t r I=>rw[Ry,Bs,Bs,I];lia
theorem K3 {ts:List Tr}{j:Nat}{t:Tr}(h:ts[j]?=some t):t.size<=Bs ts:=by
 induction ts generalizing j with
 |nil=>simp at h
 |cons x r I =>
  rw[Bs];cases j with
  |zero=>simp at h;subst h;lia
  |succ j=>have:=I (j:=j) (by simpa using h);lia
theorem Nz (ts:List Tr):ts.length<=Bs ts:=by
 induction ts with
 |nil=>simp[Bs]
 |cons t r I =>
  have:=t.size_eq;rw[Bs,Qa];lia
def SameT (H H':Hp):Prop:=∀b,(∀xs,H b=some (.tup xs)->H' b=some (.tup xs))/\∀o u,H b=some (.frz o u)->H' b=some (.frz o u)
theorem Same.t (e:Same H H'):SameT H H':=λb=>⟨λxs h=>e b _ h,λo u h=>e b _ h⟩
theorem SameT.refl (H:Hp):SameT H H:=λ_=>⟨λ_ h=>h,λ_ _ h=>h⟩
theorem SameT.trans (a:SameT H H1)(b:SameT H1 H2):SameT H H2:=λc=>⟨λxs h=>(b c).1 xs ((a c).1 xs h),λo u h=>(b c).2 o u ((a c).2 o u h)⟩
theorem SameT.set (h:H S=some (.lst zs)):SameT H (upd H S o):=λb =>
 ⟨λxs e=>by rw[Af (Ew e h (by intro z;cases z))];exact e,λo' u e=>by rw[Af (Ew e h (by intro z;cases z))];exact e⟩
theorem SameT.new (h:H S=none):SameT H (upd H S o):=(Same.upd h).t
theorem SameT.tup (e:SameT H H')(h:SqT K H a xs):SqT K H' a xs:=by
 rcases h with(h|⟨o,h⟩)|h
 ·exact .inl (.inl ((e a).1 _ h))
 ·exact .inl (.inr ⟨o,(e a).2 _ _ h⟩)
 ·exact .inr h
def IsN (K:Ph)(H:Hp)(v:V)(n:Dt):Prop:=(C8 v=true/\n=.flat v)\/eX2 λ(a:Addr)(vs:List V)=>v=.ref a/\SqT K H a vs/\vs.all C8=true/\n=.tup (vs.map .flat)
theorem IsN.same (h:IsN K H v n)(e:SameT H H'):IsN K H' v n:=by
 rcases h with h|⟨a,vs,h1,h2,I⟩
 ·exact .inl h
 ·exact .inr ⟨a,vs,h1,e.tup h2,I⟩
inductive TrAt (K:Ph)(H:Hp):V->Tr->Prop where
 |mk {a p:Addr} {wd:Str} {nv:V} {n:Dt} {vs:List V} {ts:List Tr} (q:SqT K H a [.str wd,nv,.ref p]) (hn:IsN K H nv n) (qp:SqT K H p vs) (l:vs.length=ts.length)
   (h:∀(j:Nat)(v:V)(t:Tr),vs[j]?=some v->ts[j]?=some t->TrAt K H v t):TrAt K H (.ref a) (.mk wd n ts)
theorem TrAt.sameT (h:TrAt K H v t)(e:SameT H H'):TrAt K H' v t:=by
 induction h with
 |mk q hn I l _ O=>exact .mk (e.tup q) (hn.same e) (e.tup I) l O
theorem TrAt.same (h:TrAt K H v t)(e:Same H H'):TrAt K H' v t:=h.sameT e.t
def Al {α:Type}(R:V->α->Prop)(vs:List V)(xs:List α):Prop:=vs.length=xs.length/\∀(j:Nat)(v:V)(x:α),vs[j]?=some v->xs[j]?=some x->R v x
section
variable {α:Type}{R R':V->α->Prop}{vs:List V}{xs:List α}{v:V}{x:α}
theorem Al.mono (h:Al R vs xs)(f:∀v x,R v x->R' v x):Al R' vs xs:=⟨h.1,λj v x a b=>f v x (h.2 j v x a b)⟩
theorem Al.nil:Al R [] []:=⟨rfl,λj v x a _=>by simp at a⟩
theorem Al.snoc (h:Al R vs xs)(a:R v x):Al R (vs++[v]) (xs++[x]):=by
 refine⟨by simp[h.1],λj y z I O=>?_⟩;by_cases Y:j<vs.length
 ·rw[Qj Y]at I;rw[Qj (by have:=h.1;lia)]at O;exact h.2 j y z I O
 ·have hl:=(Ps.mp I).1;rw[Pn,Py]at hl;have U:j=vs.length:=by lia
  subst U;rw[Qr (Pl _),Q7]at I;rw[h.1,Qr (Pl _),Q7]at O;have I:v=y:=by simpa using I
  have O:x=z:=by simpa using O
  rw[<- I,<- O];exact a
theorem Al.split (h:Al R (vs++[v]) xs):eX2 λys x=>xs=ys++[x]/\Al R vs ys/\R v x:=by
 have hl:xs.length=vs.length+1:=by have:=h.1;simp at this;lia
 have I:xs≠[]:=λz=>by rw[z]at hl;simp at hl
 refine⟨xs.dropLast,xs.getLast I,(Xa I).symm,⟨by simp[hl],λj y z U O=>?_⟩,?_⟩
 ·have Y:=(Ps.mp U).1;refine h.2 j y z (by rw[Qj Y];exact U) ?_;rw[List.getElem?_dropLast]at O;split at O
  ·exact O
  ·cases O
 ·refine h.2 vs.length v _ (by simp) ?_;rw[List.getLast_eq_getElem,Pj (by lia)]
  congr 1
  simp[hl]
theorem Al.last (h:Al R vs xs)(hn:vs≠[]):eX4 λvs' v xs' x=>vs=vs'++[v]/\xs=xs'++[x]/\Al R vs' xs'/\R v x:=by
 have e:=(Xa hn).symm;rw[e]at h;obtain⟨ys,x,I,a,r⟩:=h.split;exact⟨_,_,ys,x,e,I,a,r⟩
theorem Al.get {j:Nat}(h:Al R vs xs)(e:vs[j]?=some v):∃x,xs[j]?=some x/\R v x:=by
 have O:=(Ps.mp e).1;have I:j<xs.length:=by have:=h.1;lia
 exact⟨xs[j],Pj I,h.2 j v _ e (Pj I)⟩
theorem Al.get' {j:Nat}(h:Al R vs xs)(e:xs[j]?=some x):∃v,vs[j]?=some v/\R v x:=by
 have O:=(Ps.mp e).1;have I:j<vs.length:=by have:=h.1;lia
 exact⟨vs[j],Pj I,h.2 j _ x (Pj I) e⟩
end
mutual
noncomputable def walk:List Nat->Tr->List (List Nat×Tr)
 |pl,.mk w n ps=>(pl,.mk w n ps)::Bm pl 0 ps
noncomputable def Bm:List Nat->Nat->List Tr->List (List Nat×Tr)
 |_,_,[]=>[]
 |pl,i,t::r=>walk (pl++[i]) t++Bm pl (i+1) r
end
theorem Zrf (pl:List Nat)(t:Tr):walk pl t=(pl,t)::Bm pl 0 t.ps:=by
 cases t with
 |mk w n ps=>rw[walk];rfl
mutual
theorem K0:∀(pl:List Nat)(t:Tr),(walk pl t).length=t.size
 |pl,.mk w n ps=>by rw[walk,Tr.size,Qa,Od pl 0 ps];lia
theorem Od:∀(pl:List Nat)(i:Nat)(ts:List Tr),(Bm pl i ts).length=Bs ts
 |_,_,[]=>by rw[Bm,Bs];rfl
 |pl,i,t::r=>by rw[Bm,Bs,Pn,K0,Od]
end
mutual
theorem Zd6:∀(pl:List Nat)(t:Tr)(x:List Nat×Tr),x∈walk pl t->x.1.length+1<=pl.length+t.size
 |pl,.mk w n ps,x,h=>by
  rw[walk]at h;rw[Tr.size];rcases Pr.mp h with h|h
  ·subst h;show pl.length+1<=_;lia
  ·have:=Zhg pl 0 ps x h;lia
theorem Zhg:∀(pl:List Nat)(i:Nat)(ts:List Tr)(x:List Nat×Tr),x∈Bm pl i ts->x.1.length<=pl.length+Bs ts
 |_,_,[],x,h=>by rw[Bm]at h;cases h
 |pl,i,t::r,x,h=>by
  rw[Bm]at h;rw[Bs];rcases Q4.mp h with h|h
  ·have:=Zd6 (pl++[i]) t x h;rw[Pn,Py]at this;lia
  ·have:=Zhg pl (i+1) r x h;lia
end
noncomputable def A2 (pl:List Nat):List V:=pl.map λi=>V.int ((i:Nat):Int)
noncomputable def C3:List Nat->Nat->List Tr->List (List Nat×Tr)
 |_,_,[]=>[]
 |pl,i,t::r=>(pl++[i],t)::C3 pl (i+1) r
theorem Zhh (pl:List Nat):∀(i:Nat)(ts:List Tr),(C3 pl i ts).length=ts.length
 |_,[]=>rfl
 |i,t::r=>by rw[C3,Qa,Qa,Zhh pl (i+1) r]
theorem Zji (pl:List Nat):∀(i j:Nat)(ts:List Tr),(C3 pl i ts)[j]?=(ts[j]?).map λt=>(pl++[i+j],t)
 |_,_,[]=>by simp[C3]
 |i,0,t::r=>by simp[C3]
 |i,j+1,t::r=>by
  rw[C3,Tw,Tw,Zji pl (i+1) j r]
  congr 1
  funext t;rw[show i+1+j=i+(j+1) by lia]
theorem Zi1 (pl:List Nat):∀(i:Nat)(ts:List Tr),(C3 pl i ts).flatMap (λx=>walk x.1 x.2)=Bm pl i ts
 |_,[]=>by simp[C3,Bm]
 |i,t::r=>by rw[C3,List.flatMap_cons,Bm,Zi1 pl (i+1) r]
noncomputable def Iw (st:List (List Nat×Tr)):List (List Nat×Tr):=st.reverse.flatMap λx=>walk x.1 x.2
theorem Zme:Iw []=[]:=rfl
theorem Zcu (st:List (List Nat×Tr))(x:List Nat×Tr):Iw (st++[x])=x::Iw (st++(C3 x.1 0 x.2.ps).reverse):=by
 unfold Iw;rw[Tc,Tc,List.reverse_reverse,List.flatMap_append,List.flatMap_append,Zi1];rw[U9,List.flatMap_singleton,Zrf];rfl
noncomputable def F4 (st:List (List Nat×Tr)):Nat:=(Iw st).length
theorem Zqi (st:List (List Nat×Tr))(x:List Nat×Tr):F4 (st++(C3 x.1 0 x.2.ps).reverse)<F4 (st++[x]):=by
 unfold F4;rw[Zcu];exact Vj _
theorem Zok (st:List (List Nat×Tr)):st.length<=F4 st:=by
 unfold F4 Iw;have:∀l:List (List Nat×Tr),l.length<=(l.flatMap λx=>walk x.1 x.2).length:=λl=>by
  induction l with
  |nil=>simp
  |cons x r I =>
   rw[List.flatMap_cons,Pn,K0,Qa];have:=x.2.size_eq;lia
 have:=this st.reverse;rw[List.length_reverse]at this;exact this
theorem Zsc {α:Type}{l:List α}{n i:Nat}{x:α}(hl:l.length=n)(hi:i<n)(hx:l[n-1-i]?=some x):(l.drop (n-(i+1))).reverse=(l.drop (n-i)).reverse++[x]:=by
 have I:n-1-i<l.length:=by lia
 have e:l.drop (n-(i+1))=x::l.drop (n-i):=by
  have h1:n-(i+1)=n-1-i:=by lia
  rw[h1,Sj I,show n-1-i+1=n-i by lia];rw[Pj I]at hx;rw[Qg hx]
 rw[e,Wu]
mutual
theorem Zc1:∀(pl:List Nat)(t:Tr),walk pl t=(walk [] t).map λx=>(pl++x.1,x.2)
 |pl,.mk w n ps=>by
  have e:=Zj8 pl [] 0 ps;rw[Q0]at e;rw[walk,walk,Qq,e];simp
theorem Zj8:∀(pl q:List Nat)(i:Nat)(ts:List Tr),Bm (pl++q) i ts=(Bm q i ts).map λx=>(pl++x.1,x.2)
 |_,_,_,[]=>by rw[Bm,Bm];rfl
 |pl,q,i,t::r=>by
  rw[Bm,Bm,Qi,<- Zj8 pl q (i+1) r,Zc1 (pl++q++[i]) t,Zc1 (q++[i]) t];simp
end
theorem Al.append {α:Type}{R:V->α->Prop}{vs ws:List V}{xs ys:List α}(h:Al R vs xs)(h':Al R ws ys):Al R (vs++ws) (xs++ys):=by
 refine⟨by simp[h.1,h'.1],λj v x I O=>?_⟩;by_cases U:j<vs.length
 ·rw[Qj U]at I;rw[Qj (by have:=h.1;lia)]at O;exact h.2 j v x I O
 ·rw[Qr (by lia)]at I;rw[Qr (by have:=h.1;lia),<- h.1]at O;exact h'.2 _ v x I O
end L2
namespace L2
open PySem PySem.Spec PyProof.Rows
section
open PySem.AutoSeq1
end
section
variable {X:Cx}
noncomputable def D6 (kvs:List (Str×V))(k:Str):Option V:=(kvs.find? λI=>I.1=k).map (·.2)
inductive VPs:List (Str×V)->List (Str×Value)->Prop
 |nil:VPs [] []
 |cons {k:Str} {x:V} {v:Value} {r:List (Str×V)} {q:List (Str×Value)}:RelV x v->VPs r q->VPs ((k,x)::r) ((k,v)::q)
theorem VPs.look (h:VPs kvs vs)(k:Str):(valueAt vs k).isSome=(D6 kvs k).isSome/\∀x,D6 kvs k=some x->∃v,valueAt vs k=some v/\RelV x v:=by
 induction h with
 |nil=>exact⟨rfl,λx e=>nomatch e⟩
 | @cons U x v r q O _ I =>
  unfold valueAt D6 at I ⊢;by_cases z:U=k
  ·simp only[Rb,z,decide_true,Ul,Option.isSome_some];exact⟨trivial,λy e=>⟨v,rfl,by cases e;exact O⟩⟩
  ·simp only[Rb,z,decide_false];exact I
def Ip (P:Program)(w:World)(K:Ph)(a:Addr)(kvs:List (Str×V)):Prop :=
 eX2 λ(o:Obj)(vs:List (Str×Value))=>K.lookup a=some o/\o.IsDictOf (strKind P w) vs/\(a == sysModules)=false/\VPs kvs vs
def rInD (P:Program)(w:World)(K:Ph):R2:=λx y H Q=>eX3 λs a kvs=>x=.str s/\y=.ref a/\Ip P w K a kvs/\Q (.bl (D6 kvs s).isSome) H
theorem Zwj:OpR X (compareOp .In) (rInD X.prog X.w X.K):=by
 intro pins s σ H x y v u Q I U O h;obtain⟨z,a,kvs,rfl,rfl,⟨o,vs,Y,hd,lo,Z⟩,q⟩:=h;obtain⟨t,rfl⟩:=U;cases O;have D:s.heap.DictOf (strKind X.prog X.w) a vs:=W3.mpr ⟨o,I.kIn a o Y,hd⟩;exact wpAny_in_of (knd:=strKind X.prog X.w) (k:=z) (strKind_is _ _ _ _) lo D.mapOf (B2 (I.tok _) q (Z.look z).1.symm)
def rIxD (P:Program)(w:World)(K:Ph):R2:=λx y H Q=>eX4 λa kvs s v=>x=.ref a/\y=.str s/\Ip P w K a kvs/\D6 kvs s=some v/\Q v H
theorem ix_D:IxR X (rIxD X.prog X.w X.K):=by
 intro value O pins s σ H x y v u Q I Z Y h U;obtain⟨a,kvs,z,v',rfl,rfl,⟨o,vs,hk,hd,lo,vp⟩,hv,q⟩:=h;cases Z;obtain⟨t,rfl⟩:=Y;have D:s.heap.DictOf (strKind X.prog X.w) a vs:=W3.mpr ⟨o,I.kIn a o hk,hd⟩;obtain⟨u',e,r⟩:=(vp.look z).2 _ hv;exact tail_any D.typeIs slot_dict_getitem.lookup (wpAny_getItem_of (knd:=strKind X.prog X.w) (k:=z) (strKind_is _ _ _ _) D.mapOf e ⟨v',H,I.tok _,r,q⟩) U
end
section
variable {X:Cx}(P:Program)(w:World)(K:Ph)
theorem Zco (hP:autoParam (X.prog=P) zX)(hw:autoParam (X.w=w) zX)(hK:autoParam (X.K=K) zX):OpR X (compareOp .In) (rInD P w K):=by subst hP hw hK;exact Zwj
theorem Zce (hP:autoParam (X.prog=P) zX)(hw:autoParam (X.w=w) zX)(hK:autoParam (X.K=K) zX):IxR X (rIxD P w K):=by subst hP hw hK;exact ix_D
end
theorem s_chain (h:ta σ H λx H1=>tb σ H1 λy H2=>r x y H2 λz H3=>∃k,z=.bl k/\(if k=true then tc σ H3 λw' H4=>r' y w' H4 Q else Q (.bl false) H3)):Zdy r r' ta tb tc σ H Q:=h
inductive Ents (p:Params):List DictEntry->List (Str×V)->Prop
 |nil:Ents p [] []
 |cons {k:Str} {t:Tok} {x:V} {v:Value} {r:List DictEntry} {q:List (Str×V)}:RelV x v->Ents p r q->Ents p (⟨PyData.keyHash p k,.str k t,v⟩::r) ((k,x)::q)
theorem Ents.pairs (h:Ents w.params es kvs):∃vs,VPs kvs vs/\PySem.Pairs (PySem.strKind P w) es vs/\vs.map (·.1)=kvs.map (·.1)/\∀e∈es,∃k,(PySem.strKind P w).is k e.key=true/\e.hash=(PySem.strKind P w).hash k:=by
 induction h with
 |nil=>exact⟨[],.nil,.nil,rfl,λe I=>nomatch I⟩
 | @cons k t x v r q O _ U =>
  obtain⟨vs,a,b,c,d⟩:=U;refine⟨(k,v)::vs,.cons O a,.cons (strKind_is _ _ _ _) rfl b,by simp[c],λe I=>?_⟩;rcases Pr.mp I with rfl|I
  ·exact⟨k,strKind_is _ _ _ _,rfl⟩
  ·exact d e I
theorem Zwi {P:Program}{w:World}{K:Ph}{a:Addr}{es:Array DictEntry}{n:Nat}{kvs:List (Str×V)}(l:K.lookup a=some ⟨.type "dict",none,.dict es n,#[]⟩)(hs:(a == sysModules)=false)
  (e:Ents w.params es.toList kvs) (nd:(kvs.map (·.1)).Nodup):Ip P w K a kvs:=by
 obtain⟨vs,a1,a2,U,I⟩:=e.pairs (P:=P);exact⟨_,vs,l,⟨es,n,⟨rfl,rfl,rfl⟩,rfl,λe O=>I e (by simpa using O),a2,by rw[U];exact nd⟩,hs,a1⟩
section
variable {X:Cx}
theorem Zct:∀{ns:List Int}{us:List Value},Vals (ns.map V.int) us->∃xs:List (Int×Tok),us=xs.map (λp=>Value.int p.1 p.2)/\xs.map (·.1)=ns
 |[],_,.nil=>⟨[],rfl,rfl⟩
 |n::ns,_,.cons r t=>by
  obtain⟨u,rfl⟩:=r;obtain⟨xs,I,O⟩:=Zct t;exact⟨(n,u)::xs,by rw[I];rfl,by simp[O]⟩
def Zg7:List V->Hp->VK->Prop:=λxs H Q=>∃i,xs=[.int i]/\i.natAbs.log2<1920/\Q (.str (toString i)) H
theorem Zir:Cz X (.type "str") Zg7:=Zti
theorem Zhc (hi:i.natAbs.log2<1920)(h:Q (.str (toString i)) H):Zg7 [.int i] H Q:=⟨i,rfl,hi,h⟩
end
structure ZA (z TI TO i1 i2:Addr)(fp1 fp2:List Addr):Prop where
 TIz:TI≠z
 TOz:TO≠z
 TITO:TI≠TO
 z1:z ∉ fp1
 z2:z ∉ fp2
 TI1:TI≠i1
 TI2:TI≠i2
 TO1:TO ∉ fp1
 TO2:TO ∉ fp2
 m1:i1∈fp1
 m2:i2∈fp2
 n1:i1 ∉ fp2
 n2:i2 ∉ fp1
theorem ZA.i1z {z TI TO i1 i2:Addr}{fp1 fp2:List Addr}(D:ZA z TI TO i1 i2 fp1 fp2):i1≠z:=λe=>D.z1 (e ▸ D.m1)
theorem ZA.i2z {z TI TO i1 i2:Addr}{fp1 fp2:List Addr}(D:ZA z TI TO i1 i2 fp1 fp2):i2≠z:=λe=>D.z2 (e ▸ D.m2)
theorem ZA.TOi1 {z TI TO i1 i2:Addr}{fp1 fp2:List Addr}(D:ZA z TI TO i1 i2 fp1 fp2):TO≠i1:=λe=>D.TO1 (e ▸ D.m1)
theorem ZA.TOi2 {z TI TO i1 i2:Addr}{fp1 fp2:List Addr}(D:ZA z TI TO i1 i2 fp1 fp2):TO≠i2:=λe=>D.TO2 (e ▸ D.m2)
theorem Di {prog:Program}{w:World}{A:Around}{it c:Addr}{fp:List Addr}{n i:Nat}{P:Nat->Value->Prop}{St:Nat->Heap->Prop}(D:Draws prog w A it fp n P St){h h':Heap}(st:St i h)(e:P4 c h h')(hc:c ∉ fp):St i h' :=
 D.frame i h h' st λb hb o I=>e.extBut b o (λz=>hc (z ▸ hb)) I
section
variable {prog:Program}{w:World}{A:Around}{E:Value->Shared->Prop}{s:Shared}{z TI TO i1 i2:Addr}{fp1 fp2:List Addr}{n1 n2 i:Nat}{P1 P2:Nat->Value->Prop}{St1 St2:Nat->Heap->Prop}{a b:Value}
theorem Zr4 {Q:Value->Shared->Prop}(D1:Draws prog w A i1 fp1 n1 P1 St1)(D2:Draws prog w A i2 fp2 n2 P2 St2)(D:ZA z TI TO i1 i2 fp1 fp2)(hz:IsZip s.heap z TI TO .none)(hTI:IsPair s.heap TI (.ref i1) (.ref i2))(hTO:IsPair s.heap TO a b)
  (st1:St1 i s.heap) (st2:St2 i s.heap) (l1:i<n1) (l2:i<n2)
  (hQ:∀x y h' tk,P1 i x->P2 i y->IsZip h' z TI TO (rawInt s.heap.objs.size)->IsPair h' TO x y->St1 (i+1) h'->St2 (i+1) h'->IsPair h' s.heap.objs.size x y->h'.objs.size=s.heap.objs.size+1 ->
   (∀c o,c≠z->c≠TO->c≠i1->c≠i2->s.heap.get? c=some o->h'.get? c=some o)->Q (.ref s.heap.objs.size) { s with heap:=h',toks:=tk }) :
  wpAny (model prog w) A (Builtin.«zip.__next__» ⟨[.ref z],[]⟩) (λfin s'=>∃v,fin=.done (.ret v)/\Q v s') E s:=by
 show wpAny _ _ (field (.ref z) 2 >>= _) _ _ s;refine Pi (Px hz rfl (x:=Value.bool false) rfl ?_);show wpAny _ _ (field (.ref z) 3 >>= _) _ _ s;refine Pi (Px hz rfl (x:=Value.ref TI) rfl (Pi (Rc hTI rfl ?_)));show wpAny _ _ (Rf (.ref z) >>= _) _ _ s;refine Pi ?_;unfold Rf;refine Pi (Px hz rfl (x:=Value.none) rfl (Pk ?_));simp only[if_true];refine Pi (Tu (Pi (Px hz rfl (x:=Value.ref TO) rfl ?_)));refine Pi (Rj hz (by simp) λac U e1=>?_);replace U:IsZip ac z TI TO Value.ellipsis:=U;refine Pi ?_;simp only[List.zipIdx_cons,List.zipIdx_nil,Uj,Vw];refine Pi (Pi (Vz ?_));show wpAny _ _ (Q2 (.ref i1) >>= _) _ _ _;refine Pi (D1.item i _ _ _ l1 (Di D1 st1 e1 D.z1) λx aa aj px ai e2=>Pk ?_);replace e2:P4 i1 ac aa:=e2;have p2:IsPair aa TO a b:=e2.extBut _ _ D.TOi1 (e1.extBut _ _ D.TOz hTO);refine Pi (Rc p2 rfl (Pi (Wi p2 λY p3 e3=>?_)));replace p3:IsPair Y TO x b:=p3;replace e3:P4 TO aa Y:=e3;refine Pi (V7 (Pk (Pi (Pi (Vz ?_)))));show wpAny _ _ (Q2 (.ref i2) >>= _) _ _ _;have ak:St2 i Y:=Di D2 (Di D2 (Di D2 st2 e1 D.z2) e2 D.n1) e3 D.TO2;refine Pi (D2.item i _ _ _ l2 ak λy Z ad py ah e4=>Pk ?_);replace e4:P4 i2 Y Z:=e4;have p4:IsPair Z TO x b:=e4.extBut _ _ D.TOi2 p3;refine Pi (Rc p4 rfl (Pi (Wi p4 λI p5 e5=>?_)));replace p5:IsPair I TO x y:=p5;replace e5:P4 TO Z I:=e5;refine Pi (V7 (Pk (Pk (Pi (Rc p5 rfl (Pi (wpAny_newTuple ?_)))))));have sz:I.objs.size=s.heap.objs.size:=by rw[e5.1,e4.1,e3.1,e2.1,e1.1]
 have z5:IsZip I z TI TO Value.ellipsis:=e5.extBut _ _ D.TOz.symm (e4.extBut _ _ D.i2z.symm (e3.extBut _ _ D.TOz.symm (e2.extBut _ _ D.i1z.symm U)));have k5:∀c o,c≠z->c≠TO->c≠i1->c≠i2->s.heap.get? c=some o->I.get? c=some o:=λc o c1 c2 c3 c4 e=>e5.extBut _ _ c2 (e4.extBut _ _ c4 (e3.extBut _ _ c2 (e2.extBut _ _ c3 (e1.extBut _ _ c1 e))));have t1:St1 (i+1) I:=Di D1 (Di D1 (Di D1 ai e3 D.TO1) e4 D.n2) e5 D.TO1;have t2:St2 (i+1) I:=Di D2 ah e5 D.TO2;have af:z<I.objs.size:=Pq z5;show wpAny _ _ (W5 (.ref z) (.ref I.objs.size) >>= _) _ _ _;refine Pi ?_;unfold W5;have z6:IsZip (I.push { cls:=.type "tuple",data:=.seq #[x,y] }) z TI TO Value.ellipsis:=Po _ z5;refine Pi (Rj z6 (by simp) λae z7 e7=>?_);replace z7:IsZip ae z TI TO (rawInt I.objs.size):=z7;refine Rj z7 (by simp) λO z8 e8=>?_;replace z8:IsZip O z TI TO (rawInt I.objs.size):=z8;have up:∀c o,c≠z->I.get? c=some o->O.get? c=some o:=λc o c1 e=>e8.extBut _ _ c1 (e7.extBut _ _ c1 (Po _ e));have t8:IsPair O I.objs.size x y:=e8.extBut _ _ (Q1 af) (e7.extBut _ _ (Q1 af) (P3 _ rfl));have ag:O.objs.size=I.objs.size+1:=by rw[e8.1,e7.1,Qt]
 rw[sz]at z8 t8 ag;refine Pk ⟨_,rfl,?_⟩;show Q (.ref I.objs.size) _;rw[sz];exact hQ x y O ad px py z8 (up _ _ D.TOz p5) (D1.frame _ _ _ t1 λc hc o e=>up c o (λq=>D.z1 (q ▸ hc)) e) (D2.frame _ _ _ t2 λc hc o e=>up c o (λq=>D.z2 (q ▸ hc)) e) t8 ag λc o c1 c2 c3 c4 e=>up c o c1 (k5 c o c1 c2 c3 c4 e)
theorem Zna (D1:Draws prog w A i1 fp1 n1 P1 St1)(D2:Draws prog w A i2 fp2 n2 P2 St2)(D:ZA z TI TO i1 i2 fp1 fp2)(hz:IsZip s.heap z TI TO .none)(hTI:IsPair s.heap TI (.ref i1) (.ref i2))(hTO:IsPair s.heap TO a b)(st1:St1 i s.heap)(st2:St2 i s.heap)(hend:i=n1\/(i<n1/\i=n2))(hE:∀h' e tk,(∀c o,c≠z->c≠TO->c≠i1->c≠i2->s.heap.get? c=some o->h'.get? c=some o)->(∃o,h'.get? e=some o/\o.cls=.type "StopIteration")->E (.ref e) { s with heap:=h',toks:=tk }) :
  wpAny (model prog w) A (Builtin.«zip.__next__» ⟨[.ref z],[]⟩) Q E s:=by
 show wpAny _ _ (field (.ref z) 2 >>= _) _ _ s;refine Pi (Px hz rfl (x:=Value.bool false) rfl ?_);show wpAny _ _ (field (.ref z) 3 >>= _) _ _ s;refine Pi (Px hz rfl (x:=Value.ref TI) rfl (Pi (Rc hTI rfl ?_)));show wpAny _ _ (Rf (.ref z) >>= _) _ _ s;refine Pi ?_;unfold Rf;refine Pi (Px hz rfl (x:=Value.none) rfl (Pk ?_));simp only[if_true];refine Pi (Tu (Pi (Px hz rfl (x:=Value.ref TO) rfl ?_)));refine Pi (Rj hz (by simp) λZ O e1=>?_);replace O:IsZip Z z TI TO Value.ellipsis:=O;refine Pi ?_;simp only[List.zipIdx_cons,List.zipIdx_nil,Uj,Vw];refine Pi (Pi (Vz ?_));show wpAny _ _ (Q2 (.ref i1) >>= _) _ _ _;rcases hend with rfl|⟨l1,rfl⟩
 ·refine Pi (D1.done _ _ _ (Di D1 st1 e1 D.z1) λI e e2 he=>?_);obtain⟨oe,Y,aa⟩:=he;replace e2:Tt i1 Z I:=e2;have z2:IsZip I z TI TO Value.ellipsis:=e2 _ _ D.i1z.symm O;have ae:e≠z:=λx=>by subst x;rw[z2]at Y;cases Y;simp at aa
  refine Rj z2 (by simp) λU _ e3=>hE U e s.toks (λc o c1 _ c3 _ x=>e3.extBut _ _ c1 (e2 _ _ c3 (e1.extBut _ _ c1 x))) ⟨oe,e3.extBut _ _ ae Y,aa⟩
 ·refine Pi (D1.item i _ _ _ l1 (Di D1 st1 e1 D.z1) λx I ad px ah e2=>Pk ?_);replace e2:P4 i1 Z I:=e2;have p2:IsPair I TO a b:=e2.extBut _ _ D.TOi1 (e1.extBut _ _ D.TOz hTO);refine Pi (Rc p2 rfl (Pi (Wi p2 λU p3 e3=>?_)));replace e3:P4 TO I U:=e3;refine Pi (V7 (Pk (Pi (Pi (Vz ?_)))));show wpAny _ _ (Q2 (.ref i2) >>= _) _ _ _;have ag:St2 i U:=Di D2 (Di D2 (Di D2 st2 e1 D.z2) e2 D.n1) e3 D.TO2;refine Pi (D2.done _ _ _ ag λac e e4 he=>?_);obtain⟨oe,Y,aa⟩:=he;replace e4:Tt i2 U ac:=e4;have z4:IsZip ac z TI TO Value.ellipsis:=e4 _ _ D.i2z.symm (e3.extBut _ _ D.TOz.symm (e2.extBut _ _ D.i1z.symm O));have ae:e≠z:=λx=>by subst x;rw[z4]at Y;cases Y;simp at aa
  refine Rj z4 (by simp) λaf _ e5=>hE af e ad (λc o c1 c2 c3 c4 x=>e5.extBut _ _ c1 (e4 _ _ c4 (e3.extBut _ _ c2 (e2.extBut _ _ c3 (e1.extBut _ _ c1 x))))) ⟨oe,e5.extBut _ _ ae Y,aa⟩
theorem Zmy (D1:Draws prog w A.in1 i1 fp1 n1 P1 St1)(D2:Draws prog w A.in1 i2 fp2 n2 P2 St2)(D:ZA z TI TO i1 i2 fp1 fp2)(hz:IsZip s.heap z TI TO .none)(hTI:IsPair s.heap TI (.ref i1) (.ref i2))(hTO:IsPair s.heap TO a b)(st1:St1 i s.heap)(st2:St2 i s.heap)(l1:i<n1)(l2:i<n2)(hQ:∀x y h' tk,P1 i x->P2 i y->IsZip h' z TI TO (rawInt s.heap.objs.size)->IsPair h' TO x y->St1 (i+1) h'->St2 (i+1) h'->IsPair h' s.heap.objs.size x y->h'.objs.size=s.heap.objs.size+1 ->
   (∀c o,c≠z->c≠TO->c≠i1->c≠i2->s.heap.get? c=some o->h'.get? c=some o)->Q (some (.ref s.heap.objs.size)) { s with heap:=h',toks:=tk }) :
  wpAny (model prog w) A (pyNext (.ref z)) Q E s:=by
 have I:s.TypeIs (.ref z) "zip":=⟨_,hz,rfl⟩;unfold pyNext;exact Pi (Tk (Rg (name:=Qv "__next__") I R8
  (Rk R8 I Va (Zr4 D1 D2 D hz hTI hTO st1 st2 l1 l2 λx y h' tk a1 a2 a3 U O Z Y a8 a9=>Pk (hQ x y h' tk a1 a2 a3 U O Z Y a8 a9)) (U7 _))))
theorem Zwm (D1:Draws prog w A.in1 i1 fp1 n1 P1 St1)(D2:Draws prog w A.in1 i2 fp2 n2 P2 St2)(D:ZA z TI TO i1 i2 fp1 fp2)(hz:IsZip s.heap z TI TO .none)(hTI:IsPair s.heap TI (.ref i1) (.ref i2))(hTO:IsPair s.heap TO a b)(st1:St1 i s.heap)(st2:St2 i s.heap)(hend:i=n1\/(i<n1/\i=n2))(hQ:∀h' tk,(∀c o,c≠z->c≠TO->c≠i1->c≠i2->s.heap.get? c=some o->h'.get? c=some o)->Q none { s with heap:=h',toks:=tk }):wpAny (model prog w) A (pyNext (.ref z)) Q E s:=by
 have I:s.TypeIs (.ref z) "zip":=⟨_,hz,rfl⟩;unfold pyNext;refine Pi (Tk (Rg (name:=Qv "__next__") I R8
  (Rk R8 I Va (Zna D1 D2 D hz hTI hTO st1 st2 hend λh' e tk Z O=>?_) (U7 _))))
 obtain⟨o,U,Y⟩:=O;exact Pi (Ww (T:="StopIteration") (b:=true) ⟨o,U,Y⟩ isSubtype_stop (Pk (hQ _ _ Z)))
end
section
variable {prog:Program}{w:World}{A:Around}{E:Value->Shared->Prop}{s:Shared}
end
section
variable {X:Cx}{pins:List (Addr×Obj)}{σ:St}{H:Hp}{s:Shared}{h':Heap}
theorem Inv.turnedL {t':Nat}{fp:List Addr}(I:Inv X pins σ H s)(k:∀b o,b ∉ fp->s.heap.get? b=some o->h'.get? b=some o)(f:∀b∈fp,FpOk X pins H b):Inv X pins σ H { s with heap:=h',toks:=t' }:=by
 have U:∀b u,H b=some u->b ∉ fp:=λb u e hb=>by rw[(f b hb).1]at e;exact nomatch e
 refine I.step (g':=s.gens) (d':=s.drawn) (ch:=fp) (λb hb=>?_) (λb o _ _ O e _=>k b o O e) (λb o _ _ O e _=>⟨o.slots,k b o O e⟩) (λ_ _ _ _ n=>n)
  (λb o O e=>⟨o,k b o O e⟩) (λ_ _ e=>e) (λ_ _ _ e=>e) (λb ps e=>⟨#[],by rw[e];simp⟩) (λm hm=>?_) (λb u e=>?_) I.bare
 ·obtain⟨n1,l1,_,e1,c1,p1⟩:=f b hb;exact⟨e1,l1,c1,p1⟩
 ·obtain⟨o,es,Z,Y,r⟩:=hm;exact⟨o,es,Z,k _ o (λhb=>(f _ hb).2.1 rfl) Y,r⟩
 ·refine(I.hok b u e).stay (λc v O q=>k c v ?_ q) (λ_ q=>q) λ_ _ q=>q;rcases O with z|z
  ·rw[z];exact U b u e
  ·exact U c _ z
theorem Inv.pairL {tk:Nat}{fp:List Addr}{T:Addr}{xs:List V}{its:List Value}(I:Inv X pins σ H s)(f:∀b∈fp,FpOk X pins H b)
  (kk:∀b o,b ∉ fp->s.heap.get? b=some o->h'.get? b=some o) (hT:s.heap.objs.size<=T) (rv:Vals xs its) (hz:xs.length<=sizeLine) (ht:h'.IsTuple T its.toArray):Inv X pins σ (upd H T (.tup xs)) { s with heap:=h',toks:=tk }:=by
 have O:H T=none:=I.hok.fresh hT;have I1:Inv X pins σ H { s with heap:=h',toks:=tk }:=I.turnedL kk f;have U:HOk X.prog X.w (upd H T (.tup xs)) h':=λb o e=>by
  by_cases hb:b=T
  ·subst hb;rw[Ac]at e;cases e;exact⟨hz,its,rv,ht⟩
  ·rw[Af hb]at e;refine(I1.hok b o e).stay (λc v _ q=>q) (λc q=>?_) λc zs q=>?_
   ·rw[Af (C9 q O)];exact q
   ·rw[Af (C9 q O)];exact q
 have u:Un (B4 X.stack) fp H (upd H T (.tup xs)) s.heap h':={
  keep:=λb o e n _ Y=>kk b o Y e
  slot:=λb o e n _ Y=>⟨o.slots,kk b o Y e⟩
  free:=λb o e n _=>by rw[Af (P0 (P9 (Pq e) hT))];exact n
  there:=λb o e Y=>⟨o,kk b o Y e⟩
  tups:=λb zs e=>by rw[Af (C9 e O)];exact e
  frzs:=λb o u e=>by rw[Af (C9 e O)];exact e
  tbls:=λb ps e=>⟨#[],by rw[Af (C9 e O),e];simp⟩ }
 refine I.call (g':=s.gens) (d':=s.drawn) (t':=tk) u U I.bare λb hb=>?_;obtain⟨n1,l1,_,e1,Z,p1⟩:=f b hb;exact⟨e1,l1,Z,p1⟩
end
structure ZB (z TI TO i1 i2 a b:Addr):Prop where
 TIz:TI≠z
 TOz:TO≠z
 TITO:TI≠TO
 i1z:i1≠z
 i2z:i2≠z
 TI1:TI≠i1
 TI2:TI≠i2
 TO1:TO≠i1
 TO2:TO≠i2
 i12:i1≠i2
 az:a≠z
 aTO:a≠TO
 a1:a≠i1
 a2:a≠i2
 bz:b≠z
 bTO:b≠TO
 b1:b≠i1
 b2:b≠i2
theorem ZB.za {z TI TO i1 i2 a b:Addr}(D:ZB z TI TO i1 i2 a b):ZA z TI TO i1 i2 [i1,a] [i2,b] where
 TIz:=D.TIz
 TOz:=D.TOz
 TITO:=D.TITO
 z1:=by simp[D.i1z.symm,D.az.symm]
 z2:=by simp[D.i2z.symm,D.bz.symm]
 TI1:=D.TI1
 TI2:=D.TI2
 TO1:=by simp[D.TO1,D.aTO.symm]
 TO2:=by simp[D.TO2,D.bTO.symm]
 m1:=by simp
 m2:=by simp
 n1:=by simp[D.i12,D.b1.symm]
 n2:=by simp[D.i12.symm,D.a2.symm]
theorem Znz (h1:a<n)(h2:b<n):ZB (n+4) (n+2) (n+3) n (n+1) a b:=by
 have f:∀i j:Nat,i≠j->n+i≠n+j:=λi j h e=>h (Nat.add_left_cancel e);have g:∀i:Nat,a≠n+i:=λi e=>absurd h1 (by rw[e];exact Nat.not_lt.mpr (Vm _ _));have I:∀i:Nat,b≠n+i:=λi e=>absurd h2 (by rw[e];exact Nat.not_lt.mpr (Vm _ _));exact⟨f 2 4 (by decide),f 3 4 (by decide),f 2 3 (by decide),f 0 4 (by decide),f 1 4 (by decide),f 2 0 (by decide),f 2 1 (by decide),f 3 0 (by decide),f 3 1 (by decide),f 0 1 (by decide),g 4,g 3,g 0,g 1,I 4,I 3,I 0,I 1⟩
section
variable {X:Cx}
end
theorem Zpr {prog:Program}{w:World}{A:Around}{E:Value->Shared->Prop}{s:Shared}{t sl:Addr}{items:Array Value}{vl vu:Value}{lo hi:Option Int}{Q:Value->Shared->Prop}(ht:IsTup s.heap t items)(hs:s.heap.IsSliceOf sl vl vu .none)(pl:IsPart vl lo)(pu:IsPart vu hi)
  (hw:HT.sIx items.size 0 lo=0/\HT.sIx items.size items.size hi=items.size) (h:Q (.ref t) s):wpAny (model prog w) A (getItem (.ref t) (.ref sl)) Q E s:=by
 obtain⟨os,U,O,Z⟩:=id hs;have Y:s.TypeIs (.ref sl) "slice":=⟨os,U,O⟩;unfold getItem
 try with_reducible refine Q6 ?_
 first|refine Pi (Pk ?_)|skip
 refine Pi (wpAny_sequenceKey ht.typeIs (by decide) ?_);refine Pi (Rg (name:=Qv "__getitem__") ht.typeIs Ta
  (Rk Ta ht.typeIs PyProof.Rows.entry_tuple_getitem ?_ (PyProof.Rows.args_tuple_getitem _ _)))
 show wpAny _ _ (Builtin.Tuple.tupleItemsOf (.ref t) >>= _) _ _ s;refine Pi (PyProof.Rows.tupleItemsOf_ ht ?_);refine Pi (Ts Y ?_);rw[if_pos (by decide)];refine Pi (HT.sliceApplied_gen hs pl pu ?_);have I:(((HT.sIx items.size 0 lo:Nat):Int) == 0 && (1:Int) == 1 && (HT.sIx items.size items.size hi-HT.sIx items.size 0 lo) == items.size)=true:=by
  rw[hw.1,hw.2];simp
 show wpAny _ _ (if (((HT.sIx items.size 0 lo:Nat):Int) == 0 && (1:Int) == 1 && (HT.sIx items.size items.size hi-HT.sIx items.size 0 lo) == items.size)=true then _ else _) _ _ s;rw[if_pos I];refine Pi (m:=Builtin.Tuple.tupleIsExact (.ref t)) ?_;unfold Builtin.Tuple.tupleIsExact;refine Pi (Ts ht.typeIs (Pk ?_));rw[if_pos (by decide)];refine Pi (Tu ?_);exact Pk ⟨_,rfl,Pk h⟩
def rSlU (K:Ph):V->Option Int->Option Int->Hp->VK->Prop:=λx lo hi H Q=>eX2 λa xs=>x=.ref a/\SqT K H a xs/\∀r H',Same H H'->SqT K H' r (Bf xs lo hi)->Q (.ref r) H'
theorem Zqd:SlR X (rSlU X.K):=by
 intro pins s σ H x v vl vu lo hi sl Q I rx hs pl pu h;obtain⟨a,xs,rfl,Z,q⟩:=h;by_cases U:HT.sIx xs.length 0 lo=0/\HT.sIx xs.length xs.length hi=xs.length
 ·cases rx;obtain⟨Y,r,ht,hz⟩:=I.tuple Z;have O:Y.toArray.size=xs.length:=by rw[Pm];exact r.length.symm
  refine⟨"tuple",_,Ta.lookup,ht.typeIs,?_⟩;refine Zpr ht hs pl pu (by rw[O];exact U) ⟨.ref a,H,I,rfl,q a H (Same.refl H) ?_⟩;have e:Bf xs lo hi=xs:=by unfold Bf;rw[U.1,U.2];simp
  rw[e];exact Z
 ·exact Zg2 pins s σ H _ v vl vu lo hi sl Q I rx hs pl pu ⟨a,xs,rfl,Z,U,λp hp=>q p _ (Same.upd hp) (.of Ac)⟩
def rSlB (K:Ph):V->Option Int->Option Int->Hp->VK->Prop:=λx lo hi H Q=>Zb1 K x lo hi H Q\/Zcb x lo hi H Q\/rSlU K x lo hi H Q
theorem Zjf (K:Ph)(hK:autoParam (X.K=K) zX):SlR X (rSlB K):=by subst hK;exact sl_list.or (sl_str.or Zqd)
theorem Zkt {K:Ph}{a:Addr}{xs:List V}{lo hi:Option Int}{H:Hp}{Q:VK}(ha:SqT K H a xs)(h:∀r H',Same H H'->SqT K H' r (Bf xs lo hi)->Q (.ref r) H'):rSlB K (.ref a) lo hi H Q:=.inr (.inr ⟨a,xs,rfl,ha,h⟩)
theorem Zoc (xs:List V)(k:Nat):Bf xs none (some (k:Int))=xs.take k:=by
 unfold Bf;rw[HT.sIx_none,HT.sIx_nat,Ut,List.drop_zero];by_cases h:k<=xs.length
 ·rw[Vs h]
 ·rw[Nat.min_eq_right (by lia),Rs (Pl _),Rs (by lia)]
theorem Zdz (xs:List V)(k:Nat):Bf xs (some (k:Int)) none=xs.drop k:=by
 unfold Bf;rw[HT.sIx_none,HT.sIx_nat];by_cases h:k<=xs.length
 ·rw[Vs h,Rs (by simp)]
 ·rw[Nat.min_eq_right (by lia),Sk (Pl _),Sk (by lia)];simp
structure Mvd (fs xs:List Addr)(h h':Heap):Prop where
 keep:∀b o,b ∉ xs->b ∉ fs->h.get? b=some o->h'.get? b=some o
 slot:∀b o,b ∉ xs->h.get? b=some o->∃sl,h'.get? b=some { o with slots:=sl }
theorem Mvd.trans (a:Mvd fs xs h h1)(b:Mvd fs xs h1 h2):Mvd fs xs h h2 :=
 ⟨λc o n1 n2 e=>b.keep c o n1 n2 (a.keep c o n1 n2 e),λc o n e=>by
  obtain⟨Y,O⟩:=a.slot c o n e;obtain⟨I,U⟩:=b.slot c _ n O;exact⟨I,U⟩⟩
theorem Mvd.mono (a:Mvd fs xs h h1)(s:∀b∈xs,b∈ys):Mvd fs ys h h1 :=
 ⟨λc o n1 n2 e=>a.keep c o (λz=>n1 (s c z)) n2 e,λc o n e=>a.slot c o (λz=>n (s c z)) e⟩
theorem Mvd.upd (f:Obj->Obj):Mvd fs [a] h (h.update a f) :=
 ⟨λc o n _ e=>by rw[Ra _ _ (λz=>n (by simp[z]))];exact e,λc o n e=>⟨o.slots,by rw[Ra _ _ (λz=>n (by simp[z]))];exact e⟩⟩
theorem Mvd.push (o:Obj):Mvd fs xs h (h.push o):=⟨λ_ _ _ _ e=>Po _ e,λ_ o _ e=>⟨o.slots,Po _ e⟩⟩
theorem Mvd.fun (a:Mvd fs xs h h1)(hl:h.FunFrames base l)(nx:∀b∈xs,eX2 λo vs=>h.get? b=some o/\o.data=.fields vs):h1.FunFrames base l :=
 hl.of_keeps λb o e hd=>by
  obtain⟨Y,U⟩:=a.slot b o (λz=>by
   obtain⟨o',vs,I,O⟩:=nx b z;rw[e]at I;cases I;exact hd vs O) e
  exact⟨_,U,rfl⟩
def Nu (h:Heap)(e T:Addr)(cls:Value)(od:Option Addr)(fl:Value):Prop :=
 eX4 λoe vs oT ts=>h.get? e=some oe/\oe.cls=cls/\oe.dict=od/\oe.data=.fields vs/\vs[1]?=some (.ref T)/\T≠e/\h.get? T=some oT/\oT.data=.fields ts/\ts[3]?=some fl/\vs[2]?=some .none
noncomputable abbrev Iv (h:Heap)(e T:Addr)(cls:Value)(od:Option Addr):Prop:=Nu h e T cls od .none
def Oi (h:Heap)(e:Addr)(cls:Value)(od:Option Addr):Prop:=eX2 λoe vs=>h.get? e=some oe/\oe.cls=cls/\oe.dict=od/\oe.data=.fields vs/\vs[1]?=some .none/\vs[2]?=some .none
section
variable {M:Model}{A:Around}{E:Value->Shared->Prop}{s:Shared}
theorem Zfn (hfr:A.frames=some (env::outer))(hl:s.heap.FunFrames base (env::outer))(hf:env.frame=some L)(he:s.heap.get? e=some oe)(hd:oe.data=.fields vs)(hsz:1<vs.size)(hct:vs[2]?=some .none)(h:∀h' T,s.heap.objs.size<=T->Nu h' e T oe.cls oe.dict (rawInt L)->Mvd (B4 (env::outer)) [e] s.heap h'->Q () { s with heap:=h' }) :
  wpAny M A (do let a <- frameOf env;let pl <- entryPlaceOf L hadNext;let b <- EntryCells.newEntry head a .none (rawInt L) .none pl;setField (.ref e) 1 b) Q E s:=by
 have O:e ∉ B4 (env::outer):=λhm=>by
  obtain⟨_,o,ho,aa⟩:=hl.mem hm;rw[he]at ho;cases ho;exact aa vs hd
 refine Pi (wpAny_frameOf_fun hfr hl hf λI Y=>?_);refine Pi (wpAny_entryPlaceOf λpl U=>?_);unfold EntryCells.newEntry newFields;refine Pi (R9 ?_ (U.sizeOk5 _ _ _ _ _));have e1:I.get? e=some oe:=(Y.2.1 e O).trans he;generalize hoT:({ cls:=.type "traceback",dict:=none,data:=.fields ([head,.ref L,.none,rawInt L,.none]++(if pl.isEmpty then Qu 6 Value.none else pl)).toArray }:Obj)=Z;have e2:(I.push Z).get? e=some oe:=Po _ e1;refine Um e2 hd hsz (h _ I.objs.size (by rw[Y.1];exact Pl _) ?_ ?_)
 ·have nT:I.objs.size≠e:=Q1 (Pq e1);have d3:=Ve hd (·.setIfInBounds 1 (Value.ref I.objs.size));have e3:=R7 (Tl (·.setIfInBounds 1 (Value.ref I.objs.size))) e2 (Wg d3);have fT:Z.isFreed=false:=by rw[<- hoT];rfl
  have e4:=(Ra (I.push Z) (Tl (·.setIfInBounds 1 (Value.ref I.objs.size))) (Pw nT)).trans (P3 I fT);refine⟨_,_,_,_,e3,Obj.cls_mapFields _ _,?_,d3,by simp[hsz],nT,e4,by rw[<- hoT],?_⟩
  ·obtain⟨c0,d0,t0,s0⟩:=oe;cases t0 <;> rfl
  ·refine⟨?_,by rw[Array.getElem?_setIfInBounds_ne (by decide)];exact hct⟩
   first|(simp;done)|(rcases U with rfl|⟨_,_,_,_,_,_,_,rfl⟩ <;> simp)
 ·have m1:Mvd (B4 (env::outer)) [e] s.heap I:=⟨λb o _ n e=>(Y.2.1 b n).trans e,λb o _ e=>Y.2.2 b o e⟩;exact(m1.trans (Mvd.push Z)).trans (Mvd.upd _)
theorem Zav (x:Nu s.heap e T cls od fl)(h:∀h',Iv h' e T cls od->Mvd fs [T] s.heap h'->Q () { s with heap:=h' }):wpAny M A (setFlight (.ref e) none) Q E s:=by
 obtain⟨oe,vs,oT,ts,a1,a2,a3,O,I,Y,U,a8,Z⟩:=x;have hz:3<ts.size:=(Uz.mp Z.1).1;unfold setFlight;refine Pi (Px a1 O I ?_);rw[if_pos (show(Value.ref T != Value.none)=true from by simp)];refine Um U a8 hz (h _ ?_ (Mvd.upd _));have d:=Ve a8 (·.setIfInBounds 3 ((none:Option Addr).elim Value.none λf=>rawInt f));exact⟨oe,vs,_,_,by rw[Ra _ _ Y];exact a1,a2,a3,O,I,Y,R7 _ U (Wg d),d,by simp[hz],Z.2⟩
theorem Zwe (hfr:A.frames=some (env::outer))(hl:s.heap.FunFrames base (env::outer))(hf:env.frame=some L)(x:Oi s.heap e cls od)(h:∀h' T,s.heap.objs.size<=T->Nu h' e T cls od (rawInt L)->Mvd (B4 (env::outer)) [e] s.heap h'->Q () { s with heap:=h' }):wpAny M A (noteFrame (.ref e) env) Q E s:=by
 obtain⟨U,vs,O,rfl,rfl,hd,h1,I⟩:=x;unfold noteFrame;simp only[hf];refine Pi (Px O hd h1 ?_);rw[if_neg (by decide)];exact Zfn hfr hl hf O hd (Uz.mp h1).1 I h
theorem Ze4 (hfr:A.frames=some (env::outer))(hl:s.heap.FunFrames base (env::outer))(hf:env.frame=some L)(x:Iv s.heap e T cls od)(h:∀h' T',s.heap.objs.size<=T'->Nu h' e T' cls od (rawInt L)->Mvd (B4 (env::outer)) [e,T] s.heap h'->Q () { s with heap:=h' }):wpAny M A (noteFrame (.ref e) env) Q E s:=by
 obtain⟨oe,vs,oT,ts,Y,rfl,rfl,hd,h1,nT,I,dT,Z,U⟩:=x;unfold noteFrame;simp only[hf];refine Pi (Px Y hd h1 ?_);rw[if_pos (show(Value.ref T != Value.none)=true from by simp)];refine Pi (Px I dT Z ?_);rw[if_neg (show ¬((Value.none == rawInt L)=true) from by simp[rawInt])];refine Pi (Um I dT (Uz.mp Z).1 ?_);have m1:Mvd (B4 (env::outer)) [T] s.heap (s.heap.update T (Tl (·.setIfInBounds 3 Value.none))):=Mvd.upd _;have O:(s.heap.update T (Tl (·.setIfInBounds 3 Value.none))).get? e=some oe:=(Ra _ _ nT).trans Y;refine Zfn hfr (m1.fun hl λb hb=>by rw[P7.mp hb];exact⟨oT,ts,I,dT⟩) hf O hd (Uz.mp h1).1 U λh' T' hz x m=>?_;refine h h' T' ?_ x ((m1.mono (by simp)).trans (m.mono (by simp)));have:(s.heap.update T (Tl (·.setIfInBounds 3 Value.none))).objs.size=s.heap.objs.size:=Heap.size_after_update ..;have hz:(s.heap.update T (Tl (·.setIfInBounds 3 Value.none))).objs.size<=T':=hz;lia
theorem Zmv (hfr:A.frames=some (env::outer))(hl:s.heap.FunFrames base (env::outer))(hf:env.frame=some L)(x:Oi s.heap e cls od)(h:∀h' T,s.heap.objs.size<=T->Iv h' e T cls od->Mvd (B4 (env::outer)) [e,T] s.heap h'->Q () { s with heap:=h' }):wpAny M A (leaving env (.ref e)) Q E s:=by
 unfold leaving;refine Pi (Zwe hfr hl hf x λh1 T I y m=>?_);refine Zav (fs:=B4 (env::outer)) y λh2 y2 m2=>h h2 T I y2 ((m.mono (by simp)).trans (m2.mono (by simp)))
theorem Zr5 (hfr:A.frames=some (env::outer))(hl:s.heap.FunFrames base (env::outer))(hf:env.frame=some L)(x:Iv s.heap e T cls od)(h:∀h' T',s.heap.objs.size<=T'->Iv h' e T' cls od->Mvd (B4 (env::outer)) [e,T,T'] s.heap h'->Q () { s with heap:=h' }):wpAny M A (leaving env (.ref e)) Q E s:=by
 unfold leaving;refine Pi (Ze4 hfr hl hf x λh1 T' I y m=>?_);refine Zav (fs:=B4 (env::outer)) y λh2 y2 m2=>h h2 T' I y2 ((m.mono (by simp)).trans (m2.mono (by simp)))
end
theorem Zcw {X:Cx}{st:Stmt}:QS X st (λ_ _ _=>False):=⟨λ_ _ _ _ _ _ h=>h.elim⟩
def Km (h:Heap)(z TI TO i1 i2:Addr):Prop:=eX3 λ(a:Addr)(oa:Obj)(f1:Value)=>h.get? z=some { cls:=.type "zip",dict:=none,data:=.fields #[rawInt a,f1,.bool false,.ref TI,.ref TO],slots:=#[] }/\h.get? a=some oa/\a≠z/\a≠i1/\a≠i2
section
variable {prog:Program}{w:World}{A:Around}{E:Value->Shared->Prop}{s:Shared}{z TI TO i1 i2:Addr}{fp1 fp2:List Addr}{n1 n2 i:Nat}{P1 P2:Nat->Value->Prop}{St1 St2:Nat->Heap->Prop}{a b:Value}
theorem Zfy (hz:Km s.heap z TI TO i1 i2)(h:∀h',Km h' z TI TO i1 i2->P4 z s.heap h'->Q false { s with heap:=h' }):wpAny (model prog w) A (Rf (.ref z)) Q E s:=by
 obtain⟨a,Z,U,e,ea,Y,n1,n2⟩:=hz;unfold Rf;refine Pi (Px e rfl (x:=rawInt a) rfl ?_);show wpAny _ _ (loadIfAlive ((a:Int).toNat) >>= _) _ _ s;refine Pi (Zfe ?_);rw[Qx,ea];rw[if_neg (by simp)];refine Pi (Px e rfl (x:=U) rfl ?_);by_cases hf:(U != Value.bool true)=true
 ·simp only[hf,if_true];refine Pi (Rj e (by simp) λI e5 O=>?_);replace O:P4 z s.heap I:=O;exact Pk (h I ⟨a,Z,.bool true,e5,O.extBut a Z Y ea,Y,n1,n2⟩ O)
 ·simp only[hf];exact Pk (h s.heap ⟨a,Z,U,e,ea,Y,n1,n2⟩ (P4.refl ..))
theorem Zrx {Q:Value->Shared->Prop}(D1:Draws prog w A i1 fp1 n1 P1 St1)(D2:Draws prog w A i2 fp2 n2 P2 St2)(D:ZA z TI TO i1 i2 fp1 fp2)(hz:Km s.heap z TI TO i1 i2)(hTI:IsPair s.heap TI (.ref i1) (.ref i2))
  (st1:St1 i s.heap) (st2:St2 i s.heap) (l1:i<n1) (l2:i<n2)
  (hQ:∀x y h' tk,P1 i x->P2 i y->Km h' z TI TO i1 i2->St1 (i+1) h'->St2 (i+1) h'->IsPair h' s.heap.objs.size x y->h'.objs.size=s.heap.objs.size+1 ->
   (∀c o,c≠z->c≠i1->c≠i2->s.heap.get? c=some o->h'.get? c=some o)->Q (.ref s.heap.objs.size) { s with heap:=h',toks:=tk }) :
  wpAny (model prog w) A (Builtin.«zip.__next__» ⟨[.ref z],[]⟩) (λfin s'=>∃v,fin=.done (.ret v)/\Q v s') E s:=by
 obtain⟨a0,ah,ai,e0,_⟩:=id hz;show wpAny _ _ (field (.ref z) 2 >>= _) _ _ s;refine Pi (Px e0 rfl (x:=Value.bool false) rfl ?_);show wpAny _ _ (field (.ref z) 3 >>= _) _ _ s;refine Pi (Px e0 rfl (x:=Value.ref TI) rfl (Pi (Rc hTI rfl ?_)));show wpAny _ _ (Rf (.ref z) >>= _) _ _ s;refine Pi (Zfy hz λaa Z e1=>?_);simp only[Uf,if_false];refine Pi ?_;simp only[List.forIn_toArray,Uj,Vw];refine Pi (Pi (Q6 ?_));show wpAny _ _ (Q2 (.ref i1) >>= _) _ _ _;refine Pi (D1.item i _ _ _ l1 (Di D1 st1 e1 D.z1) λx O af px ad e2=>Pk (Pk ?_));replace e2:P4 i1 aa O:=e2;refine Pi (Pi (Q6 ?_));show wpAny _ _ (Q2 (.ref i2) >>= _) _ _ _;have ag:St2 i O:=Di D2 (Di D2 st2 e1 D.z2) e2 D.n1;refine Pi (D2.item i _ _ _ l2 ag λy I U py ac Y=>Pk (Pk (Pk ?_)));replace Y:P4 i2 O I:=Y;show wpAny _ _ (newTuple [x,y] >>= _) _ _ _;refine Pi (wpAny_newTuple (Pk ⟨_,rfl,?_⟩));have sz:I.objs.size=s.heap.objs.size:=by rw[Y.1,e2.1,e1.1]
 show Q (.ref I.objs.size) { s with heap:=I.push { cls:=.type "tuple",data:=.seq #[x,y] },toks:=U };have up:∀c o,I.get? c=some o->(I.push { cls:=.type "tuple",data:=.seq #[x,y] }).get? c=some o:=λc o e=>Po _ e;have k4:∀c o,c≠z->c≠i1->c≠i2->s.heap.get? c=some o->I.get? c=some o:=λc o c1 c3 c4 e=>Y.extBut _ _ c4 (e2.extBut _ _ c3 (e1.extBut _ _ c1 e));have t8:IsPair (I.push { cls:=.type "tuple",data:=.seq #[x,y] }) I.objs.size x y:=P3 _ rfl;rw[sz]at t8;rw[sz];obtain⟨a1,ae,f1,g1,g2,g3,g4,g5⟩:=Z;refine hQ x y _ U px py ⟨a1,ae,f1,up _ _ (Y.extBut _ _ D.i2z.symm (e2.extBut _ _ D.i1z.symm g1)),up _ _ (Y.extBut _ _ g5 (e2.extBut _ _ g4 g2)),g3,g4,g5⟩ ?_ ?_ t8 (by rw[Qt,sz]) λc o c1 c3 c4 e=>up c o (k4 c o c1 c3 c4 e)
 ·exact D1.frame _ _ _ (Di D1 ad Y D.n2) λc _ o e=>up c o e
 ·exact D2.frame _ _ _ ac λc _ o e=>up c o e
theorem Zuh (D1:Draws prog w A i1 fp1 n1 P1 St1)(D2:Draws prog w A i2 fp2 n2 P2 St2)(D:ZA z TI TO i1 i2 fp1 fp2)(hz:Km s.heap z TI TO i1 i2)(hTI:IsPair s.heap TI (.ref i1) (.ref i2))(st1:St1 i s.heap)(st2:St2 i s.heap)(hend:i=n1\/(i<n1/\i=n2))(hE:∀h' e tk,(∀c o,c≠z->c≠i1->c≠i2->s.heap.get? c=some o->h'.get? c=some o)->(∃o,h'.get? e=some o/\o.cls=.type "StopIteration")->E (.ref e) { s with heap:=h',toks:=tk }) :
  wpAny (model prog w) A (Builtin.«zip.__next__» ⟨[.ref z],[]⟩) Q E s:=by
 obtain⟨a0,ad,ae,e0,_⟩:=id hz;show wpAny _ _ (field (.ref z) 2 >>= _) _ _ s;refine Pi (Px e0 rfl (x:=Value.bool false) rfl ?_);show wpAny _ _ (field (.ref z) 3 >>= _) _ _ s;refine Pi (Px e0 rfl (x:=Value.ref TI) rfl (Pi (Rc hTI rfl ?_)));show wpAny _ _ (Rf (.ref z) >>= _) _ _ s;refine Pi (Zfy hz λU aa e1=>?_);simp only[Uf,if_false];refine Pi ?_;simp only[List.forIn_toArray,Uj,Vw];refine Pi (Pi (Q6 ?_));show wpAny _ _ (Q2 (.ref i1) >>= _) _ _ _;rcases hend with rfl|⟨l1,rfl⟩
 ·refine Pi (D1.done _ _ _ (Di D1 st1 e1 D.z1) λI e Y he=>?_);replace Y:Tt i1 U I:=Y;exact hE I e s.toks (λc o c1 c3 _ x=>Y _ _ c3 (e1.extBut _ _ c1 x)) he
 ·refine Pi (D1.item i _ _ _ l1 (Di D1 st1 e1 D.z1) λx I Z px af Y=>Pk (Pk ?_));replace Y:P4 i1 U I:=Y;refine Pi (Pi (Q6 ?_));show wpAny _ _ (Q2 (.ref i2) >>= _) _ _ _;have ac:St2 i I:=Di D2 (Di D2 st2 e1 D.z2) Y D.n1;refine Pi (D2.done _ _ _ ac λO e e4 he=>?_);replace e4:Tt i2 I O:=e4;exact hE O e Z (λc o c1 c3 c4 x=>e4 _ _ c4 (Y.extBut _ _ c3 (e1.extBut _ _ c1 x))) he
def ZpSt (h:Heap)(z TI TO i1 i2:Addr)(i:Nat):Prop:=(i=0/\IsZip h z TI TO .none/\eX2 λu v=>IsPair h TO u v)\/(0<i/\Km h z TI TO i1 i2)
theorem ZpSt.obj (x:ZpSt h z TI TO i1 i2 i):∃vs,h.get? z=some { cls:=.type "zip",dict:=none,data:=.fields vs,slots:=#[] }:=by
 rcases x with⟨_,x,_⟩|⟨_,_,_,_,x,_⟩
 ·exact⟨_,x⟩
 ·exact⟨_,x⟩
theorem Zpj (D1:Draws prog w A.in1 i1 fp1 n1 P1 St1)(D2:Draws prog w A.in1 i2 fp2 n2 P2 St2)(D:ZA z TI TO i1 i2 fp1 fp2)(hz:ZpSt s.heap z TI TO i1 i2 i)(hTI:IsPair s.heap TI (.ref i1) (.ref i2))(eTO:∃o,s.heap.get? TO=some o)(st1:St1 i s.heap)(st2:St2 i s.heap)(l1:i<n1)(l2:i<n2)(hQ:∀x y h' tk,P1 i x->P2 i y->ZpSt h' z TI TO i1 i2 (i+1)->(∃o,h'.get? TO=some o)->St1 (i+1) h'->St2 (i+1) h'->IsPair h' s.heap.objs.size x y->h'.objs.size=s.heap.objs.size+1 ->
   (∀c o,c≠z->c≠TO->c≠i1->c≠i2->s.heap.get? c=some o->h'.get? c=some o)->Q (some (.ref s.heap.objs.size)) { s with heap:=h',toks:=tk }) :
  wpAny (model prog w) A (pyNext (.ref z)) Q E s:=by
 obtain⟨vs,ho⟩:=hz.obj;have hT:s.TypeIs (.ref z) "zip":=⟨_,ho,rfl⟩;have zl:z<s.heap.objs.size:=Pq ho;have Z:i1<s.heap.objs.size:=by obtain⟨_,y⟩:=D1.live _ _ st1;exact Pq y
 have ac:i2<s.heap.objs.size:=by obtain⟨_,y⟩:=D2.live _ _ st2;exact Pq y
 rcases hz with⟨rfl,hz,u,v,aa⟩|⟨hi,hz⟩
 ·exact Zmy D1 D2 D hz hTI aa st1 st2 l1 l2 λx y h' tk a1 a2 a3 Y U a6 I O a9=>hQ x y h' tk a1 a2 (.inr ⟨Us _,_,_,_,a3,I,Q1 zl,Q1 Z,Q1 ac⟩) ⟨_,Y⟩ U a6 I O a9
 ·unfold pyNext;exact Pi (Tk (Rg (name:=Qv "__next__") hT R8
   (Rk R8 hT Va (Zrx D1 D2 D hz hTI st1 st2 l1 l2 λx y h' tk a1 a2 a3 Y U a6 I O=>Pk (hQ x y h' tk a1 a2 (.inr ⟨Us _,a3⟩) (let ⟨o,e⟩:=eTO;⟨o,O _ o D.TOz D.TOi1 D.TOi2 e⟩) Y U a6 I λc o c1 _ c3 c4 e=>O c o c1 c3 c4 e)) (U7 _))))
theorem Ztw (D1:Draws prog w A.in1 i1 fp1 n1 P1 St1)(D2:Draws prog w A.in1 i2 fp2 n2 P2 St2)(D:ZA z TI TO i1 i2 fp1 fp2)(hz:ZpSt s.heap z TI TO i1 i2 i)(hTI:IsPair s.heap TI (.ref i1) (.ref i2))(st1:St1 i s.heap)(st2:St2 i s.heap)(hend:i=n1\/(i<n1/\i=n2))(hQ:∀h' tk,(∀c o,c≠z->c≠TO->c≠i1->c≠i2->s.heap.get? c=some o->h'.get? c=some o)->Q none { s with heap:=h',toks:=tk }):wpAny (model prog w) A (pyNext (.ref z)) Q E s:=by
 obtain⟨vs,I⟩:=hz.obj;have U:s.TypeIs (.ref z) "zip":=⟨_,I,rfl⟩;rcases hz with⟨rfl,hz,u,v,O⟩|⟨hi,hz⟩
 ·exact Zwm D1 D2 D hz hTI O st1 st2 hend hQ
 ·unfold pyNext;refine Pi (Tk (Rg (name:=Qv "__next__") U R8
   (Rk R8 U Va (Zuh D1 D2 D hz hTI st1 st2 hend λh' e tk hk Z=>?_) (U7 _))))
  obtain⟨o,I,hc⟩:=Z;exact Pi (Ww (T:="StopIteration") (b:=true) ⟨o,I,hc⟩ isSubtype_stop (Pk (hQ _ _ λc o c1 _ Y c4 e=>hk c o c1 Y c4 e)))
end
noncomputable abbrev itZ (b:Bool)(l:Addr):Obj:={ cls:=.type (cond b "tuple_iterator" "list_iterator"),data:=.fields #[.ref l,.int 0 0] }
def ZIt (b:Bool)(h:Heap)(a l:Addr)(i:Nat):Prop:=∃o,h.get? a=some o/\o.cls=.type (cond b "tuple_iterator" "list_iterator")/\o.data=.fields #[.ref l,.int i 0]
theorem ZIt.at (x:ZIt b h a l i)(k:∀o,h.get? a=some o->h'.get? a=some o):ZIt b h' a l i:=let ⟨o,e,r⟩:=x;⟨o,k o e,r⟩
def ZIn (b:Bool)(h:Heap)(a:Addr)(xs:Array Value):Prop:=cond b (h.IsTuple a xs) (h.IsList a xs)
def Ht (b:Bool)(K:Ph)(H:Hp)(a:Addr)(xs:List V):Prop:=cond b (SqT K H a xs) (SqL K H a xs)
theorem ZIn.lt (x:ZIn b h a xs):a<h.objs.size:=by
 cases b <;> exact let ⟨_,e,_⟩:=id x;Pq e
theorem ZIn.push (x:ZIn b h a xs)(o:Obj):ZIn b (h.push o) a xs:=by
 cases b
 ·exact Heap.IsList.push x _
 ·obtain⟨o,e,r⟩:=id x;exact⟨o,Po _ e,r⟩
theorem Same.sqZ {b:Bool}{K:Ph}{H H':Hp}{a:Addr}{xs:List V}(m:Same H H')(x:Ht b K H a xs):Ht b K H' a xs:=by
 cases b
 ·exact m.seq x
 ·exact m.tup x
theorem Inv.zin (I:Inv X pins σ H s)(x:Ht b X.K H a xs):∃its,Vals xs its/\ZIn b s.heap a its.toArray:=by
 cases b
 ·obtain⟨its,O,pl,U⟩:=I.list x;exact⟨its,O,pl.isList⟩
 ·obtain⟨its,O,pl,U⟩:=I.tuple x;exact⟨its,O,pl⟩
theorem Inv.zsz (I:Inv X pins σ H s)(x:Ht b X.K H a xs):xs.length<=sizeLine:=by
 cases b
 ·obtain⟨U,O,pl,Y⟩:=I.list x;have:=O.length;lia
 ·obtain⟨U,O,pl,Y⟩:=I.tuple x;have:=O.length;lia
theorem Pg (b:Bool)(hh:A.handled=none)(it l:Addr)(hne:l≠it)(items:Array Value) :
  Draws prog w A it [it,l] items.size (λi v=>items[i]?=some v) (λi h=>ZIt b h it l i/\ZIn b h l items):=by
 cases b
 ·exact Draws.list hh it l hne items
 ·exact Zbk hh it l hne items
theorem Zgx (q:ZIn b s.heap a xs)(h:Q (.ref s.heap.objs.size) { s with heap:=s.heap.push (itZ b a) }):wpAny (model prog w) A (pyIter (.ref a)) Q E s:=by
 cases b
 ·exact Vi q h
 ·exact Ue q h
noncomputable abbrev zl1 (b:Bool)(h:Heap)(l1:Addr):Heap:=h.push (itZ b l1)
noncomputable abbrev zl2 (b gg:Bool)(h:Heap)(l1 l2:Addr):Heap:=(zl1 b h l1).push (itZ gg l2)
noncomputable abbrev zl3 (b gg:Bool)(h:Heap)(l1 l2:Addr):Heap:=(zl2 b gg h l1 l2).push { cls:=.type "tuple",data:=.seq #[.ref h.objs.size,.ref (zl1 b h l1).objs.size] }
noncomputable abbrev zl4 (b gg:Bool)(h:Heap)(l1 l2:Addr):Heap:=(zl3 b gg h l1 l2).push { cls:=.type "tuple",data:=.seq #[.none,.none] }
noncomputable abbrev Ei (b gg:Bool)(h:Heap)(l1 l2:Addr):Heap:=(zl4 b gg h l1 l2).push { cls:=.type "zip",data:=.fields #[.none,.bool false,.bool false,.ref (zl2 b gg h l1 l2).objs.size,.ref (zl3 b gg h l1 l2).objs.size] }
theorem Zm4 (b gg:Bool)(l1 l2:Addr)(xs ys:Array Value) :
  Meets (Builtin.«zip.__new__» ⟨[.type "zip",.ref l1,.ref l2],[]⟩) (λ_ R s=>ZIn b s.heap l1 xs/\ZIn gg s.heap l2 ys/\R (.ok (.ret (.ref (zl4 b gg s.heap l1 l2).objs.size))) { s with heap:=Ei b gg s.heap l1 l2 }) :=
 .of_wp λprog w A R s h=>by
  obtain⟨hp,g,d,tk,os⟩:=s;obtain⟨O,I,h⟩:=h;have U:=sub_zip;have Z:ZIn b (Shared.heap ⟨hp,g,d,tk,os⟩) l1 xs:=O;have Y:ZIn gg (Shared.heap ⟨hp.push (itZ b l1),g,d,tk,os⟩) l2 ys:=I.push _
  wp_walk using Zgx Z,Zgx Y
  exact⟨_,rfl,h⟩
theorem Zwo (hl1:ZIn b s.heap l1 xs)(hl2:ZIn gg s.heap l2 ys)(h:∀h',IsZip h' (s.heap.objs.size+4) (s.heap.objs.size+2) (s.heap.objs.size+3) .none->IsPair h' (s.heap.objs.size+2) (.ref s.heap.objs.size) (.ref (s.heap.objs.size+1)) ->
   IsPair h' (s.heap.objs.size+3) .none .none->ZIt b h' s.heap.objs.size l1 0->ZIt gg h' (s.heap.objs.size+1) l2 0->h'.objs.size=s.heap.objs.size+5 ->
   (∀c o,s.heap.get? c=some o->h'.get? c=some o)->Q (.ref (s.heap.objs.size+4)) { s with heap:=h' }) :
  wpAny (model prog w) A (call (.type "zip") [.ref l1,.ref l2]) Q E s:=by
 refine callType_new PySem.F.called_zip (by decide) (PySem.F.typeCall_zip_2 _ _) (PySem.F.newCall_zip_2 _ _) (λobj=>PySem.F.args_object_init_3 obj _ _) PySem.F.entry_zip_new (Zm4 b gg l1 l2 xs ys) ⟨hl1,hl2,?_⟩;have y1:(zl1 b s.heap l1).objs.size=s.heap.objs.size+1:=Qt ..;have y2:(zl2 b gg s.heap l1 l2).objs.size=s.heap.objs.size+2:=by rw[Qt,y1]
 have y3:(zl3 b gg s.heap l1 l2).objs.size=s.heap.objs.size+3:=by rw[Qt,y2]
 have y4:(zl4 b gg s.heap l1 l2).objs.size=s.heap.objs.size+4:=by rw[Qt,y3]
 have y5:(Ei b gg s.heap l1 l2).objs.size=s.heap.objs.size+5:=by rw[Qt,y4]
 have I:(Ei b gg s.heap l1 l2).get? (zl4 b gg s.heap l1 l2).objs.size=some _:=P3 _ rfl;have Y:(Ei b gg s.heap l1 l2).get? (zl3 b gg s.heap l1 l2).objs.size=some _:=Po _ (P3 _ rfl);have O:(Ei b gg s.heap l1 l2).get? (zl2 b gg s.heap l1 l2).objs.size=some _:=Po _ (Po _ (P3 _ rfl));have U:(Ei b gg s.heap l1 l2).get? (zl1 b s.heap l1).objs.size=some _:=Po _ (Po _ (Po _ (P3 _ rfl)));have u1:(Ei b gg s.heap l1 l2).get? s.heap.objs.size=some _:=Po _ (Po _ (Po _ (Po _ (P3 _ rfl))));show _/\_;rw[y2,y3,y4]at I;rw[y1,y2]at O;rw[y3]at Y;rw[y1]at U;rw[y4];exact⟨⟨_,I,rfl⟩,h _ I O Y ⟨_,u1,rfl,rfl⟩ ⟨_,U,rfl,rfl⟩ y5 λc o x=>Po _ (Po _ (Po _ (Po _ (Po _ x))))⟩
def Za8 (H:Hp)(xs ys zs:List V):Prop:=∀(j:Nat)(z:V),zs[j]?=some z->eX3 λ(t:Addr)(x y:V)=>z=V.ref t/\xs[j]?=some x/\ys[j]?=some y/\H t=some (.tup [x,y])
def JZp (f gg:Bool)(K:Ph)(H0:Hp)(z TI TO i1 i2 a b:Addr)(xs ys:List V):Nat->List V->Hp->Heap->Prop:=λi zs H h =>
 ZpSt h z TI TO i1 i2 i/\(IsPair h TI (.ref i1) (.ref i2)/\∃o,h.get? TO=some o)/\ZIt f h i1 a i/\ZIt gg h i2 b i/\(∀c∈[z,TI,TO,i1,i2],H c=none)/\zs.length=i/\Za8 H xs ys zs/\Same H0 H
theorem Zwg:typeLookup (.type "zip") "__len__"=pure none:=by rw[Uk,Tx];kernel_rfl
theorem Zqr:typeLookup (.type "zip") "__length_hint__"=pure none:=by rw[Uk,Tx];kernel_rfl
theorem Zrj {f gg:Bool}{X:Cx}{pins:List (Addr×Obj)}{σ:St}{H0:Hp}{z TI TO i1 i2 a b:Addr}{xs ys:List V}(fp:∀c∈[z,TI,TO,i1,i2],FpOk X pins H0 c)(D:ZB z TI TO i1 i2 a b)(ha:Ht f X.K H0 a xs)(hb:Ht gg X.K H0 b ys) :
  Src X pins σ z "zip" (min xs.length ys.length) H0 (JZp f gg X.K H0 z TI TO i1 i2 a b xs ys) where
 ty:=λi zs H h j=>by
  obtain⟨vs,e⟩:=j.1.obj;exact⟨_,e,rfl⟩
 nl:=by decide
 hint:=⟨_,λA s Q E hT h=>Zgu hT Zwg Zqr h⟩
 self:=λA s zs H Q E j q=>by
  rcases j.1 with⟨_,e,_⟩|⟨z,_⟩
  ·exact wpAny_pyIter_zip e q
  ·exact absurd z (Q5 _)
 keep:=λi zs H h h' S us aj h0 hS j k al=>by
  obtain⟨j1,⟨j2,jT⟩,j3,j4,j5,j6,j7,j8⟩:=j;have ne:∀c∈[z,TI,TO,i1,i2],c≠S:=λc O e=>by
   have:=j5 c O;rw[e,hS]at this;cases this
  refine⟨?_,⟨k _ _ (ne TI (by simp)) j2,let ⟨o,e⟩:=jT;⟨o,k _ _ (ne TO (by simp)) e⟩⟩,j3.at λo e=>k _ _ (ne i1 (by simp)) e,j4.at λo e=>k _ _ (ne i2 (by simp)) e,λc O=>by rw[Af (ne c O)];exact j5 c O,j6,λm y hy=>?_,j8.over h0⟩
  ·rcases j1 with⟨z0,e,u,v,e2⟩|⟨z0,a0,oa,f1,e,ea,x1,x2,x3⟩
   ·exact .inl ⟨z0,k _ _ (ne z (by simp)) e,u,v,k _ _ (ne TO (by simp)) e2⟩
   ·by_cases hs:a0=S
    ·subst hs;obtain⟨o,eo⟩:=al;exact .inr ⟨z0,a0,o,f1,k _ _ (ne z (by simp)) e,eo,x1,x2,x3⟩
    ·exact .inr ⟨z0,a0,oa,f1,k _ _ (ne z (by simp)) e,k _ _ hs ea,x1,x2,x3⟩
  ·obtain⟨t,x,y',e1,e2,e3,e4⟩:=j7 m y hy;exact⟨t,x,y',e1,e2,e3,by rw[Af (Ew e4 hS (by intro z;cases z))];exact e4⟩
 fresh:=λi zs H h j=>j.2.2.2.2.1 z (by simp)
 item:=λA i s H zs E hh hi I j=>by
  obtain⟨j1,⟨j2,jT⟩,j3,j4,j5,j6,j7,j8⟩:=j;obtain⟨Y,rv,p⟩:=I.zin (j8.sqZ ha);obtain⟨U,Z,p2⟩:=I.zin (j8.sqZ hb);have g1:=rv.length;have g2:=Z.length;have l1:i<xs.length:=by lia
  have l2:i<ys.length:=by lia
  have D1:=Pg (prog:=X.prog) (w:=X.w) (A:=A.in1) f hh i1 a D.a1 Y.toArray;have D2:=Pg (prog:=X.prog) (w:=X.w) (A:=A.in1) gg hh i2 b D.b2 U.toArray;refine Zpj D1 D2 D.za j1 j2 jT ⟨j3,p⟩ ⟨j4,p2⟩ (by rw[Pm];lia) (by rw[Pm];lia) λx y h' tk px py a1 aT a2 a3 a4 a5 a6=>?_;have af:Y[i]?=some x:=by simpa using px
  have ah:U[i]?=some y:=by simpa using py
  obtain⟨u1,ae,ag⟩:=rv.get (Pj l1);obtain⟨u2,ad,ai⟩:=Z.get (Pj l2);rw[af]at ae;cases ae;rw[ah]at ad;cases ad;have hf:H s.heap.objs.size=none:=I.hok.fresh (Pl _);have aa:∀c∈[z,TI,TO,i1,i2],FpOk X pins H c:=λc O=>(fp c O).of (j5 c O);have kk:∀c o,c ∉ [z,TI,TO,i1,i2]->s.heap.get? c=some o->h'.get? c=some o:=λc o O e=>by
   simp only[Pr,Pz,or_false,not_or]at O;exact a6 c o O.1 O.2.2.1 O.2.2.2.1 O.2.2.2.2 e
  have I2:=I.pairL (tk:=tk) (T:=s.heap.objs.size) (xs:=[xs[i],ys[i]]) (its:=[x,y]) aa kk (Pl _) (.cons ag (.cons ai .nil)) (by show 2<=sizeLine;decide) ⟨_,a4,rfl,_,rfl⟩;have sm:Same H (upd H s.heap.objs.size (.tup [xs[i],ys[i]])):=Same.upd hf;have lt:∀{c o},s.heap.get? c=some o->c≠s.heap.objs.size:=λe=>P0 (Pq e);have nw:∀c∈[z,TI,TO,i1,i2],c≠s.heap.objs.size:=λc O=>by
   simp only[Pr,Pz,or_false]at O;rcases O with rfl|rfl|rfl|rfl|rfl
   ·obtain⟨_,e⟩:=j1.obj;exact lt e
   ·exact lt j2
   ·obtain⟨_,e⟩:=jT;exact lt e
   ·obtain⟨_,e,_⟩:=j3;exact lt e
   ·obtain⟨_,e,_⟩:=j4;exact lt e
  refine⟨_,.ref s.heap.objs.size,_,rfl,rfl,I2,⟨a1,⟨a6 _ _ D.TIz D.TITO D.TI1 D.TI2 j2,aT⟩,a2.1,a3.1,λc O=>by rw[Af (nw c O)];exact j5 c O,by simp[j6],λm y hy=>?_,j8.trans sm⟩,λS us e=>sm S _ e⟩;by_cases hm:m<i
  ·rw[Qj (by lia)]at hy;obtain⟨t,x,y',e1,e2,e3,e4⟩:=j7 m y hy;exact⟨t,x,y',e1,e2,e3,sm _ _ e4⟩
  ·have ac:=(Ps.mp hy).1;rw[Pn,Py]at ac;have:m=i:=by lia
   subst this;rw[Qr (by lia),j6,Q7]at hy;have hy:V.ref s.heap.objs.size=y:=by simpa using hy
   exact⟨_,xs[m],ys[m],hy.symm,Pj l1,Pj l2,Ac⟩
 done:=λA s H zs E hh I j=>by
  obtain⟨j1,⟨j2,jT⟩,j3,j4,j5,j6,j7,j8⟩:=j;obtain⟨Y,rv,p⟩:=I.zin (j8.sqZ ha);obtain⟨U,Z,p2⟩:=I.zin (j8.sqZ hb);have g1:=rv.length;have g2:=Z.length;have D1:=Pg (prog:=X.prog) (w:=X.w) (A:=A.in1) f hh i1 a D.a1 Y.toArray;have D2:=Pg (prog:=X.prog) (w:=X.w) (A:=A.in1) gg hh i2 b D.b2 U.toArray;have aa:∀c∈[z,TI,TO,i1,i2],FpOk X pins H c:=λc O=>(fp c O).of (j5 c O);refine Ztw D1 D2 D.za j1 j2 ⟨j3,p⟩ ⟨j4,p2⟩ (by simp only[Pm];lia) λh' tk kk=>⟨rfl,I.turnedL (λc o O e=>?_) aa⟩;simp only[Pr,Pz,or_false,not_or]at O;exact kk c o O.1 O.2.2.1 O.2.2.2.1 O.2.2.2.2 e
section
variable {X:Cx}
def Zdg (f gg:Bool)(K:Ph)(ta:TA):TE:=λσ H Q=>ta σ H λvs H1=>eX4 λa b xs ys=>vs=[.ref a,.ref b]/\Ht f K H1 a xs/\Ht gg K H1 b ys /\
 ∀(S:Addr)(zs:List V)(H2:Hp),H1 S=none->Same H1 H2->zs.length=min xs.length ys.length->Za8 H2 xs ys zs->H2 S=some (.lst zs)->Q (.ref S) H2
theorem Zj3 (f gg:Bool)(K:Ph)(hg:Gl X "list")(hm:X.mg "list"=none)(hg2:Gl X "zip")(hm2:X.mg "zip"=none)(ha:QA X [e,e2] ta)(hK:autoParam (X.K=K) zX)(hc:autoParam (X.calm=true) zX)(hs:autoParam (starEach [.Call (.Name "zip" p2) [e,e2] [] pos2] X.env=[(false,eval (.Call (.Name "zip" p2) [e,e2] [] pos2) X.env)]) zX)(hs2:autoParam (starEach [e,e2] X.env=[(false,eval e X.env),(false,eval e2 X.env)]) zX)(hs3:autoParam (starEach [e2] X.env=[(false,eval e2 X.env)]) zX) :
  QE X (.Call (.Name "list" p) [.Call (.Name "zip" p2) [e,e2] [] pos2] [] pos) (Zdg f gg K ta):=by
 subst hK;refine⟨λpins s σ H Q I h=>?_⟩;refine Call_ (G4 I hg hm Zg6 (Sh ?_ hs rfl));rw[hs];show wpAny _ _ (spliced ((false,eval (.Call (.Name "zip" p2) [e,e2] [] pos2) X.env)::[])) _ _ s;refine Wm ?_;refine Call_ (G4 I hg2 hm2 PyProof.Rows.boot_zip (Sh (As (ha.run pos2 pins s σ H _ I h) λus O ⟨vs,H1,U,r1,q1⟩=>?_) (by rw[hs2,hs3]) (by rw[hs3];rfl)));obtain⟨a,b,xs,ys,e1,hq,Z,q⟩:=q1;subst e1;obtain⟨u,v,rfl,ru,rv⟩:=r1.two;cases ru;cases rv;obtain⟨ah,rv,pl⟩:=U.zin hq;obtain⟨ag,ai,aa⟩:=U.zin Z;have aj:=U.zsz Z;have ae:a<O.heap.objs.size:=pl.lt;have ac:b<O.heap.objs.size:=aa.lt;refine Zwo pl aa λh' a1 a2 a3 a4 a5 a6 hk=>?_;refine Wr ?_;have fr:∀k,FpOk X pins H1 (O.heap.objs.size+k):=λk=>U.fpOk (Vm _ _) (U.hok.fresh (Vm _ _));have fp:∀c∈[O.heap.objs.size+4,O.heap.objs.size+2,O.heap.objs.size+3,O.heap.objs.size,O.heap.objs.size+1],FpOk X pins H1 c:=λc hc=>by
  simp only[Pr,Pz,or_false]at hc;rcases hc with rfl|rfl|rfl|rfl|rfl
  ·exact fr 4
  ·exact fr 2
  ·exact fr 3
  ·exact fr 0
  ·exact fr 1
 have C:=Zrj (X:=X) (pins:=pins) (σ:=σ) (H0:=H1) fp (Znz ae ac) hq Z;have I2:Inv X pins σ H1 { O with heap:=h' }:=U.kept (t':=O.toks) hk;refine Zkg C (by lia) (U.ok.hd hc) I2 ⟨.inl ⟨rfl,a1,_,_,a3⟩,⟨a2,_,a3⟩,a4,a5,λc hc=>(fp c hc).1,rfl,λj y hy=>by simp at hy,Same.refl _⟩ (λS Y hS h2 k2=>?_) λS H' zs hS af ad hj=>?_
 ·have sm:Same H1 (upd H1 S (.lst [])):=Same.upd hS;refine⟨.inl ⟨rfl,k2 _ _ a1,_,_,k2 _ _ a3⟩,⟨k2 _ _ a2,_,k2 _ _ a3⟩,a4.at λo e=>k2 _ _ e,a5.at λo e=>k2 _ _ e,λc hc=>?_,rfl,λj y hy=>by simp at hy,sm⟩;have Y:h'.objs.size<=S:=Y;rw[Af (show c≠S from λz=>?_)]
  ·exact(fp c hc).1
  ·simp only[Pr,Pz,or_false]at hc;rcases hc with rfl|rfl|rfl|rfl|rfl <;> exact absurd z (P0 (P9 (by lia) Y))
 ·obtain⟨h,j⟩:=hj;exact q S zs H' hS j.2.2.2.2.2.2.2 ad j.2.2.2.2.2.2.1 af
noncomputable abbrev Zfp:=Zdg true false
theorem Zv6 (K:Ph)(hg:Gl X "list")(hm:X.mg "list"=none)(hg2:Gl X "zip")(hm2:X.mg "zip"=none)(ha:QA X [e,e2] ta)(hK:autoParam (X.K=K) zX)(hc:autoParam (X.calm=true) zX)(hs:autoParam (starEach [.Call (.Name "zip" p2) [e,e2] [] pos2] X.env=[(false,eval (.Call (.Name "zip" p2) [e,e2] [] pos2) X.env)]) zX)(hs2:autoParam (starEach [e,e2] X.env=[(false,eval e X.env),(false,eval e2 X.env)]) zX)(hs3:autoParam (starEach [e2] X.env=[(false,eval e2 X.env)]) zX) :
  QE X (.Call (.Name "list" p) [.Call (.Name "zip" p2) [e,e2] [] pos2] [] pos) (Zfp K ta):=Zj3 true false K hg hm hg2 hm2 ha hK hc hs hs2 hs3
theorem s_listzp {K:Ph}{ta:TA}{σ:St}{H:Hp}{Q:VK}(h:ta σ H λvs H1=>eX4 λa b xs ys=>vs=[.ref a,.ref b]/\SqT K H1 a xs/\SqL K H1 b ys /\
 ∀(S:Addr)(zs:List V)(H2:Hp),H1 S=none->Same H1 H2->zs.length=min xs.length ys.length->Za8 H2 xs ys zs->H2 S=some (.lst zs)->Q (.ref S) H2):Zfp K ta σ H Q:=h
end
theorem Zow:∀(xs ys:List Int),((P6 (min xs.length ys.length)).all (λj=>xs.getD j 0 == ys.getD j 0) && xs.length == ys.length)=decide (xs=ys):=by
 intro xs ys;rw[Ui,Rw,Sd,beq_iff_eq,decide_eq_true_iff];constructor
 ·rintro⟨h1,h2⟩;apply List.ext_getElem h2;intro i g1 g2;have:=h1 i (Vu.mpr (by lia));rw[beq_iff_eq,U0,U0,Pj g1,Pj g2]at this;exact this
 ·rintro rfl;exact⟨λj _=>by simp,rfl⟩
section
variable {X:Cx}
end
section
variable {X:Cx}
end
def B3 (P:Program)(w:World):C1:=λouter H s E I s'=>eX5 λ(e T:Addr)(cls:Value)(od:Option Addr)(H':Hp)=>I=.ref e/\s'.os=s.os/\AllBare s'.gens/\Un (B4 outer) [] H H' s.heap s'.heap/\HOk P w H' s'.heap /\
 s.heap.get? e=none/\s.heap.get? T=none/\H' e=none/\H' T=none/\Iv s'.heap e T cls od/\E cls od H'
section
variable {X:Cx}{pins:List (Addr×Obj)}{σ:St}{H:Hp}{s:Shared}
theorem Inv.old (I:Inv X pins σ H s)(hex:X.ex=[])(h:s.heap.get? b=none):X.s₀.heap.get? b=none:=by
 cases q:X.s₀.heap.get? b with
 |none=>rfl
 |some o =>
  obtain⟨o',e⟩:=I.base.there b o q (by rw[hex];simp);rw[h]at e;cases e
theorem Inv.mvd (I:Inv X pins σ H s)(m:Mvd (B4 X.stack) xs s.heap h')(hx:∀b∈xs,X.s₀.heap.get? b=none/\H b=none)(hex:X.ex=[]):Un X.fs [] X.H₀ H X.s₀.heap h'/\HOk X.prog X.w H h':=by
 have O:∀b o,X.s₀.heap.get? b=some o->b ∉ xs:=λb o e hb=>by rw[(hx b hb).1]at e;cases e
 have aa:∀b o,X.s₀.heap.get? b=some o->b≠X.env.locals:=λb o e=>P0 (P9 (Pq e) I.ok.above);have Z:∀b o,X.s₀.heap.get? b=some o->b ∉ X.fs->b ∉ B4 X.stack:=λb o e U Y=>by
  rcases I.ok.stk with z|⟨z,z2⟩
  ·rw[z]at Y;exact U Y
  ·rw[z]at Y;unfold B4 at Y;rw[Vb,z2]at Y;rcases Pr.mp Y with q|q
   ·exact aa b o e q
   ·exact U q
 have B:=I.base;rw[hex]at B;refine⟨⟨λb o e n U _=>?_,λb o e n U _=>?_,λb o e n _=>B.free b o e n (by simp),λb o e _=>?_,B.tups,B.frzs,B.tbls⟩,λb u e=>?_⟩
 ·exact m.keep b o (O b o e) (Z b o e U) (B.keep b o e n U (by simp))
 ·obtain⟨sl,e1⟩:=B.slot b o e n U (by simp);obtain⟨ac,e2⟩:=m.slot b _ (O b o e) e1;exact⟨ac,e2⟩
 ·obtain⟨o',e1⟩:=B.there b o e (by simp);obtain⟨sl,e2⟩:=m.slot b o' (O b o e) e1;exact⟨_,e2⟩
 ·have tr:∀c v,H c=some v->c ∉ xs/\c ∉ B4 X.stack:=λc v q=>⟨(λz=>by rw[(hx c z).2]at q;cases q),(λz=>by rw[I.stkFree c z]at q;cases q)⟩;refine(I.hok b u e).stay (λc v hc q=>m.keep c v ?_ ?_ q) (λ_ q=>q) λ_ _ q=>q
  ·rcases hc with z|z
   ·rw[z];exact(tr b u e).1
   ·exact(tr c _ z).1
  ·rcases hc with z|z
   ·rw[z];exact(tr b u e).2
   ·exact(tr c _ z).2
end
section
variable {P:Program}{w:World}{K:Ph}{mg:Str->Option Value}{base:Heap}{N:List Str}{qual:Str}{scope:Scope}{f:Addr}{cd:Value}{A:Around}{outer:List Env}{s0:Shared}{H0:Hp}{E:XK}
theorem Jp (h:∀cls od H',E' cls od H'->E cls od H'):G6 (B3 P w) (Fh (B3 P w) P w K mg base N qual scope f cd A outer s0 H0 E) E':=by
 intro pins σ H s ev s' I c;obtain⟨e,T,cls,od,H',rfl,h1,h2,h3,h4,h5,h6,Y,h8,h9,U⟩:=c;have J:Inv (Fh (B3 P w) P w K mg base N qual scope f cd A outer s0 H0 E) pins σ H' s':=I.call' (ch:=[]) h1 h3 h4 h2 (λb z=>absurd z (by simp));refine Zr5 (base:=base) (outer:=outer) (L:=s0.heap.objs.size) J.ok.frames J.stack rfl h9 λh' Z O y m=>?_;obtain⟨u,ok⟩:=J.mvd (h':=h') m (λb hb=>by
  simp only[Pr,Pz,or_false]at hb;rcases hb with rfl|rfl|rfl
  ·exact⟨I.old rfl h5,Y⟩
  ·exact⟨I.old rfl h6,h8⟩
  ·exact⟨J.old rfl (T3 O),J.hok.fresh O⟩) rfl
 exact⟨e,Z,cls,od,H',rfl,J.os,J.bare,u,ok,I.old rfl h5,J.old rfl (T3 O),Y,J.hok.fresh O,y,h _ _ _ U⟩
theorem Zsd (I:Inv (Fh (B3 P w) P w K mg base N qual scope f cd A outer s0 H0 E) pins σ H s)(x:Oi s.heap e cls od)(he:s0.heap.get? e=none)(hn:H e=none)(h:E cls od H) :
  (Fh (B3 P w) P w K mg base N qual scope f cd A outer s0 H0 E).xe (.ref e) s:=by
 refine Zmv (base:=base) (outer:=outer) (L:=s0.heap.objs.size) I.ok.frames I.stack rfl x λh' T O y m=>?_;obtain⟨u,ok⟩:=I.mvd (h':=h') m (λb hb=>by
  simp only[Pr,Pz,or_false]at hb;rcases hb with rfl|rfl
  ·exact⟨he,hn⟩
  ·exact⟨I.old rfl (T3 O),I.hok.fresh O⟩) rfl
 exact⟨e,T,cls,od,H,rfl,I.os,I.bare,u,ok,he,I.old rfl (T3 O),hn,I.hok.fresh O,y,h⟩
end
section
variable {P:Program}{w:World}{K:Ph}{mg:Str->Option Value}{base:Heap}
theorem Fun.okx {x qual:Str}{st:Stmt}{f:Addr}{fd:FuncData}{N ps:List Str}{k:Nat}{sp:Sp}(F:Fun K x qual st f fd)(S:Bb N ps (A5 st))(len:∀vs H Q E,sp vs H Q E->vs.length=ps.length)
  (hbody:∀(cdv:Value)(A:Around)(outer:List Env)(s:Shared)(H:Hp)(vs:List V)(Q:VK)(E:XK),Room k (A.deeper (envOfC qual (A5 st) s.heap.objs.size f cdv))->sp vs H Q E ->
   ∃t,Fj (Fh (B3 P w) P w K mg base N qual (A5 st) f cdv A outer s H E) (Gh st) t/\t { nx:=λ_ H'=>Q .non H',rt:=Q } (Gq N vs) H):FnOk P w K mg base (B3 P w) (k+1) f fd ps sp:=by
 obtain⟨oc,od,kV,Y,pm,an,cdv,ct,U,rfl,Z,I⟩:=F.ex;refine Zhr Z I S len λA outer s H vs Q E hr O=>?_;obtain⟨t,h,q⟩:=hbody cdv A outer s H vs Q E hr O;exact⟨t,h.run,q⟩
structure Kq (P:Program)(w:World)(K:Ph)(mg:Str->Option Value)(base:Heap)(k:Nat)(x:Str)(ps:List Str)(sp:Sp):Prop where
 ex:eX2 λ(f:Addr)(fd:FuncData)=>FnOk P w K mg base (B3 P w) k f fd ps sp/\mg x=some (.ref f)/\Rl K (.ref f)=true/\Binds K fd ps []
theorem Zu2 (F:FnOk P w K mg base (B3 P w) k f fd ps sp)(m:mg x=some (.ref f))(kp:Rl K (.ref f)=true)(b:Binds K fd ps []):Kq P w K mg base k x ps sp:=⟨f,fd,F,m,kp,b⟩
end
section
variable {X:Cx}{k:Nat}{x:Str}{ps:List Str}{sp:Sp}{p pos np cpos:Pos}{e:Expr}{es:List Expr}{t:TA}{E:XK}
theorem Zqy (C:Kq X.prog X.w X.K X.mg X.base k x ps sp)(hr:Room k X.A)(hx:G6 (B3 X.prog X.w) X E)(ha:QA X (e::es) t)(hg:autoParam (Gl X x) zX)(hdb:autoParam ((x == ("__debug__":Str))=false) zW)
  (he:autoParam (starEach (e::es) X.env=(false,eval e X.env)::starEach es X.env) zX) (hpl:autoParam ((backTo pos (starEach es X.env)).any (·.1)=false) zX):QE X (.Call (.Name x p) (e::es) [] pos) (Ll sp [] E t):=by
 obtain⟨f,fd,F,I,O,hb⟩:=C.ex;exact⟨Ziw F hr hg I O hb .nil hx ha.run hdb he hpl⟩
noncomputable abbrev VE:List Value:=[.type "ValueError",.type "Exception",.type "BaseException",.type "object"]
def Zpz (X:Cx)(E:XK):Prop:=∀(pins:List (Addr×Obj))(σ:St)(H:Hp)(s:Shared)(a:Addr)(cls:Value)(od:Option Addr),Inv X pins σ H s->Oi s.heap a cls od->X.s₀.heap.get? a=none->H a=none->E cls od H->X.xe (.ref a) s
structure Ou (K:Ph)(C:Addr):Prop where
 ex:eX16 λbm dd nm bs ns qn hd sn sub ab col k0 k1 k2 k3 k5=>K.lookup C=some (excClassObj nm qn C ns bs bm hd sn sub ab col dd k0 k1 k2 k3 k5 "ValueError.__new__")/\Ti K VE bm=true/\Tj K ns=true/\P8 K ns "__init__"=some none
theorem Zsy {K:Ph}{h0:Heap}{C:Addr}(kin0:K.In h0)(q:Ou K C) :
  eX17 λbm N nm q bs hdct sn sub ab col dd k0 k1 k2 k3 k5 mN=>mN "__init__"=none/\∀h:Heap,K.In h->h.get? C=some (excClassObj nm q C N bs bm hdct sn sub ab col dd k0 k1 k2 k3 k5 "ValueError.__new__")/\h.Ns N mN/\OwnTail h VE bm:=by
 obtain⟨bm,dd,nm,bs,ns,O,hd,sn,sub,ab,col,k0,k1,k2,k3,k5,U,ht,hok,I⟩:=q.ex;have Z:h0.Ns ns (h0.nsMap ns):=.of_isNs (PySem.W.isNs_of_in kin0 hok);refine⟨bm,ns,nm,O,bs,hd,sn,sub,ab,col,dd,k0,k1,k2,k3,k5,h0.nsMap ns,PySem.W.nsMap_none_of_in kin0 hok I,λh kin=>⟨kin _ _ U,?_,PySem.W.tail_of_in kin ht⟩⟩;obtain⟨o,es,Y,e,r⟩:=Z;refine⟨o,es,Y,?_,r⟩;unfold Tj at hok;split at hok
 ·rename_i hl;have:=kin0 _ _ hl;rw[e]at this;cases this;exact kin _ _ hl
 ·cases hok
theorem ObjOk.there (x:ObjOk P w H h a o):∃u,h.get? a=some u:=by
 induction o with
 |lst xs=>obtain⟨_,_,_,_,e⟩:=x;exact⟨_,e⟩
 |tup xs=>obtain⟨_,_,_,o,e,_⟩:=x;exact⟨_,e⟩
 |dK kvs=>obtain⟨_,_,vs,_,d⟩:=x;obtain⟨o,e,_⟩:=W3.mp d;exact⟨_,e⟩
 |dT kvs=>obtain⟨_,_,_,_,o,_,_,e,_⟩:=x;exact⟨_,e⟩
 |set S n=>obtain⟨o,_,_,_,e,_⟩:=x;exact⟨_,e⟩
 |ins C dx fs=>obtain⟨_,_,_,e,_⟩:=x;exact⟨_,e⟩
 |own y=>exact x
 |xd fs=>obtain⟨_,⟨o,_,_,e,_⟩,_⟩:=x;exact⟨_,e⟩
 |met f y=>exact⟨_,x⟩
 |rng lo hi=>obtain⟨_,_,_,e⟩:=x;exact⟨_,e⟩
 |frz o u _=>exact⟨_,x.1⟩
 |tbl ps=>exact⟨_,x⟩
 |ext φ=>exact x.2.1
theorem HOk.no (x:HOk P w H h)(e:h.get? a=none):H a=none:=by
 cases q:H a with
 |none=>rfl
 |some u =>
  have z:=(x a u q).there;rw[e]at z;obtain⟨o,z⟩:=z;cases z
theorem Ztk (hc:X.calm=true)(hC:Ou X.K C)(G:X.mg x=some (.ref C))(ha:QA X [a] t)(hx:Zpz X E)(hex:X.ex=[])(hg:autoParam (Gl X x) zX)(hdb:autoParam ((x == ("__debug__":Str))=false) zW)(he:autoParam (starEach [a] X.env=[(false,eval a X.env)]) zX):QS X (.Raise (some (.Call (.Name x np) [a] [] cpos)) none pos) (λD σ H=>t σ H λvs H1=>vs.length<=sizeLine/\E (.ref C) none H1):=by
 refine⟨λpins s σ H D I h=>?_⟩;obtain⟨bm,N,nm,q,bs,hdct,sn,sub,ab,col,dd,k0,k1,k2,k3,k5,mN,aa,cl⟩:=Zsy I.kIn hC;obtain⟨cC,cN,cT⟩:=cl _ I.kIn;refine wpAny_Raise_call_subU (C:=C) (nm:=nm) (q:=q) (N:=N) (bs:=bs) (bm:=bm) (hdct:=hdct) (sn:=sn) (sub:=sub) (ab:=ab) (col:=col) (dd:=dd) (k0:=k0) (k1:=k1) (k2:=k2) (k3:=k3) (k5:=k5)
  Wa (by decide) Wa (mN:=mN) (cT.hasType Wa.hasBase) (I.ok.hd hc) (by rw[he];rfl) aa (Lc I hg G ⟨rfl,?_⟩ hdb)
 rw[he];have ar:=ha.run cpos pins s σ H _ I h;rw[he]at ar;refine Calls.evalArgs_plain (Rp ar (λus s2 h2=>?_) λ_ _ y=>y);obtain⟨vs,H1,O,r1,z,q1⟩:=h2;obtain⟨Y,Z,ac⟩:=cl _ O.kIn;refine⟨rfl,by rw[<- r1.length];exact z,Y,Z,ac,λh' a' U=>?_⟩;obtain⟨t',e1,_,_⟩:=U.there;have I2:Inv X pins σ H1 { s2 with heap:=h' }:=O.kept (t':=s2.toks) U.keeps;exact hx pins σ H1 _ a' (.ref C) none I2 ⟨_,_,e1,rfl,rfl,rfl,rfl,rfl⟩ (O.old hex U.new) (O.hok.no U.new) q1
end
noncomputable def exk (a:Addr)(cls:Value)(od:Option Addr):HO:=.ext λh=>eX2 λo vs=>h.get? a=some o/\o.cls=cls/\o.dict=od/\o.data=.fields vs/\vs[2]?=some .none
theorem Ztc (x:Iv h a T cls od):ObjOk P w H h a (exk a cls od):=by
 obtain⟨I,vs,oT,ts,a1,a2,a3,O,a5,a6,a7,a8,U⟩:=x;refine⟨⟨I,vs,a1,a2,a3,O,U.2⟩,⟨I,a1⟩,λh1 h2 q k=>?_⟩;obtain⟨o,vs,Y,Z⟩:=q;exact⟨o,vs,k o Y,Z⟩
theorem Un.land (u:Un fs [] H H' h h1)(m:Mvd fs xs h1 h2)(hx:∀b∈xs,h.get? b=none)(he:h.get? e=none)(hn:H' e=none):Un fs [] H (upd H' e o) h h2:=by
 have O:∀b I,h.get? b=some I->b ∉ xs:=λb I q z=>by rw[hx b z]at q;cases q
 have ne:∀b I,h.get? b=some I->b≠e:=λb I q z=>by rw[z,he]at q;cases q
 have U:∀b I,H' b=some I->b≠e:=λb I q z=>by rw[z,hn]at q;cases q
 refine⟨λb I q n Y _=>m.keep b I (O b I q) Y (u.keep b I q n Y (by simp)),λb I q n Y _=>?_,λb I q n _=>?_,λb I q _=>?_,λb ys q=>?_,λb I v q=>?_,λb ps q=>?_⟩
 ·obtain⟨sl,Z⟩:=u.slot b I q n Y (by simp);obtain⟨aa,e2⟩:=m.slot b _ (O b I q) Z;exact⟨aa,e2⟩
 ·rw[Af (ne b I q)];exact u.free b I q n (by simp)
 ·obtain⟨o',Z⟩:=u.there b I q (by simp);obtain⟨sl,e2⟩:=m.slot b o' (O b I q) Z;exact⟨_,e2⟩
 ·have z:=u.tups b ys q;rw[Af (U b _ z)];exact z
 ·have z:=u.frzs b I v q;rw[Af (U b _ z)];exact z
 ·obtain⟨more,z⟩:=u.tbls b ps q;exact⟨more,by rw[Af (U b _ z)];exact z⟩
theorem HOk.land (x:HOk P w H h1)(m:Mvd fs xs h1 h2)(hx:∀b∈xs,H b=none)(hf:∀b∈fs,H b=none)(hn:H e=none)(new:ObjOk P w (upd H e o) h2 e o):HOk P w (upd H e o) h2:=by
 intro b u q;by_cases hb:b=e
 ·subst hb;rw[Ac]at q;cases q;exact new
 ·rw[Af hb]at q;have tr:∀c v,H c=some v->c ∉ xs/\c ∉ fs:=λc v q=>⟨(λz=>by rw[hx c z]at q;cases q),(λz=>by rw[hf c z]at q;cases q)⟩;have I:∀b O,H b=some O->b≠e:=λb O q z=>by rw[z,hn]at q;cases q
  refine(x b u q).stay (λc v U z=>?_) (λc z=>by rw[Af (I c _ z)];exact z) λc ys z=>by rw[Af (I c _ z)];exact z
  rcases U with r|r
  ·rw[r]at z ⊢;exact m.keep b v (tr b u q).1 (tr b u q).2 z
  ·exact m.keep c v (tr c _ r).1 (tr c _ r).2 z
noncomputable abbrev TX:=St->Hp->VK->XK->Prop
noncomputable abbrev K2:=Ends->(St->XK)->St->Hp->Prop
def XP (X:Cx)(pins:List (Addr×Obj))(σ:St)(E:XK)(ev:Value)(s':Shared):Prop:=eX2 λH0 s0=>Inv X pins σ H0 s0/\B3 X.prog X.w X.stack H0 s0 E ev s'
structure QX (X:Cx)(e:Expr)(t:TX):Prop where
 run:∀(pins:List (Addr×Obj))(s:Shared)(σ:St)(H:Hp)(Q:VK)(E:XK),Inv X pins σ H s->t σ H Q E->wpAny (model X.prog X.w) X.A (eval e X.env) (EP X pins σ Q) (XP X pins σ E) s
structure QXS (X:Cx)(sts:List Stmt)(t:K2):Prop where
 run:∀(pins:List (Addr×Obj))(s:Shared)(σ:St)(H:Hp)(D:Ends)(E:St->XK),Inv X pins σ H s->t D E σ H->wpAny (model X.prog X.w) X.A (execs sts X.env) (SP X pins D) (λev s'=>∃σ',XP X pins σ' (E σ') ev s') s
noncomputable abbrev Cx.to (X:Cx)(A:Around)(c:Bool)(XE:Value->Shared->Prop):Cx:={ X with A:=A,calm:=c,xe:=XE }
section
variable {X:Cx}{pins:List (Addr×Obj)}{σ:St}{H:Hp}{s:Shared}
theorem Inv.to (I:Inv X pins σ H s)(hA:A.frames=X.A.frames)(hc:c=true->A.handled=none):Inv (X.to A c XE) pins σ H s :=
 ⟨⟨I.ok.mod,I.ok.kind,I.ok.glob,I.ok.blt,I.ok.above,I.ok.inj,I.ok.has,I.ok.cab,hc,hA.trans I.ok.frames,I.ok.stk,I.ok.exf,I.ok.bs,I.ok.bsz,I.ok.noex,I.ok.exfs,I.ok.funs,I.ok.frf⟩,I.os,I.bare,I.base,I.loc,I.cell,I.free,I.freeC,I.pin,I.hok,I.len⟩
theorem Inv.back (I:Inv (X.to A c XE) pins σ H s)(ok:X.Ok):Inv X pins σ H s :=
 ⟨ok,I.os,I.bare,I.base,I.loc,I.cell,I.free,I.freeC,I.pin,I.hok,I.len⟩
end
section
variable {X:Cx}{k:Nat}{x:Str}{ps:List Str}{sp:Sp}{p pos np cpos:Pos}{e:Expr}{es:List Expr}{t:TA}
theorem Zr9 (C:Kq X.prog X.w X.K X.mg X.base k x ps sp)(hr:Room k X.A)(ha:∀XE,QA (X.to X.A X.calm XE) (e::es) t)(hg:autoParam (Gl X x) zX)(hdb:autoParam ((x == ("__debug__":Str))=false) zW)
  (he:autoParam (starEach (e::es) X.env=(false,eval e X.env)::starEach es X.env) zX) (hpl:autoParam ((backTo pos (starEach es X.env)).any (·.1)=false) zX):QX X (.Call (.Name x p) (e::es) [] pos) (λσ H Q E=>t σ H λvs H1=>sp vs H1 Q E):=by
 obtain⟨f,fd,F,hm,hk,hb⟩:=C.ex;refine⟨λpins s σ H Q E I h=>?_⟩;refine Ud (Lc I hg hm ?_ hdb);refine Vd (h₀:=X.base) I.ok.mod.kin hk (As ((ha (XP X pins σ E)).run pos pins s σ H _ (I.to rfl I.ok.hd) h) λZ s1 zq=>?_) he hpl;obtain⟨vs,H1,O,r,q⟩:=zq;refine⟨(O.back I.ok).kIn,?_⟩;have O:=O.back I.ok;have hl:Z.length=ps.length:=by rw[<- r.length];exact F.len _ _ _ _ q
 have Y:=hb s1 Z O.kIn (by simpa using hl);rw[Q0]at Y;refine wpAny_call (Tq (F.run X.A X.stack s1 H1 ⟨Z,[]⟩ Z vs Q E hr O.env0 Y r q) λr s' U=>?_);cases r with
 |error e=>exact⟨H1,s1,O,U⟩
 |ok fl =>
  cases fl with
  |ret u=>exact O.after U
  |next=>exact Qo U
  |brk=>exact Qo U
  |cont=>exact Qo U
theorem Zne {i:Nat}{t:TX}{pos':Pos}(hN:X.N.Nodup)(hi:X.N[i]?=some x)(hx:Ee X.env.scope x)(he:QX X e t)(hs:autoParam (swapsWith e (some (.Name x pos')) pos.line X.env=pure false) zX)(hf:autoParam (X.fn x=true\/X.env.scope.names.lookup x=some .local) zQ) :
  QXS X [.Assign [.Name x pos'] e pos] (λD E σ H=>t σ H (λv H1=>D.nx (σ.set i (some v)) H1) (E σ)):=by
 refine⟨λpins s σ H D E I h=>?_⟩;refine Wv (Rp (wpAny_Assign_Name (Q:=SP X pins D) (As (he.run pins s σ H _ (E σ) I h) λv O ⟨y,H1,Z,r1,Y⟩=>Zev Z hN hi hx r1 (λs2 U=>⟨_,H1,U,Y⟩) hf) hs) (λf O q=>?_) λev O q=>⟨σ,q⟩);cases f with
 |next=>exact Td q
 |ret v=>exact q
 |brk=>exact q
 |cont=>exact q
end
structure Zac (K:Ph)(C:Addr):Prop where
 ty:PySem.W.typeIn K (.ref C)=some (.type "type")
 cl:(To K C).isSome=true
 bs:Ss K (.ref C) (.type "BaseException")=some true
theorem Zlh {K:Ph}{M:Model}{h:Heap}{C:Addr}(X:K.In h)(e:(To K C).isSome=true):Uo M h (isType (.ref C)) true:=by
 unfold To at e;split at e
 ·rename_i Z d' U O I;intro A' Q' Y s' k q;unfold isType loadHead;exact Pi (wpAny_loadPart (k _ _ (X _ _ I)) (Pk q))
 ·cases e
theorem Zvd {K:Ph}{M:Model}{A:Around}{E:Value->Shared->Prop}{s:Shared}{Q:Bool->Shared->Prop}{e C C':Addr}{oe:Obj}(X:K.In s.heap)(c:Zac K C)(he:s.heap.get? e=some oe)(hcls:oe.cls=.ref C')(hs:Ss K (.ref C') (.ref C)=some true)(h:Q true s) :
  wpAny M A (excMatches (.ref e) (.ref C)) Q E s:=by
 have U:Uo M s.heap (typeOf (.ref C)) (.type "type"):=PySem.W.looks_typeIn X c.ty;have L2:Uo M s.heap (isType (.ref C)) true:=Zlh X c.cl;have I:=PySem.W.looks_subIn (M:=M) X c.bs;have O:Uo M s.heap (typeOf (.ref e)) (.ref C'):=by
  intro A' Q' Z s' k q;unfold typeOf;exact Pi (wpAny_loadPart (k _ _ he) (Pk (by rw[hcls];exact q)))
 have Y:=PySem.W.looks_subIn (M:=M) X hs;have f:=tc_notTuple;unfold excMatches;unfold isInstance isExcClass
 repeat (first|with_reducible refine U.here ?_|with_reducible refine L2.here ?_|with_reducible refine I.here ?_|with_reducible refine O.here ?_|with_reducible refine Y.here ?_|wp_step)
 exact h
section
variable {X:Cx}{pins:List (Addr×Obj)}{σ:St}{H:Hp}{s:Shared}
end
section
variable {X:Cx}{c n:Str}{np hpos pos:Pos}{body hbody:List Stmt}{b₀:Stmt}{tb:K2}{th:TS}{i:Nat}{C:Addr}
end
section
open PySem.W PySem.Builtin PySem.Builtin.ObjectAttr
variable {prog:Program}{w:World}{A:Around}{E:Value->Shared->Prop}{s:Shared}{K:Frag}{x C:Addr}{ox:Obj}{od:Option Obj}{name:Str}{R:Result->Shared->Prop}
end
section
variable {X:Cx}{pins:List (Addr×Obj)}{σ:St}{H:Hp}{s:Shared}
end
section
variable {X:Cx}{pins:List (Addr×Obj)}{σ:St}{H:Hp}{s:Shared}{a C:Addr}{f:Str}{A:Around}{E:Value->Shared->Prop}
open PySem.W PySem.Builtin PySem.Builtin.ObjectAttr
end
section
variable {X:Cx}{o e value:Expr}{f:Str}{pos pos':Pos}{ta tv:TE}
end
section
open PySem.W
end
section
variable {prog:Program}{w:World}{A:Around}{E:Value->Shared->Prop}{h:Heap}{g:Array GenState}{d:Drawn}{t:Nat}{os:OsState}
variable {nm q:Str}{C N:Addr}{bs bm bmB:List Value}{hdct:Bool}{sn:List Str}{sub:List Value}{ab:Bool}{col:Option Bool}{dd:Option Addr}{k0 k1 k2 k3 k5:Option Value}{B Bn newId nid initId inN:String}{bmN:List Value}
end
section
variable {X:Cx}{k:Nat}{x:Str}{sp:Sp}{ps:List Str}{C f:Addr}{fd:FuncData}{np cpos pos:Pos}{a:Expr}{t:TA}{E:XK}
end
section
variable {P:Program}{w:World}{K:Ph}{mg:Str->Option Value}{base:Heap}
end
section
variable {X:Cx}{k:Nat}{x:Str}{ps:List Str}{sp:Sp}{p pos:Pos}{e:Expr}{es:List Expr}{t:TA}
end
section
open PySem.W PySem.Builtin PySem.Builtin.ObjectAttr
variable {prog:Program}{w:World}{A:Around}{E:Value->Shared->Prop}{s:Shared}{K:Frag}{x D:Addr}{ox:Obj}{od:Option Obj}
end
section
variable {X:Cx}{pins:List (Addr×Obj)}{σ:St}{H:Hp}{s:Shared}{a C':Addr}{od:Option Addr}
end
section
variable {X:Cx}
def rEqI (K:Ph):R2:=λx y H Q=>eX4 λ(a c:Addr)(xs ys:List Int)=>x=.ref a/\y=.ref c/\SqT K H a (xs.map V.int)/\SqT K H c (ys.map V.int)/\Q (.bl (decide (xs=ys))) H
theorem Zst (hu:X.A.units+200<cLine):OpR X (compareOp .Eq) (rEqI X.K):=by
 intro pins s σ H x y v u Q I rx ry h;obtain⟨a,c,xs,ys,rfl,rfl,hx,hy,q⟩:=h;cases rx;cases ry;obtain⟨U,r1,p1,_⟩:=I.tuple hx;obtain⟨O,r2,p2,_⟩:=I.tuple hy;obtain⟨us,Z,f1⟩:=Zct r1;obtain⟨vs,e2,Y⟩:=Zct r2;have l1:us.length=xs.length:=by rw[<- f1,Pp]
 have l2:vs.length=ys.length:=by rw[<- Y,Pp]
 refine SeqAt.eq_tupleAt (e:=λj=>xs.getD j 0 == ys.getD j 0) (show s.heap.IsTuple a U.toArray from p1) (show s.heap.IsTuple c O.toArray from p2) (by lia) (λj h1 h2=>?_) ?_
 ·subst Z e2;simp only[Pm,Pp]at h1 h2;have g1:xs.getD j 0=us[j].1:=by rw[<- f1,U0,Ql,Pj h1];rfl
  have g2:ys.getD j 0=vs[j].1:=by rw[<- Y,U0,Ql,Pj h2];rfl
  rw[g1,g2];simp only[List.getElem_toArray,List.getElem_map];exact P5.int_int _ _ _ _
 ·have e:((P6 (min U.toArray.size O.toArray.size)).all (λj=>xs.getD j 0 == ys.getD j 0) && U.toArray.size == O.toArray.size)=decide (xs=ys):=by
   have z1:U.toArray.size=xs.length:=by rw[Pm,Z,Pp,l1]
   have z2:O.toArray.size=ys.length:=by rw[Pm,e2,Pp,l2]
   rw[z1,z2,Zow]
  rw[e];exact⟨.bl _,H,I,rfl,q⟩
def rEqB (K:Ph):R2:=λx y H Q=>K4 K x y H Q\/rEqI K x y H Q
theorem Zkp (K:Ph)(hu:X.A.units+200<cLine)(hK:autoParam (X.K=K) zX):OpR X (compareOp .Eq) (rEqB K):=by subst hK;exact(Zjl hu).or (Zst hu)
theorem Ze9 {K:Ph}{a c:Addr}{xs ys:List Int}{H:Hp}{Q:VK}(hx:SqT K H a (xs.map V.int))(hy:SqT K H c (ys.map V.int))(h:Q (.bl (decide (xs=ys))) H):rEqB K (.ref a) (.ref c) H Q:=.inr ⟨a,c,xs,ys,rfl,rfl,hx,hy,h⟩
end
end L2
namespace L2
open PySem
inductive Fm:Dt->Prop where
 |flat (v:V):Fm (.flat v)
 |tup {ds:List Dt} (l:ds.length<=5000) (h:∀d∈ds,Fm d):Fm (.tup ds)
 |lst {ds:List Dt} (l:ds.length<=5000) (h:∀d∈ds,Fm d):Fm (.lst ds)
def SameA (A:Addr->Prop)(H H':Hp):Prop:=SameT H H'/\∀b xs,¬A b->H b=some (.lst xs)->H' b=some (.lst xs)
theorem Same.a (e:Same H H'):SameA A H H':=⟨e.t,λb xs _ h=>e b _ h⟩
theorem SameA.trans (a:SameA A H H1)(b:SameA A H1 H2):SameA A H H2:=⟨a.1.trans b.1,λc xs n h=>b.2 c xs n (a.2 c xs n h)⟩
theorem SameA.set (h:H S=some (.lst zs))(hA:A S):SameA A H (upd H S o):=⟨SameT.set h,λb xs n e=>by rw[Af (λz=>n (by rw[z];exact hA))];exact e⟩
theorem SameA.mono (e:SameA A H H')(h:∀b,A b->B b):SameA B H H':=⟨e.1,λb xs n=>e.2 b xs λa=>n (h b a)⟩
def ThAt (K:Ph)(H:Hp)(v:V)(x:Str×V):Prop:=C8 x.2=true/\∃a,v=.ref a/\SqT K H a [.str x.1,x.2]
theorem ThAt.same (e:SameT H H')(v:V)(x:Str×V)(h:ThAt K H v x):ThAt K H' v x:=by
 obtain⟨f,a,r,q⟩:=h;exact⟨f,a,r,e.tup q⟩
def PrAt (K:Ph)(H:Hp)(v:V)(x:Str×Str×V):Prop:=eX2 λ(a:Addr)(u:V)=>v=.ref a/\SqT K H a [.str x.1,u]/\ThAt K H u x.2
theorem PrAt.same (e:SameT H H')(v:V)(x:Str×Str×V)(h:PrAt K H v x):PrAt K H' v x:=by
 obtain⟨a,u,r,q,t⟩:=h;exact⟨a,u,r,e.tup q,t.same e⟩
structure Rx where
 wd:Str
 pl:List Int
 ops:List (Str×V)
 ar:List (Str×Str×V)
def RwAt (K:Ph)(A:Addr->Prop)(H:Hp)(v:V)(x:Rx):Prop:=eX6 λ(a p o e:Addr)(ov ev:List V)=>v=.ref a/\SqT K H a [.str x.wd,.ref p,.ref o,.ref e]/\SqT K H p (x.pl.map V.int)/\H o=some (.lst ov)/\Al (ThAt K H) ov x.ops/\H e=some (.lst ev)/\Al (PrAt K H) ev x.ar/\¬A o/\¬A e
theorem RwAt.same (s:SameA A H H')(v:V)(x:Rx)(h:RwAt K A H v x):RwAt K A H' v x:=by
 obtain⟨a,p,o,e,ov,Y,h1,h2,Z,U,h5,h6,h7,O,I⟩:=h;exact⟨a,p,o,e,ov,Y,h1,s.1.tup h2,s.1.tup Z,s.2 _ _ O U,h5.mono (ThAt.same s.1),s.2 _ _ I h6,h7.mono (PrAt.same s.1),O,I⟩
theorem RwAt.mono (s:∀b,B b->H b≠none->A b)(v:V)(x:Rx)(h:RwAt K A H v x):RwAt K B H v x:=by
 obtain⟨a,p,o,e,ov,U,h1,h2,Y,I,h5,O,h7,h8,Z⟩:=h;exact⟨a,p,o,e,ov,U,h1,h2,Y,I,h5,O,h7,λb=>h8 (s o b (by rw[I];simp)),λb=>Z (s e b (by rw[O];simp))⟩
noncomputable def Ky (x:Str×V):Dt:=.tup [.flat (.str x.1),.flat x.2]
noncomputable def prD (x:Str×Str×V):Dt:=.tup [.flat (.str x.1),Ky x.2]
noncomputable def rzD (x:Rx):Dt:=.tup [.flat (.str x.wd),.tup (x.pl.map λi=>.flat (.int i)),.lst (x.ops.map Ky),.lst (x.ar.map prD)]
theorem ThAt.d (h:ThAt K H v x):IsD K H 1 v (Ky x):=by
 obtain⟨f,a,rfl,q⟩:=h;refine .tup q rfl λj v d h1 h2=>?_
 match j,h1,h2 with
 |0,h1,h2=>cases h1;cases h2;exact .flat rfl
 |1,h1,h2=>cases h1;cases h2;exact .flat f
theorem PrAt.d (h:PrAt K H v x):IsD K H 2 v (prD x):=by
 obtain⟨a,u,rfl,q,t⟩:=h;refine .tup q rfl λj v d h1 h2=>?_
 match j,h1,h2 with
 |0,h1,h2=>cases h1;cases h2;exact .flat rfl
 |1,h1,h2=>cases h1;cases h2;exact t.d
theorem Al.lstD {K:Ph}{H:Hp}{α:Type}{R:V->α->Prop}{g:α->Dt}{n:Nat}{a:Addr}{vs:List V}{xs:List α}(al:Al R vs xs)(e:SqL K H a vs)(h:∀v x,R v x->IsD K H n v (g x)):IsD K H (n+1) (.ref a) (.lst (xs.map g)):=by
 refine .lst e (by rw[Pp];exact al.1) λj v d h1 h2=>?_;rw[Ql]at h2;obtain⟨r,I,rfl⟩:=Q3.mp h2;exact h v r (al.2 j v r h1 I)
theorem Zmg {K:Ph}{H:Hp}{n:Nat}{p:Addr}{pl:List Int}(q:SqT K H p (pl.map V.int)):IsD K H (n+1) (.ref p) (.tup (pl.map λi=>.flat (.int i))):=by
 refine .tup q (by simp) λj v d h1 h2=>?_;rw[Ql]at h1 h2;obtain⟨k,I,rfl⟩:=Q3.mp h1;rw[I]at h2;cases h2;exact .flat rfl
theorem RwAt.d (h:RwAt K A H v x):IsD K H 4 v (rzD x):=by
 obtain⟨a,p,o,e,ov,ev,rfl,h2,O,Y,h5,U,h7,_,_⟩:=h;refine .tup h2 rfl λj v d I Z=>?_
 match j,I,Z with
 |0,h1,h2=>cases h1;cases h2;exact .flat rfl
 |1,h1,h2=>cases h1;cases h2;exact Zmg O
 |2,h1,h2=>cases h1;cases h2;exact(h5.lstD (g:=Ky) (SqL.of Y) λ_ _ t=>t.d).up (by lia)
 |3,h1,h2=>cases h1;cases h2;exact h7.lstD (g:=prD) (SqL.of U) λ_ _ t=>t.d
theorem Zbx (x:Str×V):Fm (Ky x):=.tup (by show 2<=5000;lia) λd h=>by
 simp only[Pr,Pz,or_false]at h;rcases h with rfl|rfl
 ·exact .flat _
 ·exact .flat _
theorem Zle (x:Str×Str×V):Fm (prD x):=.tup (by show 2<=5000;lia) λd h=>by
 simp only[Pr,Pz,or_false]at h;rcases h with rfl|rfl
 ·exact .flat _
 ·exact Zbx _
theorem Zdl {α:Type}{g:α->Dt}{xs:List α}(l:xs.length<=5000)(h:∀x∈xs,Fm (g x)):Fm (.lst (xs.map g)):=.lst (by rw[Pp];exact l) λd hd=>by
 obtain⟨x,I,rfl⟩:=Ro.mp hd;exact h x I
structure Rx.Ok (x:Rx):Prop where
 pl:x.pl.length<=5000
 ops:x.ops.length<=5000
 ar:x.ar.length<=5000
theorem Zln (h:x.Ok):Fm (rzD x):=.tup (by show 4<=5000;lia) λd hd=>by
 simp only[Pr,Pz,or_false]at hd;rcases hd with rfl|rfl|rfl|rfl
 ·exact .flat _
 ·refine .tup (by rw[Pp];exact h.pl) λd hd=>?_;obtain⟨x,I,rfl⟩:=Ro.mp hd;exact .flat _
 ·exact Zdl h.ops λx _=>Zbx x
 ·exact Zdl h.ar λx _=>Zle x
section
variable {g:TG}{tt:TT}{te:TE}{σ0:St}{H1:Hp}{D:Addr}{Q:VK}
end
end L2
namespace L2
open PySem PySem.Spec PyProof.Rows
section
variable {X:Cx}
end
section
variable {prog:Program}{w:World}{A:Around}{E:Value->Shared->Prop}{s:Shared}
end
section
variable {X:Cx}
end
section
variable {g:TG}{tt:TT}{te:TE}{σ0:St}{H1:Hp}{D:Addr}{Q:VK}
end
theorem via {t:TS}{X:St->Hp->Prop}{rt:VK}{bk ct:St->Hp->Prop}{σ:St}{H:Hp}(R:Hp->Prop)(h2:∀H',R H'->X σ H')(h1:∀Y:St->Hp->Prop,(∀H',R H'->Y σ H')->t ⟨Y,rt,bk,ct⟩ σ H):t ⟨X,rt,bk,ct⟩ σ H:=h1 X h2
section
variable {X:Cx}
open PySem.Builtin PySem.Builtin.Str in
noncomputable def Zsl (z:Str):Value->Bool
 |.str a _=>a == z
 |_=>false
theorem Zis:∀{ws:List Str}{us:List Value}{j:Nat}{u:Value},Vals (ws.map V.str) us->us[j]?=some u->eX2 λa t=>u=.str a t/\ws[j]?=some a
 |[],_,j,u,.nil,h=>by simp at h
 |a::r,_,0,u,.cons O _,h=>by
  obtain⟨t,rfl⟩:=O;have h:u=.str a t:=by simpa using h.symm
  exact⟨a,t,h,rfl⟩
 |a::r,_,j+1,u,.cons _ I,h=>by
  obtain⟨b,t,U,Y⟩:=Zis (j:=j) I (by simpa using h);exact⟨b,t,U,by simpa using Y⟩
def Zs1 (K:Ph):V->List V->Hp->VK->Prop:=λx vs H Q=>eX4 λ(l:Addr)(z:Str)(ws:List Str)(j:Nat)=>x=.ref l/\vs=[.str z]/\SqL K H l (ws.map V.str)/\ws[j]?=some z/\(∀m<j,ws[m]?≠some z)/\ws.length<=1000/\Q (.int (j:Nat)) H
theorem Ztv (K:Ph)(hK:autoParam (X.K=K) zX):J8 X "list.index" (Zs1 K):=by
 subst hK;intro pins s σ H x vs v us Q I rx rv h;obtain⟨l,z,ws,j,rfl,rfl,hl,hj,aa,hz,q⟩:=h;cases rx;obtain⟨u,rfl,ru⟩:=rv.one;obtain⟨t,rfl⟩:=ru;obtain⟨O,r,p,_⟩:=I.list hl;have Z:=r.length;rw[Pp]at Z;have af:=(Ps.mp hj).1;obtain⟨⟨ag,dd,ae,sl⟩,ho,hc,n,hd⟩:=id p.isList;simp only at hc hd;subst hc hd;have U:∀m (Y:m<O.toArray.size),eX2 λa t=>O.toArray[m]=.str a t/\ws[m]?=some a:=λm Y=>by
  have ac:m<O.length:=by simpa using Y
  have:=Zis r (Pj ac);simpa using this
 refine Sy PySem.F.slot_list_index ⟨_,ho,rfl⟩ PySem.F.entry_list_index (PySem.F.args_list_index_2 _ _) (SeqAt.list_indexAt l O.toArray n dd sl (.str z t) (Zsl z) j (by rw[Pm];lia) (by lia) ?_ ?_) ⟨ho,λy hy=>?_,?_⟩
 ·obtain⟨a,t',e1,e2⟩:=U j (by rw[Pm];lia);rw[hj]at e2;cases e2;rw[e1];show(z == z)=true;simp
 ·intro m Y ad;obtain⟨a,t',e1,e2⟩:=U m Y;rw[e1];show(a == z)=false;have:a≠z:=λe=>aa m ad (by rw[e2,e]);simpa using this
 ·obtain⟨m,Y,rfl⟩:=Array.mem_iff_getElem.mp hy;obtain⟨a,t',e1,e2⟩:=U m Y;rw[e1];exact P5.str_str a t' z t
 ·exact⟨.int (j:Nat),H,I.tok _,⟨_,rfl⟩,q⟩
end
section
variable {prog:Program}{w:World}{A:Around}{E:Value->Shared->Prop}{s:Shared}
end
section
variable {X:Cx}
end
section
variable {X:Cx}{k:Nat}{x:Str}{ps:List Str}{sp:Sp}{p pos:Pos}
end
structure Dj (CX:C1)(P:Program)(w:World)(K:Ph)(mg:Str->Option Value)(base:Heap)(k:Nat)(C:Addr)(m:Str)(ps:List Str)(sp:Sp):Prop where
 ex:eX2 λ(g:Addr)(fd:FuncData)=>FnOk P w K mg base CX k g fd ps sp/\Cls K C/\Meth K C m g/\Binds K fd ps []
structure Zc4 (CX:C1)(P:Program)(w:World)(K:Ph)(mg:Str->Option Value)(base:Heap)(k:Nat)(x:Str)(C:Addr)(ps:List Str)(sp:Sp):Prop where
 ex:eX2 λ(f:Addr)(fd:FuncData)=>FnOk P w K mg base CX k f fd ps sp/\Mk K C f/\mg x=some (.ref C)/\Binds K fd ps []
def Zfo (CX:C1)(P:Program)(w:World)(K:Ph)(mg:Str->Option Value)(base:Heap)(k:Nat)(m:Str)(ps:List Str)(E:XK)(ta:TE)(t:TA):TE:=λσ H Q=>ta σ H λx H1=>eX5 λa C dx fs sp=>x=.ref a/\H1 a=some (.ins C dx fs)/\fs.lookup m=none/\Dj CX P w K mg base k C m ps sp /\
 t σ H1 λvs H2=>sp (.ref a::vs) H2 Q E
def tNew (C:Addr)(sp:Sp)(E:XK)(t:TA):TE:=λσ H Q=>t σ H λvs H1=>∀x dx,H1 x=none->H1 dx=none->dx≠x->sp (.ref x::vs) (upd (upd H1 dx (.own x)) x (.ins C dx [])) (λv H2=>v=.non/\Q (.ref x) H2) E
section
variable {X:Cx}{k:Nat}{x m:Str}{ps:List Str}{sp:Sp}{E:XK}{C:Addr}{p pos apos:Pos}{e o:Expr}{es:List Expr}{ta:TE}{t:TA}{CX:C1}{P:Program}{w:World}{mg:Str->Option Value}{base:Heap}
theorem Dy (K:Ph)(CX:C1)(ps:List Str)(he:QE X o ta)(hr:Room k X.A)(hx:G6 CX X E)(ha:QA X (e::es) t)(hP:autoParam (X.prog=P) zX)(hw:autoParam (X.w=w) zX)(hK:autoParam (X.K=K) zX)(hmg:autoParam (X.mg=mg) zX)(hbs:autoParam (X.base=base) zX)(hst:autoParam (starEach (e::es) X.env=(false,eval e X.env)::starEach es X.env) zX)(hpl:autoParam ((backTo pos (starEach es X.env)).any (·.1)=false) zX)(ht:autoParam (eval (.Call (.Attribute o m apos) (e::es) [] pos) X.env=(do
   let ov <- eval o X.env
   standAt apos.atName
   let (f,first) <- holding [ov] (getMethod ov m pl)
   callWith pos f first (backTo pos (starEach (e::es) X.env)) (backToKw pos (keywordEach [] X.env)))) zX) :
  QE X (.Call (.Attribute o m apos) (e::es) [] pos) (Zfo CX P w K mg base k m ps E ta t):=by
 subst hP hw hK hmg hbs;refine⟨λpins s σ H Q I h=>?_⟩;refine PySem.W.methodCall_KW (pl:=pl) (As (he.run pins s σ H _ I h) λu s1 O=>?_) ht;obtain⟨x,H1,U,rx,a,C,dx,fs,sp,ex,ea,l,M,q⟩:=O;obtain⟨g,fd,F,c,hm,hb⟩:=M.ex;subst ex;obtain rfl:u=Value.ref a:=rx;refine Zfr U ea c hm l ?_;refine Vd (first:=[.ref a]) (h₀:=X.base) I.ok.mod.kin hm.kp (As (ha.run pos pins s1 σ H1 _ U q) λY s2 O=>?_) hst hpl;obtain⟨vs,H2,Z,r,q2⟩:=O;refine⟨Z.kIn,?_⟩;exact Zc8 (us:=.ref a::Y) (vs:=.ref a::vs) (dvs:=[]) F hr hb .nil hx Z (.cons rfl r) (by rw[Q0];exact q2)
theorem Zqw (M:Zc4 CX X.prog X.w X.K X.mg X.base k x C ps sp)(hr:Room (k+1) X.A)(hx:G6 CX X E)(ha:QA X (e::es) t)(hg:autoParam (Gl X x) zX)(hdb:autoParam ((x == ("__debug__":Str))=false) zW)
  (he:autoParam (starEach (e::es) X.env=(false,eval e X.env)::starEach es X.env) zX) (hpl:autoParam ((backTo pos (starEach es X.env)).any (·.1)=false) zX):QE X (.Call (.Name x p) (e::es) [] pos) (tNew C sp E t):=by
 obtain⟨f,fd,F,mk,Y,hb⟩:=M.ex;refine⟨λpins s σ H Q I h=>?_⟩;refine Ud (Lc I hg Y ?_ hdb);refine Vd (h₀:=X.base) I.ok.mod.kin mk.kp (As (ha.run pos pins s σ H _ I h) λus s1 U=>?_) he hpl;obtain⟨vs,H1,O,r,q⟩:=U;refine⟨O.kIn,?_⟩;exact Zll (dvs:=[]) mk F hr hb .nil hx O r (λx dx h1 h2 Z=>by rw[Q0];exact q x dx h1 h2 Z)
end
section
variable {X:Cx}{e o value:Expr}{f:Str}{pos pos':Pos}{ta tv:TE}{pins:List (Addr×Obj)}{σ:St}{H:Hp}{s:Shared}
theorem Ck (K:Ph)(he:QE X e ta)(hb:autoParam (attributeBase e f X.env (eval e X.env)=eval e X.env) zX)(hK:autoParam (X.K=K) zX):QE X (.Attribute e f pos) (Zek K ta f):=by subst hK;exact Zvm he hb
theorem K5 (K:Ph)(ha:QE X o ta)(hv:QE X value tv)(hs:autoParam (swapsWith value (some (.Attribute o f pos')) pos.line X.env=pure false) zX)(hK:autoParam (X.K=K) zX):QS X (.Assign [.Attribute o f pos'] value pos) (Zbe K ta tv f):=by subst hK;exact Zth ha hv hs
end
section
variable {X:Cx}{pins:List (Addr×Obj)}{σ:St}{H:Hp}{s:Shared}
end
section
variable {P:Program}{w:World}{K:Ph}{mg:Str->Option Value}{base:Heap}
end
section
variable {X:Cx}{k:Nat}{x:Str}{ps ks:List Str}{gV:List V->List V->List V}{sp:Sp}{E:XK}{C:Addr}{p pos kpos:Pos}{e:Expr}{es:List Expr}{kws:List Keyword}{te:TE}{t tk:TA}{CX:C1}{nm:Option Str}{f:Addr}{fd:FuncData}{g:List Value->List Value->List Value}
end
section
variable {X:Cx}{pins:List (Addr×Obj)}{σ:St}{H:Hp}{s:Shared}
end
section
variable {κ:Type}[DecidableEq κ]
noncomputable def Cj (kvs:List (κ×V))(k:κ):Option V:=(kvs.find? λI=>decide (I.1=k)).map (·.2)
noncomputable def Dv (kvs:List (κ×V))(k:κ)(v:V):List (κ×V) :=
 if (kvs.any λI=>decide (I.1=k))=true then kvs.map (λI=>if I.1=k then (I.1,v) else I) else kvs++[(k,v)]
theorem F5 {p:κ×V}{r:List (κ×V)}{k:κ}(e:p.1=k):Cj (p::r) k=some p.2:=by simp[Cj,Rb,e]
theorem F6 {p:κ×V}{r:List (κ×V)}{k:κ}(e:¬p.1=k):Cj (p::r) k=Cj r k:=by simp[Cj,Rb,e]
theorem Oh (k:κ):∀kvs:List (κ×V),(kvs.any λkv=>decide (kv.1=k))=(Cj kvs k).isSome
 |[]=>rfl
 |p::r=>by
  rw[Up];by_cases e:p.1=k
  ·simp only[F5 e,decide_eq_true e,Bool.true_or,Option.isSome_some]
  ·rw[F6 e,decide_eq_false e,Bool.false_or];exact Oh k r
theorem Zjc (k j:κ)(y:V):∀kvs:List (κ×V),Cj (kvs.map λkv=>if kv.1=k then (kv.1,y) else kv) j=(Cj kvs j).map λx=>if j=k then y else x
 |[]=>rfl
 |p::r=>by
  have I:=Zjc k j y r;rw[Qq];by_cases h:p.1=k
  ·rw[if_pos h];by_cases e:p.1=j
   ·rw[F5 (p:=(p.1,y)) e,F5 e,Ul,if_pos (e.symm.trans h)]
   ·rw[F6 (p:=(p.1,y)) e,F6 e,I]
  ·rw[if_neg h];by_cases e:p.1=j
   ·rw[F5 (p:=p) e,F5 e,Ul,if_neg (λz=>h (e.trans z))]
   ·rw[F6 (p:=p) e,F6 e,I]
theorem Ze6 (k j:κ)(y:V):∀kvs:List (κ×V),Cj kvs k=none->Cj (kvs++[(k,y)]) j=if j=k then some y else Cj kvs j
 |[],_=>by
  by_cases e:k=j
  ·rw[if_pos e.symm];exact F5 (p:=(k,y)) e
  ·rw[if_neg (λz=>e z.symm)];exact F6 (p:=(k,y)) e
 |p::r,hn=>by
  rw[Ry];have I:¬p.1=k:=λz=>by rw[F5 z]at hn;cases hn
  rw[F6 I]at hn;have O:=Ze6 k j y r hn;by_cases e:p.1=j
  ·rw[F5 e,F5 e,if_neg (λz=>I (e.trans z))]
  ·rw[F6 e,F6 e,O]
theorem Zvs (kvs:List (κ×V))(k j:κ)(y:V):Cj (Dv kvs k y) j=if j=k then some y else Cj kvs j:=by
 unfold Dv;by_cases a:(kvs.any λI=>decide (I.1=k))=true
 ·rw[if_pos a,Zjc];rw[Oh]at a;by_cases e:j=k
  ·obtain⟨x,O⟩:=R6.mp a;rw[if_pos e,e,O,Ul,if_pos rfl]
  ·rw[if_neg e];cases Cj kvs j with
   |none=>rfl
   |some x=>rw[Ul,if_neg e]
 ·rw[if_neg a];refine Ze6 k j y kvs ?_;rw[Oh]at a;cases q:Cj kvs k with
  |none=>rfl
  |some x=>rw[q]at a;exact(a rfl).elim
theorem Zc7 (kvs:List (κ×V))(k:κ)(v:V):(Dv kvs k v).length<=kvs.length+1:=by
 unfold Dv;split
 ·rw[Pp];lia
 ·rw[Pn,Qa,Th];lia
theorem RelO.isSome_eq (r:RelO o u):o.isSome=u.isSome:=by
 cases o with
 |none=>cases u with
  |none=>rfl
  |some _=>exact(show False from r).elim
 |some _=>cases u with
  |none=>exact(show False from r).elim
  |some _=>rfl
theorem KV.val (r:KV kvs vs)(k:κ):RelO (Cj kvs k) (valueAt vs k):=by
 unfold KV at r
 induction r with
 |nil=>exact True.intro
 | @cons p q ps I h t U =>
  obtain⟨h1,h2⟩:=h;by_cases e:p.1=k
  ·have O:q.1=k:=h1.symm.trans e;have b:valueAt (q::I) k=some q.2:=by simp[valueAt,Rb,O]
   rw[F5 e,b];exact h2
  ·have O:¬q.1=k:=λz=>e (h1.trans z);have b:valueAt (q::I) k=valueAt I k:=by simp[valueAt,Rb,O]
   rw[F6 e,b];exact U
theorem KV.any (r:KV kvs vs)(k:κ):(kvs.any λkv=>decide (kv.1=k))=vs.any λkv=>decide (kv.1=k):=by
 unfold KV at r
 induction r with
 |nil=>rfl
 |cons h t I=>rw[Up,Up,I,h.1]
theorem KV.repl (r:KV kvs vs)(k:κ)(ry:RelV y u) :
  KV (kvs.map λkv=>if kv.1=k then (kv.1,y) else kv) (vs.map λkv=>if kv.1=k then (kv.1,u) else kv):=by
 unfold KV at r ⊢
 induction r with
 |nil=>exact .nil
 | @cons p q ps O h t I =>
  rw[Qq,Qq];refine .cons ?_ I;obtain⟨h1,h2⟩:=h;by_cases e:p.1=k
  ·rw[if_pos e,if_pos (h1.symm.trans e)];exact⟨h1,ry⟩
  ·rw[if_neg e,if_neg (λz=>e (h1.trans z))];exact⟨h1,h2⟩
theorem KV.put (r:KV kvs vs)(k:κ)(ry:RelV y u):KV (Dv kvs k y) (stored vs k u):=by
 unfold Dv stored;rw[r.any k];by_cases e:(vs.any λI=>decide (I.1=k))=true
 ·rw[if_pos e,if_pos e];exact r.repl k ry
 ·rw[if_neg e,if_neg e];exact Paired.snoc r ⟨rfl,ry⟩
theorem KV.length (r:KV kvs vs):kvs.length=vs.length:=Vx r
end
theorem Zar (r:RelV (kV k) u):(Et P w).is k u=true:=by
 cases k with
 |inl i=>obtain⟨t,e⟩:=(show ∃t,u=Value.int i t from r);subst e;exact Zuu P w i t
 |inr x=>obtain⟨t,e⟩:=(show ∃t,u=Value.str x t from r);subst e;exact Zlk P w x t
theorem Zfw:∀{ks:List Aw}{us:List Value},Vals (ks.map kV) us->ItemsAre (Et P w) ks us
 |[],_,r=>by rw[Ur]at r;cases r;exact .nil
 |k::ks,_,r=>by
  rw[Qq]at r;cases r with
  |cons h t=>exact .cons (Zar h) (Zfw t)
noncomputable abbrev KT (H:Hp):List (List Aw×V)->List (List Aw×Addr×Value)->Prop:=Paired λp q=>p.1=q.1/\H q.2.1=some (.tup (p.1.map kV))/\RelV p.2 q.2.2
theorem KT.val (r:KT H kvs xs)(k:List Aw):RelO (Cj kvs k) ((atKey xs k).map (·.2)):=by
 induction r with
 |nil=>exact True.intro
 | @cons p q ps I h t U =>
  obtain⟨h1,_,h2⟩:=h;by_cases e:p.1=k
  ·have O:q.1=k:=h1.symm.trans e;have b:atKey (q::I) k=some q.2:=by simp[atKey,Rb,O]
   rw[F5 e,b];exact h2
  ·have O:¬q.1=k:=λz=>e (h1.trans z);have b:atKey (q::I) k=atKey I k:=by simp[atKey,Rb,O]
   rw[F6 e,b];exact U
theorem KT.repl (r:KT H kvs xs)(k:List Aw)(ry:RelV y u) :
  KT H (kvs.map λkv=>if kv.1=k then (kv.1,y) else kv) (xs.map (putAt k u)):=by
 induction r with
 |nil=>exact .nil
 | @cons p q ps U h t O =>
  rw[Qq,Qq];refine .cons ?_ O;obtain⟨h1,h2,I⟩:=h;unfold putAt;by_cases e:p.1=k
  ·rw[if_pos e,if_pos (h1.symm.trans e)];exact⟨h1,h2,ry⟩
  ·rw[if_neg e,if_neg (λz=>e (h1.trans z))];exact⟨h1,h2,I⟩
theorem KT.put (r:KT H kvs xs)(k:List Aw)(hb:H b=some (.tup (k.map kV)))(ry:RelV y u) :
  KT H (Dv kvs k y) (storedH xs k b u):=by
 have e:(kvs.any λI=>decide (I.1=k))=(atKey xs k).isSome:=by
  rw[Oh,(r.val k).isSome_eq,Option.isSome_map]
 unfold Dv storedH;rw[e];by_cases q:(atKey xs k).isSome=true
 ·rw[if_pos q,if_pos q];exact r.repl k ry
 ·rw[if_neg q,if_neg q];exact Paired.snoc r ⟨rfl,hb,ry⟩
theorem KT.keeps (r:KT H kvs xs)(ht:∀b ys,H b=some (.tup ys)->H' b=some (.tup ys)):KT H' kvs xs :=
 Paired.mapP r λ_ _ z=>⟨z.1,ht _ _ z.2.1,z.2.2⟩
section
variable {P:Program}{w:World}{H:Hp}{h:Heap}{a:Addr}
theorem Zio (ok:HOk P w H h)(e:Rd H a u):ObjOk P w H h a u:=e.ok ok
theorem Oj (ok:HOk P w H h)(e:Rd H a (.dK kvs)):kvs.length<=sizeLine/\(a == sysModules)=false/\∃vs,KV kvs vs/\h.DictOf (Et P w) a vs :=
 show ObjOk P w H h a (.dK kvs) from Zio ok e
theorem Znm (ok:HOk P w H h)(e:H a=some (.dK kvs)):kvs.length<=sizeLine/\(a == sysModules)=false/\∃vs,KV kvs vs/\h.DictOf (Et P w) a vs:=Oj ok (.inl e)
theorem Zah (ok:HOk P w H h)(e:H a=some (.tup (ks.map kV))):(tupleKind (Et P w)).is h ks a:=by
 obtain⟨_,I,r,o,h1,h2,n,O⟩:=(show ObjOk P w H h a (.tup (ks.map kV)) from ok a _ e);exact⟨o,I.toArray,n,h1,h2,O,by simpa using Zfw r⟩
theorem Ob (ok:HOk P w H h)(e:Rd H a (.dT kvs)):kvs.length<=sizeLine/\(a == sysModules)=false /\
  ∃xs,KT H kvs xs/\h.DictOfH (tupleKind (Et P w)) a xs:=by
 obtain⟨z,y,xs,r,o,es,U,h1,h2,Y,Z,h5⟩:=(show ObjOk P w H h a (.dT kvs) from Zio ok e);refine⟨z,y,xs,r,o,es,U,h1,h2,Y,Z,λx I=>?_,h5⟩;have all:∀{l:List (List Aw×V)}{m:List (List Aw×Addr×Value)},KT H l m->∀x∈m,(tupleKind (Et P w)).is h x.1 x.2.1:=by
  intro l m q
  induction q with
  |nil=>intro x I;exact nomatch I
  | @cons p q ps qs O t ih =>
   intro x I;rcases Pr.mp I with e|I
   ·subst e;exact Zah ok (by rw[<- O.1];exact O.2.1)
   ·exact ih x I
 exact all r x I
theorem Zp7 (ok:HOk P w H h)(e:H a=some (.dT kvs)):kvs.length<=sizeLine/\(a == sysModules)=false /\
  ∃xs,KT H kvs xs/\h.DictOfH (tupleKind (Et P w)) a xs:=Ob ok (.inl e)
end
def DGet (H:Hp)(a:Addr)(y:V)(r:Option V):Prop :=
 (eX2 λkvs k=>Rd H a (.dK kvs)/\y=kV k/\r=Cj kvs k)\/eX3 λkvs k b=>Rd H a (.dT kvs)/\y=.ref b/\H b=some (.tup (k.map kV))/\r=Cj kvs k
def DPut (H:Hp)(a:Addr)(y v:V)(H':Hp):Prop :=
 (eX2 λkvs k=>H a=some (.dK kvs)/\y=kV k/\kvs.length<sizeLine/\H'=upd H a (.dK (Dv kvs k v))) \/
 eX3 λkvs k b=>H a=some (.dT kvs)/\y=.ref b/\H b=some (.tup (k.map kV))/\kvs.length<sizeLine/\H'=upd H a (.dT (Dv kvs k v))
theorem DGet.k {H:Hp}{a:Addr}{kvs:List (Aw×V)}{k:Aw}(e:H a=some (.dK kvs)):DGet H a (kV k) (Cj kvs k):=.inl ⟨kvs,k,.inl e,rfl,rfl⟩
theorem DGet.t {H:Hp}{a b:Addr}{kvs:List (List Aw×V)}{k:List Aw}(e:H a=some (.dT kvs))(eb:H b=some (.tup (k.map kV))):DGet H a (.ref b) (Cj kvs k):=.inr ⟨kvs,k,b,.inl e,rfl,eb,rfl⟩
theorem DPut.k {H:Hp}{a:Addr}{kvs:List (Aw×V)}{k:Aw}{v:V}(e:H a=some (.dK kvs))(hl:kvs.length<sizeLine):DPut H a (kV k) v (upd H a (.dK (Dv kvs k v))):=.inl ⟨kvs,k,e,rfl,hl,rfl⟩
theorem DPut.t {H:Hp}{a b:Addr}{kvs:List (List Aw×V)}{k:List Aw}{v:V}(e:H a=some (.dT kvs))(eb:H b=some (.tup (k.map kV)))(hl:kvs.length<sizeLine) :
  DPut H a (.ref b) v (upd H a (.dT (Dv kvs k v))):=.inr ⟨kvs,k,b,e,rfl,eb,hl,rfl⟩
section
variable {X:Cx}{pins:List (Addr×Obj)}{σ:St}{H:Hp}{s:Shared}{a:Addr}{y v:V}{u r:Value}{o:Option V}{A:Around}{E:Value->Shared->Prop}
theorem Inv.big (I:Inv X pins σ H s):sysModules<s.heap.objs.size:=by
 have h:mainGlobals<s.heap.objs.size:=(I.mod.glob.keeps I.bk).lt;exact Nat.lt_trans (by decide) h
theorem Znx (hu:A.units+1<cLine)(I:Inv X pins σ H s)(g:DGet H a y (some v))(ry:RelV y u)(h:∀w' s',Inv X pins σ H s'->RelV v w'->Q w' s') :
  wpAny (model X.prog X.w) A (getItem (.ref a) u) Q E s:=by
 rcases g with⟨kvs,k,e,Y,l⟩|⟨kvs,k,b,e,Y,eb,l⟩
 ·subst Y;obtain⟨z,hd,vs,O,dd⟩:=Oj I.hok e;obtain⟨w',hw,U⟩:=RelO.some_of (v:=v) (o:=valueAt vs k) (by rw[l];exact O.val k);exact wpAny_getItem_of (Zar ry) dd.mapOf hw (h w' _ (I.tok _) U)
 ·subst Y;cases (show u=Value.ref b from ry);obtain⟨z,hd,xs,O,dd⟩:=Ob I.hok e;obtain⟨w',hw,U⟩:=RelO.some_of (v:=v) (o:=(atKey xs k).map (·.2)) (by rw[l];exact O.val k);obtain⟨p,hp,Z⟩:=Q3.mp hw;refine wpAny_getItem_heap (tupleKind_room_in1 hu) (Zah I.hok eb) dd hp ?_;rw[Z];exact h w' _ (I.tok _) U
theorem d_in (hu:A.units+1<cLine)(I:Inv X pins σ H s)(g:DGet H a y o)(ry:RelV y u)(h:∀s',Inv X pins σ H s'->Q (.bool o.isSome) s') :
  wpAny (model X.prog X.w) A (compareOp .In u (.ref a)) Q E s:=by
 rcases g with⟨kvs,k,e,U,l⟩|⟨kvs,k,b,e,U,Y,l⟩
 ·subst U;obtain⟨z,hd,vs,O,dd⟩:=Oj I.hok e;refine wpAny_in_of (Zar ry) hd dd.mapOf ?_;rw[<- (O.val k).isSome_eq,<- l];exact h _ (I.tok _)
 ·subst U;cases (show u=Value.ref b from ry);obtain⟨z,hd,xs,O,dd⟩:=Ob I.hok e;refine wpAny_in_heap (tupleKind_room_in1 hu) (Zah I.hok Y) hd dd ?_;have q:=(O.val k).isSome_eq;rw[Option.isSome_map]at q;rw[<- q,<- l];exact h _ (I.tok _)
theorem Zgo (I:Inv X pins σ H s)(mu:Mut (H a))(hs:P4 a s.heap h')(he:∃q,h'.get? a=some q)(new:ObjOk X.prog X.w (upd H a ob) h' a ob) :
  Inv X pins σ (upd H a ob) { s with heap:=h',toks:=t' } :=
 I.write (x:=a) (e:=a) mu (.inl rfl) (λb q hb z=>(hs.2 b hb).trans z) he new
theorem Zvh (z:kvs.length<=sizeLine)(hd:(a == sysModules)=false)(rel:KV kvs vs)(dd:h'.DictOf (Et P w) a vs) :
  ObjOk P w H' h' a (.dK kvs):=⟨z,hd,vs,rel,dd⟩
end
section
variable {X:Cx}{pins:List (Addr×Obj)}{σ:St}{H:Hp}{s:Shared}{a:Addr}{kvs:List (Aw×V)}{k:Aw}{u:Value}{A:Around}{E:Value->Shared->Prop}
end
def Zcq (i:Expr):Prop:=∀ov iv,subscripted i false ov iv=operate [ov,iv] (getItem ov iv)
theorem Zsm {prog:Program}{w:World}{A:Around}{E:Value->Shared->Prop}{s:Shared}{env:Env}{value slice:Expr}{pos:Pos}{T id:String}{Q:Value->Shared->Prop}
  (hl:typeLookup (.type T) "__getitem__"=pure (some (.builtin id))) (hs:Zcq slice)
  (h:wpAny (model prog w) A (eval value env) (λo s₁=>wpAny (model prog w) A (eval slice env) (λi s₂=>s₂.TypeIs o T/\wpAny (model prog w) A (getItem o i) Q E s₂) E s₁) E s) :
  wpAny (model prog w) A (eval (.Subscript value slice pos) env) Q E s:=by
 refine Subscript_ (Rp h (λo s₁ Z=>Rp Z (λi s₂ I=>?_) λ_ _ x=>x) λ_ _ x=>x);obtain⟨hT,I⟩:=I;unfold subscriptTail;refine Pi ?_;rw[getitemInPython_of_ne hT.not_modules];refine Pi (W2 hT hl ?_);have U:wpAny (model prog w) A (subscripted slice false o i) (λr O=>wpAny (model prog w) A (letTemporaryGo value o r >>= λ_=>pure r) Q E O) E s₂:=by
  rw[hs o i];exact wpAny_operating (Rp I (λr O Y=>Pi (wpAny_letTemporaryGo (Pk Y))) λ_ _ x=>x)
 first
  |exact Pk (Pi U)
  |exact Pi (Pk (Pi U))
  |exact Pi U
theorem Zvn (I:Inv X pins σ H s)(g:DGet H a y o):s.TypeIs (.ref a) "dict":=by
 rcases g with⟨kvs,k,e,_,_⟩|⟨kvs,k,b,e,_,_,_⟩
 ·obtain⟨_,_,vs,_,dd⟩:=Oj I.hok e;exact dd.typeIs
 ·obtain⟨_,_,xs,_,dd⟩:=Ob I.hok e;exact dd.typeIs
def Zi8 (td ty:TE):TE:=λσ H Q=>td σ H λx H1=>ty σ H1 λy H2=>eX2 λa v=>x=.ref a/\DGet H2 a y (some v)/\Q v H2
def tDIn (ty td:TE):TE:=λσ H Q=>ty σ H λy H1=>td σ H1 λx H2=>eX2 λa o=>x=.ref a/\DGet H2 a y o/\Q (.bl o.isSome) H2
section
variable {X:Cx}{o i e value:Expr}{pos pos' tpos:Pos}{td ty tv:TE}
end
theorem Zqk (h:Heap)(hb:sysModules<h.objs.size):ObjOk P w H (h.push { cls:=.type "dict",data:=.dict #[] }) h.objs.size (.dK []) :=
 ⟨Qn _,beq_eq_false_iff_ne.mpr (Pw (P0 hb)),[],.nil,Heap.DictOf.new h⟩
theorem Znt (h:Heap)(hb:sysModules<h.objs.size):ObjOk P w H (h.push { cls:=.type "dict",data:=.dict #[] }) h.objs.size (.dT []) :=
 ⟨Qn _,beq_eq_false_iff_ne.mpr (Pw (P0 hb)),[],.nil,_,#[],0,P3 _ rfl,⟨rfl,rfl,rfl⟩,rfl,rfl,List.nodup_nil⟩
section
variable {X:Cx}{pos:Pos}
end
section
variable {X:Cx}{pins:List (Addr×Obj)}{σ:St}{H:Hp}{s:Shared}{a:Addr}{y d:V}{u r:Value}{o:Option V}{A:Around}{E:Value->Shared->Prop}
end
section
variable {X:Cx}{o e f:Expr}{apos cpos:Pos}{td ty tx:TE}
end
section
variable {X:Cx}{pins:List (Addr×Obj)}{σ:St}{H:Hp}{s:Shared}{a:Addr}{kvs:List (Aw×V)}{A:Around}{E:Value->Shared->Prop}
end
section
variable {X:Cx}{pins:List (Addr×Obj)}{σ:St}{H:Hp}{s:Shared}{a:Addr}{y:V}{u:Value}{A:Around}{E:Value->Shared->Prop}
end
end L2
namespace PySem
theorem Zoz:typeLookup (.type "list") "keys"=pure none:=by rw[Uk,Tx];kernel_rfl
theorem Zs3 (hx:s.heap.get? a=some o)(hc:o.cls=.type "list")(hdat:o.data=.seq xs k)(hd:o.dict=none)(hmiss:typeLookup (.type "list") name=pure none)(hname:(["__module__","__name__","__qualname__","__doc__","__annotations__"]:List Str).contains name=false)(hA:A.handled=none)(h:∀h' tk,(∀b ob,s.heap.get? b=some ob->h'.get? b=some ob)->Q none { s with heap:=h',toks:=tk })(hsz:name.length+100<=sizeLine:=by size_fits) :
  wpAny (model prog w) A (getAttr? (.ref a) name) Q E s:=by
 obtain⟨c,Y,aa,Z⟩:=o;simp only at hc hdat hd;subst hc hdat hd;obtain⟨hp,g,d,tk,os⟩:=s;have U:∀I,(⟨hp,g,d,I,os⟩:Shared).TypeIs (.ref a) "list":=λ_=>⟨_,hx,rfl⟩;have f1:=sub_AttributeError;have f3:=Wc.lookup;have f4:=Wc.bind (.ref a);have f5:=am_list_getattr_none;unfold getAttr? getAttrBy? getAttrBy
 repeat (any_goals (first|assumption|exact U _|((with_reducible show wpAny _ _ (call (Value.builtin "list.__getattribute__") _ _) _ _ _);refine Sy Wc (U _) am_entry_list_getattribute (F.args_list_getattribute_2 _ _) (meets_getattribute_miss_list a xs k Z name _ hmiss hname hsz) ⟨hx,hA,λh' I e O=>?_⟩)|wp_step))
 obtain⟨t',u',he⟩:=O.there;unfold getattributeRaised
 repeat (any_goals (first|assumption|wp_step))
 exact h _ _ O.keeps
namespace F
theorem entry_dict_update_loop:entryFor table "dict.update.loop"=some Builtin.«dict.update.loop»:=entryFor_of_tree (by kernel_rfl)
theorem plain_dict_update_loop:plainId "dict.update.loop"=true:=by right
end F
end PySem
namespace L2
open PySem PySem.Spec PyProof.Rows
section
variable {X:Cx}{pins:List (Addr×Obj)}{σ:St}{H:Hp}{s:Shared}{a:Addr}{y v:V}{u r:Value}{A:Around}{E:Value->Shared->Prop}
theorem Zs8 (hu:A.units<cLine)(I:Inv X pins σ H s)(g:DPut H a y v H')(ry:RelV y u)(rv:RelV v r)(h:∀s',Inv X pins σ H' s'->P4 a s.heap s'.heap->Q () s') :
  wpAny (model X.prog X.w) A (dictSet a u r) Q E s:=by
 rcases g with⟨kvs,k,e,ey,l,eH⟩|⟨kvs,k,b,e,ey,eb,l,eH⟩
 ·subst ey eH;obtain⟨z,hd,vs,O,dd⟩:=Znm I.hok e;have hz:vs.length<=sizeLine:=by rw[<- O.length];exact z
  have hl:(Dv kvs k v).length<=sizeLine:=by have:=Zc7 kvs k v;lia
  refine wpAny_dictSet_pairs (hsz:=hz) (Zar ry) dd λh' U Y=>h _ ?_ Y;have he:∃q,h'.get? a=some q:=let ⟨q,_,_,Z,_⟩:=U;⟨q,Z⟩;exact Zgo I (by rw[e];exact True.intro) Y he (Zvh hl hd (O.put k rv) U)
 ·subst ey eH;cases (show u=Value.ref b from ry);obtain⟨z,hd,xs,O,dd⟩:=Zp7 I.hok e;have hz:xs.length<=sizeLine:=by rw[<- Vx O];exact z
  have hl:(Dv kvs k v).length<=sizeLine:=by have:=Zc7 kvs k v;lia
  refine wpAny_dictSet_heap (hsz:=hz) hu (Zah I.hok eb) dd λh' U Y=>h _ ?_ Y;obtain⟨q,es,ep,Z,h2,h3,h4,_,h5⟩:=U;refine Zgo I (by rw[e];exact True.intro) Y ⟨q,Z⟩ ⟨hl,hd,_,(O.put k eb rv).keeps λc ys ec=>?_,q,es,ep,Z,h2,h3,h4,h5⟩;rw[Af (Ew ec e (λz=>nomatch z))];exact ec
theorem Zt1 {R:Result->Shared->Prop}{p it d:Addr}{xs:List V}{Hs:Nat->Hp}{res:Value}(hh:A.handled=none)(hu:A.units+1<cLine)(hdi:d≠it)(hd:∀i,i<=xs.length->SqL X.K (Hs i) p xs)(hf:∀i,FpOk X pins (Hs i) it)
  (hs:∀i x,xs[i]?=some x->eX3 λ(c:Addr)(y v:V)=>x=.ref c/\SqT X.K (Hs i) c [y,v]/\DPut (Hs i) d y v (Hs (i+1)))
  (fin:∀s',Inv X pins σ (Hs xs.length) s'->R (.ok (.ret res)) s') :
  ∀(k i:Nat)(s:Shared),xs.length-i=k->i<=xs.length->Inv X pins σ (Hs i) s->s.heap.IsListIter it p i ->
  codeAny (model X.prog X.w) A (.builtin "dict.update.loop" ⟨[.ref d,.ref it,rawInt i,res],[]⟩) R s:=by
 intro k
 induction k with
 |zero =>
  intro i s hk hi I st;have ac:i=xs.length:=by lia
  subst ac;obtain⟨ad,rv,pl,hz⟩:=I.list (hd _ hi);obtain⟨f0,f1,f2,f3,f4,f5⟩:=hf xs.length;have hl:=rv.length;refine Tg PySem.F.entry_dict_update_loop ?_;rw[Tb PySem.F.plain_dict_update_loop _];show wpAny _ A.in1 (pyNext (.ref it) >>= _) _ _ s;refine Pi (wpAny_pyNext_list_end hh st pl.isList (by simp;lia) λh' eb=>?_);have I':=I.turned (t':=s.toks) (λb o hb e=>eb b o hb e) f0 f1 f3 f4 f5;exact Pi (Pk (Pk (fin _ I')))
 |succ k ih =>
  intro i s hk hi I st;have O:i<xs.length:=by lia
  obtain⟨ad,rv,pl,hz⟩:=I.list (hd _ hi);obtain⟨c,y,v,ex,hc,Z⟩:=hs i _ (Pj O);obtain⟨u,ae,ru⟩:=rv.get (Pj O);rw[ex]at ru;cases ru;obtain⟨f0,f1,f2,f3,f4,f5⟩:=hf i;refine Tg PySem.F.entry_dict_update_loop ?_;rw[Tb PySem.F.plain_dict_update_loop _];show wpAny _ A.in1 (pyNext (.ref it) >>= _) _ _ s;refine Pi (wpAny_pyNext_list_item st pl.isList (x:=.ref c) (by simpa using ae) λh' aa sb=>?_);have I1:Inv X pins σ (Hs i) { s with heap:=h' }:=I.turned (t':=s.toks) (λb o hb e=>(sb.2 b hb).trans e) f0 f1 f3 f4 f5;obtain⟨U,af,pt,aj⟩:=I1.tuple hc;obtain⟨u1,Y,rfl,r1,r2⟩:eX2 λu1 Y=>U=[u1,Y]/\RelV y u1/\RelV v Y:=by
   cases af with
   |cons r1 t=>cases t with
    |cons r2 t=>cases t;exact⟨_,_,rfl,r1,r2⟩
  obtain⟨ot,et,ct,nt,dt⟩:=pt;obtain⟨oc,od,ai,ah⟩:=ot;cases ct;cases dt;refine Pi (Q6 ?_);refine Pi (wpAny_tryCatch ?_);have hT:(⟨h',s.gens,s.drawn,s.toks,s.os⟩:Shared).TypeIs (.ref c) "tuple":=⟨_,et,rfl⟩;unfold Builtin.Dict.pairItems;refine Pi (Ts hT ?_);rw[if_pos (by decide)];refine Pi ?_;unfold seqItems?;refine Pi (wpAny_load et (Pk (Pk ?_)));show wpAny _ A.in1 (holding [u1,Y] (dictSet d u1 Y)) _ _ _;refine Q6 (Zs8 (by exact hu) I1 Z r1 r2 λs2 I2 ag=>?_);refine Pk ⟨Su PySem.F.plain_dict_update_loop _,?_⟩;have e1:rawInt ((i:Int)+1)=rawInt (((i+1:Nat)):Int):=rfl;rw[e1];exact ih (i+1) s2 (by lia) O I2 (aa.at λo e=>(ag.2 it (Pw hdi)).trans e)
noncomputable def Cg {κ:Type}[DecidableEq κ](kvs:List (κ×V))(l:List (κ×V)):List (κ×V):=l.foldl (λa I=>Dv a I.1 I.2) kvs
theorem Zge {κ:Type}[DecidableEq κ](l:List (κ×V)):∀kvs:List (κ×V),(Cg kvs l).length<=kvs.length+l.length:=by
 induction l with
 |nil=>intro kvs;exact Pl _
 |cons I r O =>
  intro kvs;have h1:=O (Dv kvs I.1 I.2);have h2:=Zc7 kvs I.1 I.2;rw[Qa];show(Cg (Dv kvs I.1 I.2) r).length<=_;lia
theorem Zgk {κ:Type}[DecidableEq κ]{l:List (κ×V)}{i:Nat}{kv:κ×V}(h:l[i]?=some kv)(kvs:List (κ×V)):Cg kvs (l.take (i+1))=Dv (Cg kvs (l.take i)) kv.1 kv.2:=by
 unfold Cg;rw[Sa,h,List.foldl_append];rfl
def Zkl (K:Ph):List V->Hp->VK->Prop:=λxs H Q=>eX2 λ(p:Addr)(vs:List V)=>xs=[.ref p]/\SqL K H p vs /\
 ((∃kvs:List (Aw×V),Al (λx (I:Aw×V)=>∃a,x=.ref a/\SqT K H a [kV I.1,I.2]) vs kvs/\∀d,H d=none->Q (.ref d) (upd H d (.dK (Cg [] kvs)))) \/
   (∃kvs:List (List Aw×V),Al (λx (I:List Aw×V)=>eX2 λa b=>x=.ref a/\SqT K H a [.ref b,I.2]/\H b=some (.tup (I.1.map kV))) vs kvs/\∀d,H d=none->Q (.ref d) (upd H d (.dT (Cg [] kvs)))))
theorem Zjx {p:Addr}{vs:List V}{Q:VK}{Hs:Nat->Hp}(hu:A.units+3<cLine)(hh:A.handled=none)(I:Inv X pins σ H s)(hq:SqL X.K H p vs)(d:Addr)(hdd:d=s.heap.objs.size)
  (h0:Inv X pins σ (Hs 0) { s with heap:=s.heap.push { cls:=.type "dict",data:=.dict #[] } }) (hs0:∀i b,H b=none->b≠d->Hs i b=none) (hsd:∀i,i<=vs.length->SqL X.K (Hs i) p vs)
  (hs:∀i x,vs[i]?=some x->eX3 λ(c:Addr)(y v:V)=>x=.ref c/\SqT X.K (Hs i) c [y,v]/\DPut (Hs i) d y v (Hs (i+1))) (q:Q (.ref d) (Hs vs.length)) :
  wpAny (model X.prog X.w) A (call (.type "dict") [.ref p]) (EP X pins σ Q) E s:=by
 refine callType_codes (Q₁:=λobj U=>obj=.ref s.heap.objs.size/\U={ s with heap:=s.heap.push { cls:=.type "dict",data:=.dict #[] } }) F.kt_called_dict (F.kt_typeCall_dict_1 _) F.entry_dict_init (kt_code_dict_new _ ⟨rfl,rfl⟩) ?_;rintro obj U ⟨rfl,rfl⟩;have Y:({ s with heap:=s.heap.push { cls:=.type "dict",data:=.dict #[] } }:Shared).TypeIs (.ref s.heap.objs.size) "dict":=⟨_,P3 _ rfl,rfl⟩;refine⟨Y,F.args_dict_init_2 _ _,?_⟩;unfold Builtin.«dict.__init__»;refine Pi ?_;unfold Builtin.Dict.selfAndRest;refine Pi (wpAny_notOrdered_dict Y ?_);show wpAny _ _ (pure (s.heap.objs.size,[Value.ref p])) _ _ _;refine Pk ?_;show wpAny _ _ (Builtin.Dict.updateFrom "dict.__init__" s.heap.objs.size (.ref p) [] .none) _ _ _;subst hdd;obtain⟨ae,rv,pl,hz⟩:=h0.list (hsd 0 (Qn _));have ad:s.heap.objs.size<(s.heap.push { cls:=Value.type "dict",data:=Data.dict #[] }).objs.size:=by rw[Qt];exact Vj _
 generalize hs1:({ s with heap:=s.heap.push { cls:=.type "dict",data:=.dict #[] } }:Shared)=s1 at *
 have af:s.heap.objs.size<s1.heap.objs.size:=by rw[<- hs1];exact ad
 obtain⟨ol,nl,el,cl,dn,dl⟩:=pl;unfold Builtin.Dict.updateFrom;refine Pi (Ts ⟨_,el,cl⟩ ?_);rw[if_pos (by decide)];refine Pi (Zs3 el cl dl dn Zoz (by right) hh (λh2 Z kp=>?_) (by right));rw[if_pos (by decide)];refine Pi (Tu ?_);have I2:Inv X pins σ (Hs 0) { s1 with heap:=h2,toks:=Z }:=h0.kept kp;have ac:h2.IsList p ae.toArray:=⟨ol,kp _ _ el,cl,nl,dl⟩;refine Pi (Vi ac ?_);have O:s.heap.objs.size<h2.objs.size:=by
  obtain⟨on,en,_⟩:=Y;exact Pq (kp _ _ en)
 have aa:∀i,Hs i h2.objs.size=none:=λi=>hs0 i _ (I.hok.fresh (Uq O)) (Q1 O);refine Pk ⟨Su PySem.F.plain_dict_update_loop _,Zt1 (A:=A.in1) (Hs:=Hs) (xs:=vs) (p:=p) hh (by show A.units+1+1<cLine;lia) (P0 O) hsd (λi=>I2.fpOk (Pl _) (aa i)) hs (λs' I'=>?_) vs.length 0 _ rfl (Qn _) (I2.kept (t':=Z) λb o e=>Po _ e) ⟨_,P3 _ rfl,rfl,rfl⟩⟩;exact⟨rfl,.ref s.heap.objs.size,_,I',rfl,q⟩
theorem Zpg (hu:X.A.units+3<cLine)(hh:X.calm=true):Cz X (.type "dict") (Zkl X.K):=by
 intro pins s σ H xs us Q I r h;obtain⟨p,vs,rfl,Y,h⟩:=h;obtain⟨u,rfl,rx⟩:=Jl r;cases rx;have U:H s.heap.objs.size=none:=I.hok.fresh (Pl _);have ac:p≠s.heap.objs.size:=by
  obtain⟨aa,rv,⟨o,n,e,_⟩,hz⟩:=I.list Y;exact P0 (Pq e)
 have hn:vs.length<=sizeLine:=by
  obtain⟨aa,rv,_,hz⟩:=I.list Y;exact hz
 rcases h with⟨kvs,Z,q⟩|⟨kvs,Z,q⟩
 ·refine Zjx (Hs:=λi=>upd H s.heap.objs.size (.dK (Cg [] (kvs.take i)))) hu (I.ok.hd hh) I Y s.heap.objs.size rfl (I.laid (a:=s.heap.objs.size) (o:=.dK []) (t':=s.toks) (λ_ _ q=>Po _ q) (Pl _) (Zqk s.heap I.big)) (λi b hb hd=>by show upd H _ _ b=none;rw[Af hd];exact hb) (λi _=>(Same.upd U).seq Y) (λi x hx=>?_) ?_
  ·obtain⟨kv,O,c,rfl,hc⟩:=Z.get hx;have hi:i<vs.length:=(Ps.mp hx).1;refine⟨c,_,_,rfl,(Same.upd U).tup hc,?_⟩;show DPut _ _ _ _ (upd H s.heap.objs.size (.dK (Cg [] (kvs.take (i+1)))));rw[Zgk O];have hl:(Cg [] (kvs.take i)).length<sizeLine:=by have:=Zge (kvs.take i) ([]:List (Aw×V));rw[Qp]at this;simp only[Th]at this;lia
   have r:=DPut.k (H:=upd H s.heap.objs.size (.dK (Cg [] (kvs.take i)))) (k:=kv.1) (v:=kv.2) Ac hl;rw[Jj]at r;exact r
  ·show Q _ (upd H s.heap.objs.size (.dK (Cg [] (kvs.take vs.length))));rw[Z.1,Uh];exact q _ U
 ·refine Zjx (Hs:=λi=>upd H s.heap.objs.size (.dT (Cg [] (kvs.take i)))) hu (I.ok.hd hh) I Y s.heap.objs.size rfl (I.laid (a:=s.heap.objs.size) (o:=.dT []) (t':=s.toks) (λ_ _ q=>Po _ q) (Pl _) (Znt s.heap I.big)) (λi b hb hd=>by show upd H _ _ b=none;rw[Af hd];exact hb) (λi _=>(Same.upd U).seq Y) (λi x hx=>?_) ?_
  ·obtain⟨kv,O,c,b,rfl,hc,hb⟩:=Z.get hx;have hi:i<vs.length:=(Ps.mp hx).1;refine⟨c,_,_,rfl,(Same.upd U).tup hc,?_⟩;show DPut _ _ _ _ (upd H s.heap.objs.size (.dT (Cg [] (kvs.take (i+1)))));rw[Zgk O];have hl:(Cg [] (kvs.take i)).length<sizeLine:=by have:=Zge (kvs.take i) ([]:List (List Aw×V));rw[Qp]at this;simp only[Th]at this;lia
   have r:=DPut.t (H:=upd H s.heap.objs.size (.dT (Cg [] (kvs.take i)))) (v:=kv.2) Ac ((Same.upd U) _ _ hb) hl;rw[Jj]at r;exact r
  ·show Q _ (upd H s.heap.objs.size (.dT (Cg [] (kvs.take vs.length))));rw[Z.1,Uh];exact q _ U
end
theorem Room.u1 (r:Room k A):A.units+1<cLine:=by have:=r.u200;lia
section
variable {X:Cx}{k:Nat}{x m f:Str}{ps:List Str}{sp:Sp}{E:XK}{C:Addr}{p pos pos' tpos apos:Pos}{e o i value:Expr}{es:List Expr}{ta tv td ty:TE}{t:TA}{CX:C1}{P:Program}{w:World}{mg:Str->Option Value}{base:Heap}{K:Ph}
theorem Zgd (K:Ph)(CX:C1)(ps:List Str)(he:QE X o ta)(hr:Room k X.A)(hx:G6 CX X E)(hP:autoParam (X.prog=P) zX)(hw:autoParam (X.w=w) zX)(hK:autoParam (X.K=K) zX)(hmg:autoParam (X.mg=mg) zX)(hbs:autoParam (X.base=base) zX)(ht:autoParam (eval (.Call (.Attribute o m apos) [] [] pos) X.env=(do
   let ov <- eval o X.env
   standAt apos.atName
   let (f,first) <- holding [ov] (getMethod ov m pl)
   callWith pos f first (backTo pos (starEach [] X.env)) (backToKw pos (keywordEach [] X.env)))) zX) :
  QE X (.Call (.Attribute o m apos) [] [] pos) (Zfo CX P w K mg base k m ps E ta Fo):=by
 subst hP hw hK hmg hbs;refine⟨λpins s σ H Q I h=>?_⟩;refine PySem.W.methodCall_KW (pl:=pl) (As (he.run pins s σ H _ I h) λu s1 Y=>?_) ht;obtain⟨x,H1,O,rx,a,C,dx,fs,sp,ex,Z,l,M,q⟩:=Y;obtain⟨g,fd,F,c,U,hb⟩:=M.ex;subst ex;obtain rfl:u=Value.ref a:=rx;refine Zfr O Z c U l ?_;exact PySem.W.callWith_K0 (first:=[.ref a]) O.kIn U.kp (Zc8 (us:=[.ref a]) (vs:=[.ref a]) (dvs:=[]) F hr hb .nil hx O (.cons rfl .nil) q)
theorem Zh5 (K:Ph)(ha:QE X o ta)(hv:QE X value tv)(hop:Zcd X op rd)(hK:autoParam (X.K=K) zX):QS X (.AugAssign (.Attribute o f tpos) op value pos) (Zjg K ta tv rd f):=by subst hK;exact⟨Zwk ha.run hv.run hop⟩
theorem Zfv (K:Ph)(hu:X.A.units+200<cLine)(hh:X.calm=true)(hK:autoParam (X.K=K) zX):Cz X (.type "dict") (Zkl K):=by subst hK;exact Zpg (by lia) hh
theorem Nn (hu:X.A.units+1<cLine)(ho:QE X o td)(hi:QE X i ty)(hs:Zcq i):QE X (.Subscript o i pos) (Zi8 td ty):=by
 refine⟨?_⟩;have ho:=ho.run;have hi:=hi.run
 intro pins s σ H Q I h;refine Zsm PySem.F.slot_dict_getitem.lookup hs (As (ho pins s σ H _ I h) λu s1 O=>?_);obtain⟨x,H1,I1,rx,q1⟩:=O;refine As (hi pins s1 σ H1 _ I1 q1) λiv s2 O=>?_;obtain⟨y,H2,Y,Z,a,v,ex,g,q2⟩:=O;subst ex;obtain rfl:u=Value.ref a:=rx;exact⟨Zvn Y g,Znx hu Y g Z λw' s3 I3 U=>⟨v,H2,I3,U,q2⟩⟩
theorem Zlt (hu:X.A.units+1<cLine)(hi:QE X i ty)(ho:QE X o td):QC X .In i o (tDIn ty td):=by
 refine⟨?_⟩;have hi:=hi.run;have ho:=ho.run
 intro pins s σ H Q I h;refine As (hi pins s σ H _ I h) λiv s1 O=>?_;obtain⟨y,H1,I1,Y,q1⟩:=O;refine As (ho pins s1 σ H1 _ I1 q1) λu s2 O=>?_;obtain⟨x,H2,U,rx,a,ov,ex,g,q2⟩:=O;subst ex;obtain rfl:u=Value.ref a:=rx;exact d_in hu U g Y λs3 Z=>⟨.bl ov.isSome,H2,Z,rfl,q2⟩
def Zci (K:Ph):R2:=λx y H Q=>Ji K x y H Q\/eX4 λ(a b:Addr)(xs ys:List V)=>x=.ref a/\y=.ref b/\H a=some (.tup xs)/\H b=some (.tup ys)/\xs.length+ys.length<=sizeLine/\∀p H',Same H H'->H' p=some (.tup (xs++ys))->Q (.ref p) H'
theorem Zv4:OpR X (binaryOp .Add) (Zci X.K):=by
 refine op_addA.or ?_;intro pins s σ H x y v u Q I rx ry h;obtain⟨a,b,xs,ys,rfl,rfl,ha,hb,hz,q⟩:=h;have O:SqT X.K H a xs:=SqT.of ha;have aa:SqT X.K H b ys:=SqT.of hb;by_cases hx:xs=[]
 ·subst hx;cases rx;cases ry;obtain⟨ai,r1,p1,_⟩:=I.tuple O;obtain⟨af,r2,p2,_⟩:=I.tuple aa;cases r1;obtain⟨⟨aj,dd,ah,sl⟩,ho,hc,n,hd⟩:=id p1;obtain⟨⟨ag,ae,ad,ac⟩,U,Y,n2,Z⟩:=id p2;simp only at hc hd Y Z;subst hc hd Y Z;exact V3 ⟨_,ho,rfl⟩ ⟨_,U,rfl⟩ Vk Vy U8 U5 (U2 _ _)
   (tuple_addW0 a b _ _ n n2 dd ae sl ac (by simp)) ⟨ho,U,⟨.ref b,H,I,rfl,q b H (Same.refl H) hb⟩⟩
 ·refine Zhu pins s σ H _ _ v u Q I rx ry ⟨a,b,xs,ys,rfl,rfl,O,aa,hx,hz,λe=>?_,λ_ p hp=>q p _ (λc o e=>by rw[Af (C9 e hp)];exact e) Ac⟩;subst e;exact q a H (Same.refl H) (by rw[Q0];exact ha)
theorem Jo (K:Ph)(hK:autoParam (X.K=K) zX):OpR X (binaryOp .Add) (Zci K):=by subst hK;exact Zv4
theorem Zbz (ha:H a=some (.tup xs))(hb:H b=some (.tup ys))(hz:xs.length+ys.length<=sizeLine)(h:∀p H',Same H H'->H' p=some (.tup (xs++ys))->Q (.ref p) H'):Zci K (.ref a) (.ref b) H Q:=.inr ⟨a,b,xs,ys,rfl,rfl,ha,hb,hz,h⟩
end
end L2
namespace L2
open PySem
def RowT (K:Ph)(H:Hp)(v:V)(x:List Nat×Tr):Prop:=eX3 λ(a p:Addr)(u:V)=>v=.ref a/\SqT K H a [.ref p,u]/\H p=some (.tup (A2 x.1))/\TrAt K H u x.2
theorem RowT.same (e:SameT H H')(v:V)(x:List Nat×Tr)(h:RowT K H v x):RowT K H' v x:=by
 obtain⟨a,p,u,r,q,I,t⟩:=h;exact⟨a,p,u,r,e.tup q,(e p).1 _ I,t.sameT e⟩
theorem Zk5 {κ:Type}[DecidableEq κ](l:List (κ×V))(kv:κ×V)(kvs:List (κ×V)):Cg kvs (l++[kv])=Dv (Cg kvs l) kv.1 kv.2:=by
 unfold Cg;rw[List.foldl_append];rfl
noncomputable def E8 {κ:Type}[DecidableEq κ](l:List (κ×V))(k:κ):Option V:=(l.reverse.find? λI=>decide (I.1=k)).map (·.2)
theorem Zeg {κ:Type}[DecidableEq κ](l:List (κ×V))(kv:κ×V)(k:κ):E8 (l++[kv]) k=if kv.1=k then some kv.2 else E8 l k:=by
 unfold E8;rw[Tc,U9,Wh,Rb];by_cases h:kv.1=k
 ·simp[h]
 ·simp[h]
theorem Zd7 {α:Type}{P:List α->Prop}(h0:P [])(h1:∀l x,P l->P (l++[x]))(l:List α):P l:=by
 rw[<- l.reverse_reverse]
 induction l.reverse with
 |nil=>exact h0
 |cons x r I=>rw[Wu];exact h1 _ _ I
theorem Zbs {κ:Type}[DecidableEq κ](l:List (κ×V))(k:κ):Cj (Cg [] l) k=E8 l k:=by
 refine Zd7 (P:=λl=>Cj (Cg [] l) k=E8 l k) rfl (λl I O=>?_) l;rw[Zk5,Zeg,Zvs,O];by_cases h:I.1=k
 ·rw[if_pos h,if_pos h.symm]
 ·rw[if_neg h,if_neg (Pw h)]
structure Wt where
 pl:List Nat
 ar:List (Str×Str×V)
 came:Bool
structure MS where
 rows:List Rx
 wait:List Wt
 things:List (Str×V)
 steps:Int
noncomputable def Ap (pl:List Nat):List Int:=pl.map λi:Nat=>((i:Nat):Int)
theorem Fl (pl:List Nat):(Ap pl).map V.int=A2 pl:=by unfold Ap A2;rw[Uu];rfl
noncomputable def Ed (pl:List Nat):List Aw:=pl.map λi:Nat=>Sum.inl ((i:Nat):Int)
theorem Lh (pl:List Nat):(Ed pl).map kV=A2 pl:=by unfold Ed A2;rw[Uu];rfl
def WtAt (K:Ph)(A:Addr->Prop)(H:Hp)(v:V)(x:Wt):Prop:=eX4 λ(a p e:Addr)(ev:List V)=>v=.ref a/\SqT K H a [.ref p,.ref e,.bl x.came]/\H p=some (.tup (A2 x.pl))/\H e=some (.lst ev)/\Al (PrAt K H) ev x.ar/\¬A e
theorem WtAt.same (s:SameA A H H')(v:V)(x:Wt)(h:WtAt K A H v x):WtAt K A H' v x:=by
 obtain⟨a,p,e,U,h1,h2,Y,O,h5,I⟩:=h;exact⟨a,p,e,U,h1,s.1.tup h2,(s.1 p).1 _ Y,s.2 _ _ I O,h5.mono (PrAt.same s.1),I⟩
theorem WtAt.mono (s:∀b,B b->H b≠none->A b)(v:V)(x:Wt)(h:WtAt K A H v x):WtAt K B H v x:=by
 obtain⟨a,p,e,O,h1,h2,U,I,h5,Y⟩:=h;exact⟨a,p,e,O,h1,h2,U,I,h5,λb=>Y (s e b (by rw[I];simp))⟩
def RwX (K:Ph)(A:Addr->Prop)(H:Hp)(v:V)(x:Rx):Prop:=RwAt K A H v x/\eX4 λ(a p o e:Addr)=>v=.ref a/\SqT K H a [.str x.wd,.ref p,.ref o,.ref e]/\H p=some (.tup (x.pl.map V.int))
theorem RwX.same (s:SameA A H H')(v:V)(x:Rx)(h:RwX K A H v x):RwX K A H' v x:=by
 obtain⟨h1,a,p,o,e,r,q,t⟩:=h;exact⟨RwAt.same s v x h1,a,p,o,e,r,s.1.tup q,(s.1 p).1 _ t⟩
theorem RwX.mono (s:∀b,B b->H b≠none->A b)(v:V)(x:Rx)(h:RwX K A H v x):RwX K B H v x:=⟨RwAt.mono s v x h.1,h.2⟩
def RwO (K:Ph)(A:Addr->Prop)(H:Hp)(v:V)(y:Rx×Addr×Addr):Prop:=eX4 λ(a p:Addr)(ov ev:List V)=>v=.ref a/\SqT K H a [.str y.1.wd,.ref p,.ref y.2.1,.ref y.2.2]/\SqT K H p (y.1.pl.map V.int)/\H y.2.1=some (.lst ov)/\Al (ThAt K H) ov y.1.ops/\H y.2.2=some (.lst ev)/\Al (PrAt K H) ev y.1.ar/\¬A y.2.1/\¬A y.2.2/\y.2.1≠y.2.2
theorem RwO.same (s:SameA A H H')(v:V)(y:Rx×Addr×Addr)(h:RwO K A H v y):RwO K A H' v y:=by
 obtain⟨a,p,ov,Y,h1,h2,Z,U,h5,h6,h7,O,I,hn⟩:=h;exact⟨a,p,ov,Y,h1,s.1.tup h2,s.1.tup Z,s.2 _ _ O U,h5.mono (ThAt.same s.1),s.2 _ _ I h6,h7.mono (PrAt.same s.1),O,I,hn⟩
theorem RwO.mono (s:∀b,B b->H b≠none->A b)(v:V)(y:Rx×Addr×Addr)(h:RwO K A H v y):RwO K B H v y:=by
 obtain⟨a,p,ov,U,h1,h2,Y,I,h5,O,h7,h8,Z,hn⟩:=h;exact⟨a,p,ov,U,h1,h2,Y,I,h5,O,h7,λb=>h8 (s _ b (by rw[I];simp)),λb=>Z (s _ b (by rw[O];simp)),hn⟩
def SepR (K:Ph)(A:Addr->Prop)(H:Hp)(rv:List V)(rs:List Rx):Prop:=∃ys:List (Rx×Addr×Addr),ys.map (·.1)=rs/\Al (RwO K A H) rv ys/\∀(i j:Nat)(x y:Rx×Addr×Addr),ys[i]?=some x->ys[j]?=some y->i<j->x.2.1≠y.2.1/\x.2.1≠y.2.2/\x.2.2≠y.2.1/\x.2.2≠y.2.2
theorem SepR.nil:SepR K A H [] []:=⟨[],rfl,.nil,λi j x y h=>by simp at h⟩
theorem SepR.same (h:SepR K A H rv rs)(s:SameA A H H'):SepR K A H' rv rs:=by
 obtain⟨ys,e,I,d⟩:=h;exact⟨ys,e,I.mono (RwO.same s),d⟩
theorem SepR.mono (h:SepR K A H rv rs)(s:∀b,B b->H b≠none->A b):SepR K B H rv rs:=by
 obtain⟨ys,e,I,d⟩:=h;exact⟨ys,e,I.mono (RwO.mono s),d⟩
theorem SepR.add (h:SepR K A H rv rs)(s:Same H H')(ho:H y.2.1=none)(he:H y.2.2=none)(q:RwO K A H' v y):SepR K A H' (rv++[v]) (rs++[y.1]):=by
 obtain⟨ys,er,al,d⟩:=h;refine⟨ys++[y],by rw[Qi,er];rfl,(al.mono (RwO.same s.a)).snoc q,λi j x z hi I aa=>?_⟩;have Z:j<(ys++[y]).length:=(Ps.mp I).1;rw[Pn,Py]at Z;have O:i<ys.length:=by lia
 rw[Qj O]at hi;by_cases Y:j<ys.length
 ·rw[Qj Y]at I;exact d i j x z hi I aa
 ·have ej:j=ys.length:=by lia
  rw[ej]at I;simp at I;obtain⟨v',hv⟩:∃v,rv[i]?=some v:=⟨_,Pj (by rw[al.1];exact O)⟩;obtain⟨x',U,a2,p2,ac,ad,g1,g2,g3,g4,g5,g6,g7,g8,g9,_⟩:=al.get hv;rw[hi]at U;cases U;rw[<- I];exact⟨λz=>(by rw[z,ho]at g4;cases g4),λz=>(by rw[z,he]at g4;cases g4),λz=>(by rw[z,ho]at g6;cases g6),λz=>(by rw[z,he]at g6;cases g6)⟩
structure Ml where
 m:Addr
 dx:Addr
 fd:Addr
 rd:Addr
 wd:Addr
 td:Addr
def Ml.A (L:Ml)(b:Addr):Prop:=b=L.rd\/b=L.wd\/b=L.td
noncomputable def Ml.fs (L:Ml)(n:Int):List (Str×V):=[("forms",.ref L.fd),("rows",.ref L.rd),("waiting",.ref L.wd),("things",.ref L.td),("steps",.int n)]
structure MAt (K:Ph)(HB:Hp)(C:Addr)(kvs:List (List Aw×V))(L:Ml)(H:Hp)(S:MS):Prop where
 base:Same HB H
 nm:HB L.m=none
 nr:HB L.rd=none
 nw:HB L.wd=none
 nt:HB L.td=none
 ins:H L.m=some (.ins C L.dx (L.fs S.steps))
 frm:H L.fd=some (.dT kvs)
 rw:L.rd≠L.wd
 rt:L.rd≠L.td
 wt:L.wd≠L.td
 rows:∃rv,H L.rd=some (.lst rv)/\Al (RwX K (λb=>L.A b\/HB b≠none) H) rv S.rows/\SepR K (λb=>L.A b\/HB b≠none) H rv S.rows
 wait:∃wv,H L.wd=some (.lst wv)/\Al (WtAt K L.A H) wv S.wait
 things:∃tv,H L.td=some (.lst tv)/\Al (ThAt K H) tv S.things
def SameM (L:Ml)(H H':Hp):Prop:=∀b o,b≠L.m->¬L.A b->H b=some o->H' b=some o
theorem SameM.refl (L:Ml)(H:Hp):SameM L H H:=λ_ _ _ _ h=>h
theorem SameM.trans (a:SameM L H H1)(b:SameM L H1 H2):SameM L H H2:=λc o h1 h2 h=>b c o h1 h2 (a c o h1 h2 h)
theorem _root_.L2.Same.m (e:Same H H')(L:Ml):SameM L H H':=λb o _ _ h=>e b o h
theorem SameM.trans' (a:SameM L H H1)(b:SameM L' H1 H2)(hm:L'.m=L.m)(hr:L'.rd=L.rd)(hw:L'.wd=L.wd)(ht:L'.td=L.td\/H L'.td=none):SameM L H H2:=λc o h1 h2 h=>by
 refine b c o (by rw[hm];exact h1) ?_ (a c o h1 h2 h);rintro(z|z|z)
 ·exact h2 (.inl (z.trans hr))
 ·exact h2 (.inr (.inl (z.trans hw)))
 ·rcases ht with e|e
  ·exact h2 (.inr (.inr (z.trans e)))
  ·rw[<- z,h]at e;cases e
section
variable {K:Ph}{HB H H':Hp}{C:Addr}{kvs:List (List Aw×V)}{L:Ml}{S:MS}
theorem MAt.ne (M:MAt K HB C kvs L H S)(h:H b=some o)(hi:∀c d f,o≠.ins c d f)(hl:∀xs,o≠.lst xs):b≠L.m/\¬L.A b:=by
 obtain⟨Y,I,_⟩:=M.rows;obtain⟨Z,U,_⟩:=M.wait;obtain⟨tv,O,_⟩:=M.things;refine⟨λz=>?_,?_⟩
 ·rw[z,M.ins]at h;cases h;exact hi _ _ _ rfl
 ·rintro(z|z|z)
  ·rw[z,I]at h;cases h;exact hl _ rfl
  ·rw[z,U]at h;cases h;exact hl _ rfl
  ·rw[z,O]at h;cases h;exact hl _ rfl
theorem MAt.a (M:MAt K HB C kvs L H S)(e:SameM L H H'):SameA L.A H H':=by
 refine⟨λb=>⟨λxs h=>?_,λo u h=>?_⟩,λb xs n h=>?_⟩
 ·obtain⟨h1,h2⟩:=M.ne h (λ_ _ _ z=>nomatch z) (λ_ z=>nomatch z);exact e b _ h1 h2 h
 ·obtain⟨h1,h2⟩:=M.ne h (λ_ _ _ z=>nomatch z) (λ_ z=>nomatch z);exact e b _ h1 h2 h
 ·refine e b _ (λz=>?_) n h;rw[z,M.ins]at h;cases h
theorem MAt.t (M:MAt K HB C kvs L H S)(e:SameM L H H'):SameT H H':=(M.a e).1
theorem MAt.outer (M:MAt K HB C kvs L H S)(e:SameM L H H'):Same HB H':=λb o h=>by
 refine e b o (λz=>?_) ?_ (M.base b o h)
 ·rw[z,M.nm]at h;cases h
 ·rintro(z|z|z)
  ·rw[z,M.nr]at h;cases h
  ·rw[z,M.nw]at h;cases h
  ·rw[z,M.nt]at h;cases h
theorem MAt.big (M:MAt K HB C kvs L H S)(e:SameM L H H'):SameA (λb=>L.A b\/HB b≠none) H H':=(M.a e).mono λ_ h=>.inl h
theorem MAt.new (M:MAt K HB C kvs L H S)(e:Same H H'):MAt K HB C kvs L H' S:=by
 obtain⟨I,Y,ar,sp⟩:=M.rows;obtain⟨U,ew,O⟩:=M.wait;obtain⟨tv,Z,at_⟩:=M.things;exact⟨M.base.trans e,M.nm,M.nr,M.nw,M.nt,e _ _ M.ins,e _ _ M.frm,M.rw,M.rt,M.wt,⟨I,e _ _ Y,ar.mono (RwX.same e.a),sp.same e.a⟩,⟨U,e _ _ ew,O.mono (WtAt.same e.a)⟩,⟨tv,e _ _ Z,at_.mono (ThAt.same e.t)⟩⟩
theorem SameM.upd (hx:x=L.m\/L.A x):SameM L H (upd H x o):=λb o' h1 h2 h=>by
 rw[Af (λz=>?_)]
 ·exact h
 ·rw[z]at h1 h2;rcases hx with e|e
  ·exact h1 e
  ·exact h2 e
theorem MAt.apart (M:MAt K HB C kvs L H S):L.rd≠L.m/\L.wd≠L.m/\L.td≠L.m/\L.fd≠L.m/\L.fd≠L.rd/\L.fd≠L.wd/\L.fd≠L.td:=by
 obtain⟨Y,I,_⟩:=M.rows;obtain⟨Z,U,_⟩:=M.wait;obtain⟨tv,O,_⟩:=M.things;exact⟨Ew I M.ins (λz=>nomatch z),Ew U M.ins (λz=>nomatch z),Ew O M.ins (λz=>nomatch z),Ew M.frm M.ins (λz=>nomatch z),Ew M.frm I (λz=>nomatch z),Ew M.frm U (λz=>nomatch z),Ew M.frm O (λz=>nomatch z)⟩
theorem MAt.setSteps (M:MAt K HB C kvs L H S)(n:Int):MAt K HB C kvs L (L2.upd H L.m (.ins C L.dx (L.fs n))) { S with steps:=n }:=by
 have e:SameM L H (L2.upd H L.m (.ins C L.dx (L.fs n))):=SameM.upd (.inl rfl);obtain⟨a1,a2,a3,I,a5,a6,a7⟩:=M.apart;obtain⟨O,Z,ar,sp⟩:=M.rows;obtain⟨Y,ew,U⟩:=M.wait;obtain⟨tv,et,at_⟩:=M.things;exact⟨M.outer e,M.nm,M.nr,M.nw,M.nt,Ac,by rw[Af I];exact M.frm,M.rw,M.rt,M.wt,⟨O,by rw[Af a1];exact Z,ar.mono (RwX.same (M.big e)),sp.same (M.big e)⟩,⟨Y,by rw[Af a2];exact ew,U.mono (WtAt.same (M.a e))⟩,⟨tv,by rw[Af a3];exact et,at_.mono (ThAt.same (M.t e))⟩⟩
theorem MAt.setRows (M:MAt K HB C kvs L H S)(al:Al (RwX K (λb=>L.A b\/HB b≠none) H) rv rs)(sp:SepR K (λb=>L.A b\/HB b≠none) H rv rs):MAt K HB C kvs L (L2.upd H L.rd (.lst rv)) { S with rows:=rs }:=by
 have e:SameM L H (L2.upd H L.rd (.lst rv)):=SameM.upd (.inr (.inl rfl));obtain⟨a1,a2,a3,a4,I,a6,a7⟩:=M.apart;obtain⟨U,Z,O⟩:=M.wait;obtain⟨tv,Y,at_⟩:=M.things;exact⟨M.outer e,M.nm,M.nr,M.nw,M.nt,by rw[Af (Pw a1)];exact M.ins,by rw[Af I];exact M.frm,M.rw,M.rt,M.wt,⟨rv,Ac,al.mono (RwX.same (M.big e)),sp.same (M.big e)⟩,⟨U,by rw[Af (Pw M.rw)];exact Z,O.mono (WtAt.same (M.a e))⟩,⟨tv,by rw[Af (Pw M.rt)];exact Y,at_.mono (ThAt.same (M.t e))⟩⟩
theorem MAt.setWait (M:MAt K HB C kvs L H S)(al:Al (WtAt K L.A H) wv ws):MAt K HB C kvs L (L2.upd H L.wd (.lst wv)) { S with wait:=ws }:=by
 have e:SameM L H (L2.upd H L.wd (.lst wv)):=SameM.upd (.inr (.inr (.inl rfl)));obtain⟨a1,a2,a3,a4,Z,O,a7⟩:=M.apart;obtain⟨I,U,ar,sp⟩:=M.rows;obtain⟨tv,Y,at_⟩:=M.things;exact⟨M.outer e,M.nm,M.nr,M.nw,M.nt,by rw[Af (Pw a2)];exact M.ins,by rw[Af O];exact M.frm,M.rw,M.rt,M.wt,⟨I,by rw[Af M.rw];exact U,ar.mono (RwX.same (M.big e)),sp.same (M.big e)⟩,⟨wv,Ac,al.mono (WtAt.same (M.a e))⟩,⟨tv,by rw[Af (Pw M.wt)];exact Y,at_.mono (ThAt.same (M.t e))⟩⟩
theorem MAt.setThings (M:MAt K HB C kvs L H S)(al:Al (ThAt K H) tv ts):MAt K HB C kvs L (L2.upd H L.td (.lst tv)) { S with things:=ts }:=by
 have e:SameM L H (L2.upd H L.td (.lst tv)):=SameM.upd (.inr (.inr (.inr rfl)));obtain⟨a1,a2,a3,a4,a5,a6,Y⟩:=M.apart;obtain⟨I,Z,ar,sp⟩:=M.rows;obtain⟨U,ew,O⟩:=M.wait;exact⟨M.outer e,M.nm,M.nr,M.nw,M.nt,by rw[Af (Pw a3)];exact M.ins,by rw[Af Y];exact M.frm,M.rw,M.rt,M.wt,⟨I,by rw[Af M.rt];exact Z,ar.mono (RwX.same (M.big e)),sp.same (M.big e)⟩,⟨U,by rw[Af M.wt];exact ew,O.mono (WtAt.same (M.a e))⟩,⟨tv,Ac,al.mono (ThAt.same (M.t e))⟩⟩
noncomputable def Ml.with(L:Ml)(t:Addr):Ml:={ L with td:=t }
theorem MAt.swap (M:MAt K HB C kvs L H S){H1:Hp}{t:Addr}{tv:List V}{ts:List (Str×V)}(e0:Same H H1)(ht:H t=none)(h1:H1 t=some (.lst tv))(al:Al (ThAt K H1) tv ts):MAt K HB C kvs (L.with t) (L2.upd H1 L.m (.ins C L.dx ((L.with t).fs S.steps))) { S with things:=ts }/\SameM L H (L2.upd H1 L.m (.ins C L.dx ((L.with t).fs S.steps))):=by
 have I:=M.new e0;have e:SameM L H1 (L2.upd H1 L.m (.ins C L.dx ((L.with t).fs S.steps))):=SameM.upd (.inl rfl);obtain⟨a1,a2,a3,a4,a5,a6,a7⟩:=I.apart;obtain⟨ag,Z,_⟩:=M.rows;obtain⟨ah,Y,_⟩:=M.wait;obtain⟨rv,er,ar,sp⟩:=I.rows;obtain⟨wv,ew,aw⟩:=I.wait;have nm:t≠L.m:=λz=>by rw[z,M.ins]at ht;cases ht
 have nr:L.rd≠t:=λz=>by rw[<- z,Z]at ht;cases ht
 have nw:L.wd≠t:=λz=>by rw[<- z,Y]at ht;cases ht
 have nb:HB t=none:=by
  cases h:HB t with
  |none=>rfl
  |some o=>rw[M.base _ _ h]at ht;cases ht
 have s2:∀B:Addr->Prop,SameA B H (L2.upd H1 L.m (.ins C L.dx ((L.with t).fs S.steps))):=λB=>⟨e0.t.trans (I.t e),λb xs _ h=>by
  rw[Af (λz=>?_)]
  ·exact e0 _ _ h
  ·rw[z,M.ins]at h;cases h⟩
 obtain⟨ae,ac,O,af⟩:=M.rows;obtain⟨aa,U,ad⟩:=M.wait;have hA:∀b,(L.with t).A b->H b≠none->L.A b:=λb hb hn=>by
  rcases hb with z|z|z
  ·exact .inl z
  ·exact .inr (.inl z)
  ·rw[show b=t from z,ht]at hn;exact absurd rfl hn
 refine⟨⟨I.outer e,M.nm,M.nr,M.nw,nb,Ac,(Af (show L.fd≠L.m from a4)).trans I.frm,M.rw,nr,nw,⟨ae,(Af (show L.rd≠L.m from a1)).trans (e0 _ _ ac),?_,?_⟩,⟨aa,(Af (show L.wd≠L.m from a2)).trans (e0 _ _ U),?_⟩,⟨tv,(Af (show t≠L.m from nm)).trans h1,al.mono (ThAt.same (I.t e))⟩⟩,(e0.m L).trans e⟩
 ·refine(O.mono (RwX.mono λb hb hn=>?_)).mono (RwX.same (s2 _));rcases hb with z|z
  ·exact .inl (hA b z hn)
  ·exact .inr z
 ·refine(af.mono λb hb hn=>?_).same (s2 _);rcases hb with z|z
  ·exact .inl (hA b z hn)
  ·exact .inr z
 ·exact(ad.mono (WtAt.mono hA)).mono (WtAt.same (s2 _))
end
noncomputable def Dk (ar:List (Str×Str×V))(z:Str):Option (Str×V):=(ar.reverse.find? λx=>decide (x.1=z)).map (·.2)
theorem Zov (l:List (Str×Str×V))(x:Str×Str×V)(z:Str):Dk (l++[x]) z=if x.1=z then some x.2 else Dk l z:=by
 unfold Dk;rw[Tc,U9,Wh,Rb];by_cases h:x.1=z
 ·simp[h]
 ·simp[h]
theorem Zvc:∀(ev:List V)(ar:List (Str×Str×V)),Al (PrAt K H) ev ar->∃kvs:List (Aw×V),Al (λv (kv:Aw×V)=>∃a,v=.ref a/\SqT K H a [kV kv.1,kv.2]) ev kvs /\
  ∀z:Str,(E8 kvs (Sum.inr z)=none/\Dk ar z=none)\/eX2 λu th=>E8 kvs (Sum.inr z)=some u/\Dk ar z=some th/\ThAt K H u th:=by
 intro ev;refine Zd7 (P:=λev=>∀ar,Al (PrAt K H) ev ar->∃kvs:List (Aw×V),Al (λv (kv:Aw×V)=>∃a,v=.ref a/\SqT K H a [kV kv.1,kv.2]) ev kvs /\
  ∀z:Str,(E8 kvs (Sum.inr z)=none/\Dk ar z=none)\/eX2 λu th=>E8 kvs (Sum.inr z)=some u/\Dk ar z=some th/\ThAt K H u th) ?_ ?_ ev
 ·intro ar Y;have:ar=[]:=R5 Y.1.symm;subst this;exact⟨[],.nil,λz=>.inl ⟨rfl,rfl⟩⟩
 ·intro l v ih ar Y;obtain⟨l',v',U,x,e1,rfl,O,a,u,rfl,q,t⟩:=Y.last (by simp);obtain⟨rfl,e2⟩:=So e1 rfl;cases e2;obtain⟨kvs,ak,Z⟩:=ih U O;refine⟨kvs++[(Sum.inr x.1,u)],ak.snoc ⟨a,rfl,q⟩,λz=>?_⟩;rw[Zeg,Zov];by_cases I:x.1=z
  ·refine .inr ⟨u,x.2,?_,if_pos I,t⟩;rw[if_pos (by rw[I])]
  ·rw[if_neg I,if_neg (λh=>I (Sum.inr.inj h))];exact Z z
section
variable {g:TG}{tt:TT}{te:TE}{σ0:St}{H1:Hp}{D:Addr}{Q:VK}
theorem Zvi (Pv:Nat->List V->St->Hp->Prop)(h0:Pv 0 [] σ0 (upd H1 D (.lst [])))(hl:∀i ys σ H,i<=xs.length->Pv i ys σ H->SqT K H a xs)(hs:∀i x ys σ H,xs[i]?=some x->H D=some (.lst ys)->Pv i ys σ H->Zdo g tt te D (Pv (i+1)) x σ H)(hd:∀ys σ H,H D=some (.lst ys)->Pv xs.length ys σ H->Q (.ref D) H):Za5 (Jy K a) g tt te σ0 H1 D Q:=by
 refine⟨λi m σ H=>m=xs.length-i/\i<=xs.length/\∃ys,H D=some (.lst ys)/\Pv i ys σ H,⟨xs.length,by simp,Qn _,[],Ac,h0⟩,?_⟩;rintro i m σ H ⟨rfl,hi,ys,U,p⟩;have q:=hl i ys σ H hi p;by_cases I:i<xs.length
 ·refine .inr ⟨⟨xs,xs[i],q,by simp[I]⟩,λO H2=>∃zs,H2 D=some (.lst zs)/\Pv (i+1) zs O H2,λZ H' Y=>⟨xs.length-(i+1),by lia,rfl,I,Y⟩,λx H' y=>?_⟩;obtain⟨e,y⟩:=y;subst e;exact hs i x ys σ _ (y xs q) U p
 ·have e:i=xs.length:=by lia
  subst e;exact .inl ⟨⟨xs,q,Pl _⟩,hd ys σ H U p⟩
end
noncomputable def Fw:Tr->Dt
 |.mk _ n _=>n
theorem Zgi (t:Tr):t=.mk t.wd (Fw t) t.ps:=by cases t;rfl
theorem Zqx (h:Ed a=Ed b):a=b:=by
 unfold Ed at h
 induction a generalizing b with
 |nil=>cases b with
  |nil=>rfl
  |cons y r=>simp at h
 |cons x l I=>cases b with
  |nil=>simp at h
  |cons y r =>
   simp only[Qq,Vt]at h;have h1:x=y:=by have:=Sum.inl.inj h.1;lia
   rw[h1,I h.2]
noncomputable def C4 (ws:List (List Nat×Tr))(pl:List Nat):Option Tr:=(ws.reverse.find? λx=>decide (x.1=pl)).map (·.2)
theorem Zv7 (l:List (List Nat×Tr))(x:List Nat×Tr)(pl:List Nat):C4 (l++[x]) pl=if x.1=pl then some x.2 else C4 l pl:=by
 unfold C4;rw[Tc,U9,Wh,Rb];by_cases h:x.1=pl
 ·simp[h]
 ·simp[h]
theorem Zm5 (h:C4 ws pl=some t):(pl,t)∈ws:=by
 unfold C4 at h;obtain⟨x,I,rfl⟩:=Q3.mp h;have h1:=List.find?_some I;have h2:x.1=pl:=of_decide_eq_true h1;rw[<- h2];exact Wx.mp (List.mem_of_find?_eq_some I)
theorem Zpk:∀(rows:List V)(ws:List (List Nat×Tr)),Al (RowT K H) rows ws->∃kvs:List (List Aw×V),Al (λv (kv:List Aw×V)=>eX2 λa b=>v=.ref a/\SqT K H a [.ref b,kv.2]/\H b=some (.tup (kv.1.map kV))) rows kvs /\
  ∀pl:List Nat,(E8 kvs (Ed pl)=none/\C4 ws pl=none)\/eX2 λu t=>E8 kvs (Ed pl)=some u/\C4 ws pl=some t/\TrAt K H u t:=by
 intro rows;refine Zd7 (P:=λrows=>∀ws,Al (RowT K H) rows ws->∃kvs:List (List Aw×V),Al (λv (kv:List Aw×V)=>eX2 λa b=>v=.ref a/\SqT K H a [.ref b,kv.2]/\H b=some (.tup (kv.1.map kV))) rows kvs /\
  ∀pl:List Nat,(E8 kvs (Ed pl)=none/\C4 ws pl=none)\/eX2 λu t=>E8 kvs (Ed pl)=some u/\C4 ws pl=some t/\TrAt K H u t) ?_ ?_ rows
 ·intro ws Y;have:ws=[]:=R5 Y.1.symm;subst this;exact⟨[],.nil,λz=>.inl ⟨rfl,rfl⟩⟩
 ·intro l v ih ws Y;obtain⟨l',v',O,x,e1,rfl,U,a,p,u,rfl,q,hp,t⟩:=Y.last (by simp);obtain⟨rfl,e2⟩:=So e1 rfl;cases e2;obtain⟨kvs,ak,Z⟩:=ih O U;refine⟨kvs++[(Ed x.1,u)],ak.snoc ⟨a,p,rfl,q,by rw[Lh];exact hp⟩,λpl=>?_⟩;rw[Zeg,Zv7];by_cases I:x.1=pl
  ·refine .inr ⟨u,x.2,?_,if_pos I,t⟩;rw[if_pos (by rw[I])]
  ·rw[if_neg I,if_neg (λh=>I (Zqx h))];exact Z pl
end L2
namespace L2
open PySem PySem.Spec PyProof.Rows
section
variable {X:Cx}
noncomputable abbrev Zf9:=Zdg false false
theorem Zlc (K:Ph)(hg:Gl X "list")(hm:X.mg "list"=none)(hg2:Gl X "zip")(hm2:X.mg "zip"=none)(ha:QA X [e,e2] ta)(hK:autoParam (X.K=K) zX)(hc:autoParam (X.calm=true) zX)(hs:autoParam (starEach [.Call (.Name "zip" p2) [e,e2] [] pos2] X.env=[(false,eval (.Call (.Name "zip" p2) [e,e2] [] pos2) X.env)]) zX)(hs2:autoParam (starEach [e,e2] X.env=[(false,eval e X.env),(false,eval e2 X.env)]) zX)(hs3:autoParam (starEach [e2] X.env=[(false,eval e2 X.env)]) zX) :
  QE X (.Call (.Name "list" p) [.Call (.Name "zip" p2) [e,e2] [] pos2] [] pos) (Zf9 K ta):=Zj3 false false K hg hm hg2 hm2 ha hK hc hs hs2 hs3
theorem Zsq {K:Ph}{ta:TA}{σ:St}{H:Hp}{Q:VK}(h:ta σ H λvs H1=>eX4 λa b xs ys=>vs=[.ref a,.ref b]/\SqL K H1 a xs/\SqL K H1 b ys /\
 ∀(S:Addr)(zs:List V)(H2:Hp),H1 S=none->Same H1 H2->zs.length=min xs.length ys.length->Za8 H2 xs ys zs->H2 S=some (.lst zs)->Q (.ref S) H2):Zf9 K ta σ H Q:=h
end
end L2
namespace L2
open PySem PySem.Spec PySem.Calls PySem.W PyProof.Rows
section
variable {X:Cx}
end
end L2
namespace L2
open PySem PySem.Spec PyProof.Rows
def Zuj (K:Ph)(C:Addr)(tb:K2)(th:TS):TS:=λD σ H=>tb D (λO I od H2=>(∃C',I=.ref C'/\Ss K (.ref C') (.ref C)=some true)/\∀a,H2 a=none->th D O (upd H2 a (exk a I od))) σ H
section
variable {X:Cx}{c n:Str}{np hpos pos:Pos}{body hbody:List Stmt}{b₀:Stmt}{tb:K2}{th:TS}{i:Nat}{C:Addr}
theorem Zo3 (hC:Zac X.K C)(G:X.mg c=some (.ref C))(hf:X.env.frame=some X.env.locals)(hst:X.stack=X.env::X.outer)(hb:QXS X body tb)(hh:∀e XE,Fj (X.to (X.A.mark (some e)) false XE) (b₀::hbody) th)(hg:autoParam (Gl X c) zX)(hdb:autoParam ((c == ("__debug__":Str))=false) zW) :
  QS X (.Try body [.ExceptHandler (some (.Name c np)) none (b₀::hbody) hpos] [] [] pos) (Zuj X.K C tb th):=by
 refine⟨λpins s σ H D I h=>?_⟩;refine wpAny_Try_except (Rp (hb.run pins s σ H D _ I h) (λf s1 q=>?_) λev s1 q=>?_)
 ·cases f with
  |next=>exact Td q
  |ret v=>exact q
  |brk=>exact q
  |cont=>exact q
 ·obtain⟨aa,H0,s0,I0,e,T,al,od,H',rfl,h1,h2,h3,h4,h5,h6,h7,h8,h9,⟨C',rfl,ae⟩,aj⟩:=q;have J:Inv X pins aa H' s1:=I0.call' (ch:=[]) h1 h3 h4 h2 (λb z=>absurd z (by simp));have ag:X.A.frames=some (X.env::X.outer):=by rw[<- hst];exact J.ok.frames
  have Z:=J.stack;rw[hst]at Z;refine Ze4 (base:=X.base) ag Z hf h9 λh' Y ad y m=>Zav (fs:=B4 (X.env::X.outer)) y λaf y' m'=>?_;have M1:Mvd (B4 X.stack) [e,T,Y] s1.heap af:=by rw[hst];exact(m.mono (by simp)).trans (m'.mono (by simp))
  have ah:s0.heap.get? Y=none:=by
   cases q:s0.heap.get? Y with
   |none=>rfl
   |some o =>
    obtain⟨o',z⟩:=h3.there Y o q (by simp);exact absurd (Pq z) (Nat.not_lt.mpr ad)
  have ac:H' Y=none:=J.hok.fresh ad;have fx:∀b∈[e,T,Y],s0.heap.get? b=none/\H' b=none:=by
   intro b hb;simp only[Pr,Pz,or_false]at hb;rcases hb with rfl|rfl|rfl
   ·exact⟨h5,h7⟩
   ·exact⟨h6,h8⟩
   ·exact⟨ah,ac⟩
  have land:∀{U:Heap},Mvd (B4 X.stack) [e,T,Y] s1.heap U->Iv U e Y (.ref C') od->Inv X pins aa (upd H' e (exk e (.ref C') od)) { s1 with heap:=U }:=λ{U} mm ll =>
   I0.call' (s':={ s1 with heap:=U }) (ch:=[]) h1 (h3.land mm (λb hb=>(fx b hb).1) h5 h7) (h4.land mm (λb hb=>(fx b hb).2) (λb hb=>J.stkFree b hb) h7 (Ztc ll)) h2 (λb z=>absurd z (by simp))
  have I1:=land M1 y';refine wpAny_handleBy_cons (codeAny_handlers_test ?_) (by intro q;cases q);have ai:Inv (X.to (X.A.mark (some (.ref e))) false (notedBy (model X.prog X.w) (X.A.mark (some (.ref e))) X.env λx ak=>True)) pins aa (upd H' e (exk e (.ref C') od)) { s1 with heap:=af }:=I1.to rfl (by simp);refine Lc ai hg G ?_ hdb;obtain⟨oe,vs,oT,ts,a1,a2,a3,a4,a5,a6,a7,a8,a9⟩:=id y';refine Zvd I1.kIn hC a1 a2 ae ?_;refine codeAny_handlers_suite (Zav (fs:=B4 X.stack) y' λam y4 m4=>?_);have I2:=land (M1.trans (m4.mono (by simp))) y4;refine Rp ((hh (.ref e) _).run pins _ _ _ D (I2.to rfl (by simp)) (aj e h7)) (λf s4 q=>?_) λev s4 q=>q;cases f with
  |next =>
   obtain⟨O,H4,I4,q⟩:=q;exact⟨O,H4,I4.back I.ok,q⟩
  |ret v =>
   obtain⟨u,O,H4,I4,r,q⟩:=q;exact⟨u,O,H4,I4.back I.ok,r,q⟩
  |brk =>
   obtain⟨O,H4,I4,q⟩:=q;exact⟨O,H4,I4.back I.ok,q⟩
  |cont =>
   obtain⟨O,H4,I4,q⟩:=q;exact⟨O,H4,I4.back I.ok,q⟩
end
section
variable {X:Cx}{o i e f k v value:Expr}{pos pos' apos cpos:Pos}{td ty tx tk tv:TE}
end
section
variable {X:Cx}{c n:Str}{np hpos pos:Pos}{body hbody:List Stmt}{b₀:Stmt}{tb:K2}{th:TS}{i:Nat}{C:Addr}{rest:List ExceptHandler}{tr:THd}
end
section
variable {X:Cx}
def rEqN (K:Ph):R2:=λx y H Q=>eX3 λ(a b:Addr)(xs:List V)=>x=.ref a/\y=.ref b/\SqL K H a xs/\SqL K H b []/\Q (.bl xs.isEmpty) H
theorem Zmr (K:Ph)(hu:X.A.units+200<cLine)(hK:autoParam (X.K=K) zX):OpR X (compareOp .Eq) (rEqN K):=by
 subst hK;intro pins s σ H x y v u Q I rx ry h;obtain⟨a,b,xs,rfl,rfl,Z,hb,q⟩:=h;cases rx;cases ry;obtain⟨O,r1,p1,_⟩:=I.list Z;obtain⟨U,r2,p2,_⟩:=I.list hb;have Y:=r1.length;have l2:=r2.length;cases xs with
 |nil =>
  refine SeqAt.eq_listAt (e:=λ_=>true) p1.isList p2.isList (by simp only[Pm];lia) (by lia) (λj h1 h2=>?_) ⟨.bl true,H,I,?_,q⟩
  ·simp only[Pm]at h1;have:O.length=0:=Y.symm;lia
  ·have z:O.toArray.size=0:=by simp only[Pm];exact Y.symm
   rw[z];rfl
 |cons y r =>
  refine SeqAt.eq_list_lengthsAt p1.isList p2.isList ?_ (by lia) ⟨.bl false,H,I,rfl,q⟩;simp only[Pm];have e1:O.length=r.length+1:=Y.symm;have e2:U.length=0:=l2.symm;rw[e1,e2];rfl
theorem Zu5 {K:Ph}{a b:Addr}{xs:List V}{H:Hp}{Q:VK}(ha:SqL K H a xs)(hb:SqL K H b [])(h:Q (.bl xs.isEmpty) H):rEqN K (.ref a) (.ref b) H Q:=⟨a,b,xs,rfl,rfl,ha,hb,h⟩
end
section
variable {X:Cx}
end
section
variable {g:TG}{tt:TT}{te:TE}{σ0:St}{H1:Hp}{D:Addr}{Q:VK}
end
section
variable {X:Cx}
end
section
variable {prog:Program}{w:World}{A:Around}{E:Value->Shared->Prop}{s:Shared}
end
section
variable {X:Cx}{tg:Expr}
end
section
variable {X:Cx}{c n:Str}{np hpos pos:Pos}{body hbody:List Stmt}{b₀:Stmt}{tb:K2}{th:Addr->TS}{i:Nat}{C:Addr}
end
section
variable {P:Program}{w:World}{K:Ph}{mg:Str->Option Value}{base:Heap}
end
section
variable {X:Cx}{k:Nat}{x:Str}{ps:List Str}{sp:Addr->Sp}{p pos:Pos}{e:Expr}{es:List Expr}{t:TA}
end
section
variable {X:Cx}{tg:Expr}
end
section
variable {X:Cx}
end
section
variable {X:Cx}
end
section
variable {X:Cx}{pins:List (Addr×Obj)}{σ:St}{H:Hp}{s:Shared}
end
section
variable {X:Cx}
open Classical in
end
section
variable {X:Cx}{pins:List (Addr×Obj)}{σ:St}{H:Hp}{s:Shared}
end
section
variable {X:Cx}
end
end L2
namespace PySem
open PyProof.Rows
section
variable {prog:Program}{w:World}{A:Around}{E:Value->Shared->Prop}{s:Shared}
end
end PySem
namespace L2
open PySem PySem.Spec PyProof.Rows
section
variable {X:Cx}{tg:Expr}
end
section
variable {X:Cx}
end
section
variable {X:Cx}{pins:List (Addr×Obj)}{σ:St}{H:Hp}{s:Shared}
end
section
variable {X:Cx}
end
section
variable {X:Cx}{c e:Expr}{tc:TE}{t:TX}{pos:Pos}
end
section
variable {X:Cx}
end
end L2
namespace L2
open PySem
end L2
namespace L2
open PySem PySem.Spec PySem.Calls PySem.W PyProof.Rows
noncomputable def Im (k:Int)(n:Nat):List Nat:=sliceRange (sliceBounds none none (some k) n).1 (sliceBounds none none (some k) n).2.1 (sliceBounds none none (some k) n).2.2
noncomputable def B8 {α:Type}(k:Int)(xs:List α):List α:=(Im k xs.length).filterMap (xs[·]?)
theorem Zv3 (k:Int)(n:Nat):(Im k n).length<=n:=by
 unfold Im sliceBounds;refine sliceRange_length_le _ _ _ n (λh=>?_) (λh=>?_) <;> simp only[Option.getD_some]at h ⊢
 ·rw[if_pos h,if_pos h];lia
 ·rw[if_neg h,if_neg h];lia
theorem Zaf {α:Type}(k:Int)(xs:List α):(B8 k xs).length<=xs.length:=Qb (List.length_filterMap_le _ _) (Zv3 k _)
theorem Znv {α:Type}(xs:List α):3*(B8 3 xs).length<=xs.length+2:=by
 have h:(B8 3 xs).length<=(Im 3 xs.length).length:=List.length_filterMap_le _ _;have e:(Im 3 xs.length).length=(if (0:Int)<xs.length then ((xs.length:Int)-0+3-1) / 3 else 0).toNat:=by
  unfold Im sliceBounds sliceRange;simp
 rw[e]at h;split at h <;> lia
theorem Zbh {α β:Type}(f:α->β)(k:Int)(xs:List α):B8 k (xs.map f)=(B8 k xs).map f:=by
 unfold B8;rw[Pp,List.map_filterMap];exact congrArg (λg=>List.filterMap g _) (funext λi=>Ql)
theorem Vals.pick (r:Vals xs us):∀ix:List Nat,Vals (ix.filterMap (xs[·]?)) (ix.filterMap (us[·]?))
 |[]=>.nil
 |i::ix=>by
  cases h:xs[i]? with
  |none=>rw[List.filterMap_cons_none h,List.filterMap_cons_none (r.none_of h)];exact r.pick ix
  |some x =>
   obtain⟨u,O,I⟩:=r.get h;rw[List.filterMap_cons_some h,List.filterMap_cons_some O];exact .cons I (r.pick ix)
section
variable {X:Cx}
def J7 (K:Ph)(te:TE)(ts:TO):TE:=λσ H Q=>te σ H λx H1=>ts σ H1 λo H2=>eX3 λa xs k=>x=.ref a/\o=some k/\k≠0/\SqL K H2 a xs/\∀p,H2 p=none->Q (.ref p) (upd H2 p (.lst (B8 k xs)))
theorem Zp4 {e st:PySem.Expr}{te:TE}{ts:TO}{p2 pos:Pos}(he:PE X e te)(hs:PO X (some st) ts):PE X (.Subscript e (.Slice none none (some st) p2) pos) (J7 X.K te ts):=by
 intro pins s σ H Q I h;refine Subscript_ (As (he pins s σ H _ I h) λv s1 Y=>?_);obtain⟨x,H1,I1,r1,q1⟩:=Y;refine wpAny_Slice ?_;rw[evalPart_none];refine Pk ?_;refine Pk ?_;refine As (hs pins s1 σ H1 _ I1 q1) λvk U Y=>?_;obtain⟨o,H3,I3,pk,q3⟩:=Y;obtain⟨a,xs,k,rfl,rfl,hk,hx,q⟩:=q3;cases r1;have Z:Inv X pins σ H3 { U with heap:=U.heap.push { cls:=.type "slice",data:=.fields #[.none,.none,vk] } }:=I3.kept (t':=U.toks) λb ob q=>Po _ q;obtain⟨aa,r,ht,hz⟩:=Z.list hx;have O:=r.length;refine tail_any (ops:=[.ref a,.ref U.heap.objs.size]) ht.isList.typeIs Ws.lookup ?_ (by with_unfolding_all rfl);refine wpAny_getItem_list_slice ht.isList (Heap.IsSliceOf.new ..) .none .none pk (λe=>hk (Qg e)) ?_ (by rw[Pm] <;> lia);refine⟨.ref _,_,Z.laid (t':=U.toks) (o:=.lst (B8 k xs)) (λb ob q=>Po _ q) (Pl _) ?_,rfl,q _ (Z.hok.fresh (Pl _))⟩;refine⟨Qb (Zaf k xs) hz,_,0,?_,P3 _ rfl⟩;have:=r.pick (Im k xs.length);rw[O]at this;show Vals (B8 k xs) _;unfold B8;rw[O];simpa [slicePick,Im] using this
theorem Ic {e st:PySem.Expr}{te:TE}{ts:TO}{p2 pos:Pos}(K:Ph)(he:QE X e te)(hs:QO X (some st) ts)(hK:autoParam (X.K=K) zX):QE X (.Subscript e (.Slice none none (some st) p2) pos) (J7 K te ts):=by
 subst hK;exact⟨Zp4 he.run hs.run⟩
def Zr8 (i j:Int):Prop:=0<j/\j.natAbs.log2<9000
theorem Zq0:OpR X (binaryOp .FloorDiv) (rI Zr8 λi j=>.int (i / j)):=opI λi j _ _ _ _ _ I q=>by
 have h1:(0:Int)<j:=I.1;exact floordiv_int (by lia) (by rw[Int.fdiv_eq_ediv_of_nonneg i (by lia)];exact q) (.inl (PyProof.noPylong_of_log2 I.2))
end
end L2
local macro_rules | `(tactic| walk_at "sc")=>`(tactic| exact⟨rfl,rfl,rfl,by decide +kernel,rfl,by decide +kernel,by decide +kernel⟩)
namespace L2
open PySem PySem.Spec PyProof.Rows
theorem Bg:0<=sizeLine:=by decide
theorem Dl:1<=sizeLine:=by decide
theorem sz13:13<=sizeLine:=by decide
theorem Bt:2<=sizeLine:=by decide
theorem Br:3<=sizeLine:=by decide
theorem Gz:4<=sizeLine:=by decide
theorem sz9:9<=sizeLine:=by decide
theorem Room.m (r:Room k A)(h:autoParam (j<=k) zW):Room j A:=r.mono h
section
variable {X:Cx}{a b:Expr}{ta tb:TE}{pos:Pos}{K:Ph}
theorem Ao (i:Nat)(S:Bb X.N ps sc)(he:QE X e te)(hi:autoParam (X.N[i]?=some x) zX)(hx:autoParam (Ee X.env.scope x) zJ)(hs:autoParam (swapsWith e (some (.Name x pos')) pos.line X.env=pure false) zX)(hf:autoParam (X.fn x=true\/X.env.scope.names.lookup x=some .local) zQ):QS X (.Assign [.Name x pos'] e pos) (Ik te (Ep i)):=Zmx S.nd hi hx he hs hf
theorem Ai (K:Ph)(ha:QE X a ta)(hb:QE X b tb)(hs:Zei b:=by exact λ_ _=>rfl)(hK:autoParam (X.K=K) zX):QE X (.Subscript a b pos) (Ev (Kp K) ta tb):=Za0 (k_ix K hK) ha hb hs
end
theorem Av (h0:QE X e0 t0)(s0:autoParam (starEach (e0::[]) X.env=(false,eval e0 X.env)::starEach ([]) X.env) zX):QA X (e0::[]) (Dr t0 Fo):=Kr h0 Bh s0
theorem Ah (h0:QE X e0 t0)(h1:QE X e1 t1)(s0:autoParam (starEach (e0::e1::[]) X.env=(false,eval e0 X.env)::starEach (e1::[]) X.env) zX)(s1:autoParam (starEach (e1::[]) X.env=(false,eval e1 X.env)::starEach ([]) X.env) zX):QA X (e0::e1::[]) (Dr t0 (Dr t1 Fo)):=Kr h0 (Av h1 s1) s0
theorem Bc (h0:QE X e0 t0)(h1:QE X e1 t1)(h2:QE X e2 t2)(s0:autoParam (starEach (e0::e1::e2::[]) X.env=(false,eval e0 X.env)::starEach (e1::e2::[]) X.env) zX)(s1:autoParam (starEach (e1::e2::[]) X.env=(false,eval e1 X.env)::starEach (e2::[]) X.env) zX)(s2:autoParam (starEach (e2::[]) X.env=(false,eval e2 X.env)::starEach ([]) X.env) zX):QA X (e0::e1::e2::[]) (Dr t0 (Dr t1 (Dr t2 Fo))):=Kr h0 (Ah h1 h2 s1 s2) s0
theorem Dh (h0:QE X e0 t0)(h1:QE X e1 t1)(h2:QE X e2 t2)(h3:QE X e3 t3)(s0:autoParam (starEach (e0::e1::e2::e3::[]) X.env=(false,eval e0 X.env)::starEach (e1::e2::e3::[]) X.env) zX)(s1:autoParam (starEach (e1::e2::e3::[]) X.env=(false,eval e1 X.env)::starEach (e2::e3::[]) X.env) zX)(s2:autoParam (starEach (e2::e3::[]) X.env=(false,eval e2 X.env)::starEach (e3::[]) X.env) zX)(s3:autoParam (starEach (e3::[]) X.env=(false,eval e3 X.env)::starEach ([]) X.env) zX):QA X (e0::e1::e2::e3::[]) (Dr t0 (Dr t1 (Dr t2 (Dr t3 Fo)))):=Kr h0 (Bc h1 h2 h3 s1 s2 s3) s0
theorem E1 (h0:QE X e0 t0)(h1:QE X e1 t1)(h2:QE X e2 t2)(h3:QE X e3 t3)(h4:QE X e4 t4)(s0:autoParam (starEach (e0::e1::e2::e3::e4::[]) X.env=(false,eval e0 X.env)::starEach (e1::e2::e3::e4::[]) X.env) zX)(s1:autoParam (starEach (e1::e2::e3::e4::[]) X.env=(false,eval e1 X.env)::starEach (e2::e3::e4::[]) X.env) zX)(s2:autoParam (starEach (e2::e3::e4::[]) X.env=(false,eval e2 X.env)::starEach (e3::e4::[]) X.env) zX)(s3:autoParam (starEach (e3::e4::[]) X.env=(false,eval e3 X.env)::starEach (e4::[]) X.env) zX)(s4:autoParam (starEach (e4::[]) X.env=(false,eval e4 X.env)::starEach ([]) X.env) zX):QA X (e0::e1::e2::e3::e4::[]) (Dr t0 (Dr t1 (Dr t2 (Dr t3 (Dr t4 Fo))))):=Kr h0 (Dh h1 h2 h3 h4 s1 s2 s3 s4) s0
theorem Ab (hN:autoParam (X.N[0]?=some x) zX)(hv:autoParam (Dp X.env.scope x) zY)(hd:autoParam ((x == ("__debug__":Str))=false) zW)(hc:autoParam ((x == ("__classdict__":Str))=false) zW):QE X (.Name x pos) (Dm 0):=qv 0 hN hv hd hc
theorem Ag (hN:autoParam (X.N[1]?=some x) zX)(hv:autoParam (Dp X.env.scope x) zY)(hd:autoParam ((x == ("__debug__":Str))=false) zW)(hc:autoParam ((x == ("__classdict__":Str))=false) zW):QE X (.Name x pos) (Dm 1):=qv 1 hN hv hd hc
theorem Az (hN:autoParam (X.N[2]?=some x) zX)(hv:autoParam (Dp X.env.scope x) zY)(hd:autoParam ((x == ("__debug__":Str))=false) zW)(hc:autoParam ((x == ("__classdict__":Str))=false) zW):QE X (.Name x pos) (Dm 2):=qv 2 hN hv hd hc
theorem A9 (hN:autoParam (X.N[3]?=some x) zX)(hv:autoParam (Dp X.env.scope x) zY)(hd:autoParam ((x == ("__debug__":Str))=false) zW)(hc:autoParam ((x == ("__classdict__":Str))=false) zW):QE X (.Name x pos) (Dm 3):=qv 3 hN hv hd hc
theorem A6 (hN:autoParam (X.N[4]?=some x) zX)(hv:autoParam (Dp X.env.scope x) zY)(hd:autoParam ((x == ("__debug__":Str))=false) zW)(hc:autoParam ((x == ("__classdict__":Str))=false) zW):QE X (.Name x pos) (Dm 4):=qv 4 hN hv hd hc
theorem B1 {X:Cx}{x:Str}{e:Expr}{es:List Expr}{t:TA}{r:List V->Hp->VK->Prop}{pos p:Pos}{id:String}(hc:Cz X (.builtin id) r)(hm:X.mg x=none)(ha:QA X (e::es) t)(hg:autoParam (Gl X x) zX)(hv:bootBuiltins x=some (.builtin id):=by right)(hn:autoParam (x≠"__name__") zW)(hdb:autoParam ((x == ("__debug__":Str))=false) zW)(he:autoParam (starEach (e::es) X.env=(false,eval e X.env)::starEach es X.env) zX)(hpl:autoParam ((backTo pos (starEach es X.env)).any (·.1)=false) zX):QE X (.Call (.Name x p) (e::es) [] pos) (Ig r t):=Zq5 hc hg hm hv ha hn hdb he hpl
theorem D5 {X:Cx}{x:Str}{e:Expr}{es:List Expr}{t:TA}{r:List V->Hp->VK->Prop}{pos p:Pos}{T:String}(hc:Cz X (.type T) r)(hm:X.mg x=none)(ha:QA X (e::es) t)(hg:autoParam (Gl X x) zX)(hv:bootBuiltins x=some (.type T):=by right)(hn:autoParam (x≠"__name__") zW)(hdb:autoParam ((x == ("__debug__":Str))=false) zW)(he:autoParam (starEach (e::es) X.env=(false,eval e X.env)::starEach es X.env) zX)(hpl:autoParam ((backTo pos (starEach es X.env)).any (·.1)=false) zX):QE X (.Call (.Name x p) (e::es) [] pos) (Ig r t):=Zq9 hc hg hm hv ha hn hdb he hpl
theorem Bz (K:Ph)(hm:X.mg "len"=none)(ha:QE X e t)(s0:autoParam (starEach [e] X.env=(false,eval e X.env)::starEach [] X.env) zX)(hg:autoParam (Gl X "len") zX)(hK:autoParam (X.K=K) zX):QE X (.Call (.Name "len" p) [e] [] pos) (Ig (Ls K) (Dr t Fo)):=B1 (Zuz K hK) hm (Av ha s0) hg (by right) (by decide) (by decide) s0 rfl
theorem qcm (ho:OpR X (compareOp op) r)(ha:QE X a ta)(hb:QE X b tb)(hm:behindInMarks op b=false:=by first|exact Ly _|rfl):QE X (.Compare a [op] [b] pos) (Ev r ta tb):=Zeq ho ha hb hm
theorem Bp (ho:OpR X (compareOp op) r)(ha:QE X a ta)(hb:QE X b tb)(hm:behindInMarks op b=false:=by first|exact Ly _|rfl):QT X (.Compare a [op] [b] pos) (My (Ev r ta tb)):=Ziz ho ha hb hm
theorem E6 (K:Ph)(hr:Room k X.A)(ha:QE X a ta)(hb:QE X b tb)(hK:autoParam (X.K=K) zX):QE X (.Compare a [.Eq] [b] pos) (Ev (K4 K) ta tb):=Zeq (Zcc K hr.u200 hK) ha hb (Ly _)
theorem Bj (K:Ph)(hr:Room k X.A)(ha:QE X a ta)(hb:QE X b tb)(hK:autoParam (X.K=K) zX):QT X (.Compare a [.Eq] [b] pos) (My (Ev (K4 K) ta tb)):=Ziz (Zcc K hr.u200 hK) ha hb (Ly _)
theorem An (he:QE X e te):Fj X [.Return (some e) pos] (N0 te):=A3 (Zlv he)
theorem Da (i:Nat)(S:Bb X.N ps sc)(hii:autoParam (X.N[i]?=some x) zX)(hxi:autoParam (Ee X.env.scope x) zJ)(hfi:autoParam (X.fn x=true\/X.env.scope.names.lookup x=some .local) zQ):QG X (.Name x pos) (Ep i):=Gr S.nd hii hxi hfi
theorem Gj (K:Ph)(S:Bb X.N ps sc)(i j:Nat)(hii:autoParam (X.N[i]?=some xi) zX)(hxi:autoParam (Ee X.env.scope xi) zJ)(hfi:autoParam (X.fn xi=true\/X.env.scope.names.lookup xi=some .local) zQ)(hij:autoParam (X.N[j]?=some xj) zX)(hxj:autoParam (Ee X.env.scope xj) zJ)(hfj:autoParam (X.fn xj=true\/X.env.scope.names.lookup xj=some .local) zQ)(s0:autoParam ((assignEach [(.Name xi pi),(.Name xj pj)] X.env).map (·.2)=assign (.Name xi pi) X.env::(assignEach [(.Name xj pj)] X.env).map (·.2)) zX)(s1:autoParam ((assignEach [(.Name xj pj)] X.env).map (·.2)=assign (.Name xj pj) X.env::(assignEach [] X.env).map (·.2)) zX)(hc:autoParam (X.calm=true) zX)(hK:autoParam (X.K=K) zX)(hn:autoParam ((assignEach [(.Name xi pi),(.Name xj pj)] X.env).length=2) zX)(hst:autoParam ((assignEach [(.Name xi pi),(.Name xj pj)] X.env).findIdx? (·.1)=none) zX):QG X (.Tuple [(.Name xi pi),(.Name xj pj)] m pos) (Kx K 2 (Iy (Ep i) (Iy (Ep j) Lj))):=Ol K hc (Hi (Da i S hii hxi hfi) (Hi (Da j S hij hxj hfj) Oo s1) s0) hK hn hst
theorem Ks (K:Ph)(S:Bb X.N ps sc)(i j k:Nat)(hii:autoParam (X.N[i]?=some xi) zX)(hxi:autoParam (Ee X.env.scope xi) zJ)(hfi:autoParam (X.fn xi=true\/X.env.scope.names.lookup xi=some .local) zQ)(hij:autoParam (X.N[j]?=some xj) zX)(hxj:autoParam (Ee X.env.scope xj) zJ)(hfj:autoParam (X.fn xj=true\/X.env.scope.names.lookup xj=some .local) zQ)(hik:autoParam (X.N[k]?=some xk) zX)(hxk:autoParam (Ee X.env.scope xk) zJ)(hfk:autoParam (X.fn xk=true\/X.env.scope.names.lookup xk=some .local) zQ)(s0:autoParam ((assignEach [(.Name xi pi),(.Name xj pj),(.Name xk pk)] X.env).map (·.2)=assign (.Name xi pi) X.env::(assignEach [(.Name xj pj),(.Name xk pk)] X.env).map (·.2)) zX)(s1:autoParam ((assignEach [(.Name xj pj),(.Name xk pk)] X.env).map (·.2)=assign (.Name xj pj) X.env::(assignEach [(.Name xk pk)] X.env).map (·.2)) zX)(s2:autoParam ((assignEach [(.Name xk pk)] X.env).map (·.2)=assign (.Name xk pk) X.env::(assignEach [] X.env).map (·.2)) zX)(hc:autoParam (X.calm=true) zX)(hK:autoParam (X.K=K) zX)(hn:autoParam ((assignEach [(.Name xi pi),(.Name xj pj),(.Name xk pk)] X.env).length=3) zX)(hst:autoParam ((assignEach [(.Name xi pi),(.Name xj pj),(.Name xk pk)] X.env).findIdx? (·.1)=none) zX):QG X (.Tuple [(.Name xi pi),(.Name xj pj),(.Name xk pk)] m pos) (Kx K 3 (Iy (Ep i) (Iy (Ep j) (Iy (Ep k) Lj)))):=Ol K hc (Hi (Da i S hii hxi hfi) (Hi (Da j S hij hxj hfj) (Hi (Da k S hik hxk hfk) Oo s2) s1) s0) hK hn hst
end L2
namespace K59
theorem lz1 {α:Type}{vs:List α}(h:vs.length=1):∃u,vs=[u]:=by
 cases vs with
 |nil=>cases h
 |cons u r=>cases R5 (Nat.succ.inj h);exact⟨u,rfl⟩
theorem lz2 {α:Type}{vs:List α}(h:vs.length=2):eX2 λu v=>vs=[u,v]:=by
 cases vs with
 |nil=>cases h
 |cons u r=>obtain⟨v,rfl⟩:=lz1 (Nat.succ.inj h);exact⟨u,v,rfl⟩
end K59
namespace K59
open PySem L2
noncomputable abbrev pA:List Str:=["self","place","around"]
noncomputable abbrev pB:List Str:=["self","word","place","operands","around"]
noncomputable abbrev pC:List Str:=["self","place","number","around","things"]
noncomputable abbrev pD:List Str:=["_law_form_here","_law_place","_law_bound","_law_none"]
noncomputable abbrev pE:List Str:=["_law_cells","_law_around","_law_names_here","_law_room","_law_sort"]
noncomputable abbrev pF:List Str:=["_law_spots_here","_law_cell_here","_law_k"]
noncomputable abbrev pG:List Str:=["self","place","operands","around"]
noncomputable abbrev pH:List Str:=["self","word","note","place","around"]
noncomputable abbrev pI:List Str:=["_law_number_here","_law_k"]
noncomputable abbrev pJ:List Str:=["_law_form_here","_law_place","_law_bound"]
noncomputable abbrev pK:List Str:=["self","many"]
noncomputable abbrev pL:List Str:=["_law_cell_here","_law_around","_law_names_here","_law_sort"]
noncomputable abbrev pM:List Str:=["_law_cells","_law_names_here","_law_deep"]
noncomputable abbrev pN:List Str:=["_law_tree","_law_place","_law_form_here"]
noncomputable abbrev pO:List Str:=["_law_tree","_law_record","_law_place","_law_form_here"]
noncomputable abbrev pP:List Str:=["_law_cell_here","_law_k"]
noncomputable abbrev pQ:List Str:=["_law_thing_here","_law_many"]
noncomputable abbrev pR:List Str:=["_law_script","_law_k"]
noncomputable abbrev pS:List Str:=["form","number"]
noncomputable abbrev pT:List Str:=["tree","place"]
noncomputable abbrev pU:List Str:=["thing","became"]
noncomputable abbrev pV:List Str:=["_law_tree","_law_cells","_law_script"]
noncomputable abbrev pW:List Str:=["_law_script"]
noncomputable abbrev pX:List Str:=["_law_tree","_law_cells","_law_steps"]
noncomputable abbrev pY:List Str:=["self","tree","steps"]
noncomputable abbrev pZ:List Str:=["_law_found","_law_due"]
noncomputable abbrev qA:List Str:=["tree","record","place","form"]
noncomputable abbrev qB:List Str:=["word","left","right"]
noncomputable abbrev qC:List Str:=["_law_cell_here","_law_many"]
noncomputable abbrev qD:List Str:=["_law_rest","_law_k"]
noncomputable abbrev qE:List Str:=["self","thing"]
noncomputable abbrev qF:List Str:=["self","operands"]
noncomputable def Au (i:Nat):Stmt:=Sz.main.body.getD i (.Pass ⟨0,0,0,0⟩)
noncomputable abbrev Me:Stmt:=Au 6
noncomputable abbrev L9:Stmt:=Au 8
noncomputable abbrev Mb:Stmt:=Au 9
noncomputable abbrev M8:Stmt:=Au 10
noncomputable abbrev Oy:Stmt:=Au 11
noncomputable abbrev Zad:Stmt:=Au 12
noncomputable abbrev Ox:Stmt:=Au 13
noncomputable abbrev Zam:Stmt:=Au 15
noncomputable abbrev O3:Stmt:=Au 17
noncomputable abbrev Pa:Stmt:=Au 19
noncomputable abbrev N1:Stmt:=Au 24
noncomputable abbrev Le:Stmt:=Au 25
noncomputable abbrev Cn (i j:Nat):Stmt:=match Au i with|.ClassDef _ _ _ b _ _ _ _ _ _ _=>b.getD j (.Pass ⟨0,0,0,0⟩)|s=>s
noncomputable abbrev Lg:Stmt:=Cn 26 0
noncomputable abbrev Kn:Stmt:=Cn 26 1
noncomputable abbrev Ln:Stmt:=Cn 26 2
noncomputable abbrev Mo:Stmt:=Cn 26 3
noncomputable abbrev Nw:Stmt:=Cn 26 4
noncomputable abbrev Mm:Stmt:=Cn 26 5
noncomputable abbrev Kw:Stmt:=Cn 26 6
noncomputable abbrev Nr:Stmt:=Cn 26 7
noncomputable abbrev Mj:Stmt:=Cn 26 8
noncomputable abbrev Lq:Stmt:=Cn 26 9
noncomputable abbrev Ni:Stmt:=Cn 26 10
noncomputable abbrev Lr:Stmt:=Cn 26 11
noncomputable abbrev Nv:Stmt:=Cn 26 12
noncomputable abbrev O7:Stmt:=Au 28
noncomputable abbrev Oc:Stmt:=Au 29
noncomputable abbrev Zau:Stmt:=Au 30
noncomputable abbrev Za3:Stmt:=Au 32
noncomputable abbrev Zaj:Stmt:=Au 33
noncomputable abbrev Ms:Stmt:=Au 34
noncomputable abbrev Ny:Stmt:=Au 35
noncomputable abbrev Og:Stmt:=Au 36
noncomputable abbrev Zbg:Stmt:=Au 37
noncomputable abbrev L0:Stmt:=Au 38
noncomputable abbrev Nt:Stmt:=Au 39
noncomputable abbrev Mx:Stmt:=Au 40
noncomputable abbrev Zae:Stmt:=Au 41
noncomputable abbrev Os:Stmt:=Au 42
noncomputable abbrev N2:Stmt:=Au 43
noncomputable abbrev Zab:Stmt:=Au 44
noncomputable abbrev N3:Stmt:=Au 45
noncomputable abbrev Mh:Stmt:=Au 46
noncomputable abbrev Lo:Stmt:=Au 47
noncomputable abbrev N4:Stmt:=Au 48
noncomputable abbrev Zay:Stmt:=Au 49
noncomputable abbrev Lm:Stmt:=Au 50
noncomputable abbrev Nl:Stmt:=Au 51
noncomputable abbrev Za4:Stmt:=Au 52
noncomputable abbrev Zaw:Stmt:=Au 53
noncomputable abbrev Zbi:Stmt:=Au 54
noncomputable abbrev Zax:Stmt:=Au 55
noncomputable abbrev Zal:Stmt:=Au 56
noncomputable abbrev Zan:Stmt:=Au 57
structure Txt (K:Ph)(mg:Str->Option Value):Prop where
 isinstance:mg "isinstance"=none
 int:mg "int"=none
 bool:mg "bool"=none
 reversed:mg "reversed"=none
 list:mg "list"=none
 enumerate:mg "enumerate"=none
 len:mg "len"=none
 zip:mg "zip"=none
 all:mg "all"=none
 tuple:mg "tuple"=none
 range:mg "range"=none
 str:mg "str"=none
 max:mg "max"=none
 min:mg "min"=none
 dict:mg "dict"=none
structure Script (K:Ph)(H:Hp)(a:Addr):Prop where
 ex:∃ns:List Int,SqL K H a (ns.map V.int)/\ns.length<=63
theorem Script.same (S:Script K H a)(h:Same H H'):Script K H' a:=by
 obtain⟨ns,q,l⟩:=S.ex;exact⟨ns,h.seq q,l⟩
theorem big:100000<=sizeLine:=by decide
end K59
namespace K19
open PySem L2
inductive Sub:Tr->List Nat->Prop where
 |nil (t:Tr):Sub t []
 |cons {w:Str} {n:Dt} {ts:List Tr} {j:Nat} {t:Tr} {r:List Nat} (h:ts[j]?=some t) (s:Sub t r):Sub (.mk w n ts) (j::r)
noncomputable def path:Tr->List Nat->List Tr
 |t,[]=>[t]
 |.mk w n ps,k::r=>.mk w n ps::(match ps[k]? with|some u=>path u r|none=>[])
theorem Lu (h:ts[j]?=some t):path (.mk w n ts) (j::r)=.mk w n ts::path t r:=by rw[path,h]
theorem Oa (s:Sub t pl):(path t pl).length=pl.length+1:=by
 induction s with
 |nil t=>cases t;rfl
 |cons h _ I=>rw[Lu h,Qa,I,Qa]
theorem Zcv (t:Tr)(pl:List Nat):(path t pl)[0]?=some t:=by
 cases t with
 |mk w n ps=>cases pl <;> rfl
theorem Zbr (s:Sub t pl):∀(i:Nat)(k:Nat),pl[i]?=some k->eX4 λw n ps u=>(path t pl)[i]?=some (.mk w n ps)/\ps[k]?=some u/\(path t pl)[i+1]?=some u:=by
 induction s with
 |nil t=>intro i k h;simp at h
 | @cons w n ts j u r h s Z =>
  intro i k I;rw[Lu h];cases i with
  |zero =>
   have:j=k:=by simpa using I
   subst this;exact⟨w,n,ts,u,rfl,h,by simpa using Zcv u r⟩
  |succ i =>
   obtain⟨U,O,ps,Y,a,b,c⟩:=Z i k (by simpa using I);exact⟨U,O,ps,Y,by simpa using a,b,by simpa using c⟩
noncomputable def withAt:Tr->List Nat->Tr->Tr
 |_,[],f=>f
 |.mk w n ps,k::r,f=>match ps[k]? with
  |some u=>.mk w n (ps.set k (withAt u r f))
  |none=>.mk w n ps
theorem with_cons (h:ts[j]?=some t):withAt (.mk w n ts) (j::r) f=.mk w n (ts.set j (withAt t r f)):=by rw[withAt,h]
theorem with_nil (t f:Tr):withAt t [] f=f:=by cases t;rfl
theorem Zur (s:Sub t pl):∀(m k:Nat)(w:Str)(n:Dt)(ps:List Tr)(u:Tr),pl[m]?=some k->(path t pl)[m]?=some (.mk w n ps)->(path t pl)[m+1]?=some u->withAt (.mk w n ps) (pl.drop m) f=.mk w n (ps.set k (withAt u (pl.drop (m+1)) f)):=by
 intro m k w n ps u I hp U;obtain⟨Z,Y,O,u',a,b,c⟩:=Zbr s m k I;rw[hp]at a;cases a;rw[U]at c;cases c;have hl:=(Ps.mp I);obtain⟨g,e⟩:=hl;rw[Sj g,e,with_cons b]
end K19
namespace K59
open PySem L2
noncomputable def Bl (wd:Str):Option (List Int):=if wd∈(["plus","minus","less","call"]:List Str) then some [1,0] else if wd∈(["if","let"]:List Str) then some [0] else none
noncomputable def WA:List Str:=["gap","fn","rec","if"]
structure Mc (K:Ph)(C:Addr):Prop where
 cl:Cls K C
 nf:NoAttr K C "forms"
 nr:NoAttr K C "rows"
 nw:NoAttr K C "waiting"
 nt:NoAttr K C "things"
 ns:NoAttr K C "steps"
theorem Za7 (L:Ml)(n:Int):(L.fs n).lookup ("forms":Str)=some (V.ref L.fd):=rfl
theorem Nb (L:Ml)(n:Int):(L.fs n).lookup ("rows":Str)=some (V.ref L.rd):=rfl
theorem Hw (L:Ml)(n:Int):(L.fs n).lookup ("waiting":Str)=some (V.ref L.wd):=rfl
theorem Hh (L:Ml)(n:Int):(L.fs n).lookup ("things":Str)=some (V.ref L.td):=rfl
theorem Mq (L:Ml)(n:Int):(L.fs n).lookup ("steps":Str)=some (V.int n):=rfl
theorem Zgv (L:Ml)(n k:Int):Am "steps" (.int k) (L.fs n)=L.fs k:=rfl
theorem Zn8 (L:Ml)(n:Int)(t:Addr):Am "things" (.ref t) (L.fs n)=(L.with t).fs n:=rfl
theorem D4 (L:Ml)(n:Int):(L.fs n).lookup ("make_steps":Str)=none/\(L.fs n).lookup ("new_row":Str)=none/\(L.fs n).lookup ("thing_of_leaf":Str)=none/\(L.fs n).lookup ("come_to":Str)=none/\(L.fs n).lookup ("go_further":Str)=none/\(L.fs n).lookup ("taken_things":Str)=none/\(L.fs n).lookup ("thing_at_the_end":Str)=none/\(L.fs n).lookup ("thing_of_form":Str)=none:=⟨rfl,rfl,rfl,rfl,rfl,rfl,rfl,rfl⟩
theorem Zgg {ws:List Str}:(ws.map V.str).all C8=true:=by rw[List.all_map];exact Sd.mpr λ_ _=>rfl
theorem Io {t:Str}{ws:List Str}:Fk (.str t) (ws.map V.str)=decide (t∈ws):=by
 unfold Fk;rw[List.any_map];by_cases I:t∈ws
 ·rw[decide_eq_true I];exact List.any_eq_true.mpr ⟨t,I,by show(t == t)=true;simp⟩
 ·rw[decide_eq_false I];exact Bool.eq_false_iff.mpr λh=>by
   obtain⟨x,O,e⟩:=List.any_eq_true.mp h;have e:(x == t)=true:=e;have e:x=t:=by simpa using e
   exact I (by rw[<- e];exact O)
end K59
local macro_rules | `(tactic| walk_at "r1")=>do
  let t0:=(("s_seq s_asg s_ret s_ifS s_test s_op s_c s_cons s_nil s_call s_cb s_gname s_ex s_exi s_drop s_next s_un s_tB s_not s_and s_or s_andV s_orV s_notV s_vals s_tup s_lst s_bm s_bm0 s_sl s_po s_po0 s_gcons s_gnil s_gsub s_isN s_notN s_rI0 s_rU s_add_int s_lt s_le iteT iteF s_comp s_for s_rng1 s_rng3 s_exr s_iany s_irev s_ienum s_listen s_listrev s_izip s_ienumT s_listzp s_ipI s_yes s_turn s_int_b s_intb s_truth s_chain s_nt s_nf".splitOn " ").map λs=>Lean.mkIdent (.str `L2 s)).toArray
  let t1:=(("s_var s_aug s_eq s_ne s_neb".splitOn " ").map λs=>Lean.mkIdent (.str `L2 s)).toArray
  `(tactic| (first|(with_reducible first $[|refine $t0 ?_]*)|(first $[|((with_reducible refine' $t1 ?e ?_); (case e=>exact rfl))]*)|((with_reducible refine' L2.s_rI ?c ?_); (case c=>first|decide|exact⟨by decide,by decide⟩|exact⟨by decide,by decide,by decide⟩))|((with_reducible refine' L2.s_mul_r ?a ?b ?_); (case a=>decide); (case b=>decide))|((with_reducible refine' L2.s_mul_l ?a ?b ?_); (case a=>decide); (case b=>decide))|((with_reducible refine' L2.s_exr3 ?e ?_); (case e=>decide))))
local macro_rules | `(tactic| walk_at "r")=>`(tactic| (repeat walk_at "r1"))
local macro_rules | `(tactic| left)=>`(tactic| walk_at "r")
namespace K59
open PySem L2
section
variable {P:Program}{w:World}{K:Ph}{mg:Str->Option Value}{base:Heap}
theorem Bq (a b:Str):decide (V.str a=V.str b)=decide (a=b):=by
 by_cases h:a=b
 ·rw[decide_eq_true h,decide_eq_true (by rw[h])]
 ·rw[decide_eq_false h,decide_eq_false (λx=>h (V.str.inj x))]
noncomputable def Lb (ops:List (Str×V)):Bool:=ops.all λx=>decide (x.1=("num":Str))
def Ze7 (K:Ph):Sp:=λvs H Q _=>eX3 λ(o:Addr)(ov:List V)(ops:List (Str×V))=>vs=[.ref o]/\H o=some (.lst ov)/\Al (ThAt K H) ov ops/\ops.length<=1000/\∀H',Same H H'->Q (.bl (Lb ops)) H'
theorem Zmh:(["thing"]:List Str).Nodup:=by right
theorem Zor:Bb ["things"] ["things"] (A5 N1):=by walk_at "sc"
theorem Zse (F:Fun K "are_numbers" "are_numbers" N1 f fd)(T:Txt K mg):FnOk P w K mg base Aq 1 f fd ["things"] (Ze7 K):=by
 refine F.okq Zor (λvs H Q E h=>?_) (λaa A outer s H vs Q E hr h=>?_)
 ·obtain⟨o,ov,ops,rfl,_⟩:=h;rfl
 ·obtain⟨o,ov,ops,rfl,ho,al,hl,q⟩:=h;refine⟨_,An (B1 (Zri K rfl) T.all (Av (Zdd (N:=["thing"]) (σ0:=Fv 1 []) rfl (J2 rfl (by right) (by right) (by right)) (El K Ab) (Jt rfl (by rfl)) (λ_ _ _ _=>Gr (i:=0) Zmh rfl (Or.inl rfl)) (λ_ _ _ _=>Kv) (λ_ _ _ _=>Zeq (Zcc K hr.u200) (Ai K Ab Aa) Aj (Ly _))))),?_⟩;have bg:=big;have Y:=al.1;left;refine .inl ⟨o,rfl,⟨_,SqL.of ho⟩,λD hD=>?_⟩;refine Np (K:=K) (a:=o) (xs:=ov) (Pv:=λi ys I H'=>∃Z,I=[Z]/\ys=((ops.take i).map λx:Str×V=>decide (x.1=("num":Str))).map V.bl/\Same H H') ⟨none,rfl,rfl,Same.upd hD⟩ ?_ ?_ ?_
  ·rintro i ys I H' _ ⟨Z,_,_,U⟩;exact SqL.of (U _ _ ho)
  ·rintro i x ys I H' hx O ⟨Z,rfl,rfl,U⟩;obtain⟨y,hy,_,a,rfl,qa⟩:=al.get hx;have hi:i<ov.length:=(Ps.mp hx).1;left;refine A1 (U.tup qa) rfl ?_;left;rw[Bq];refine⟨_,O,by rw[Pp,Pp,Qp];lia,_,Ac,_,rfl,?_,U.over hD⟩;rw[Sa,hy,Vf,Qi,Qi];rfl
  ·rintro ys I H' O ⟨Z,rfl,rfl,U⟩;left;refine⟨D,_,rfl,SqL.of O,?_⟩;left;have q':=q H' U;rw[Y,Uh];unfold Lb at q';rw[List.all_map];exact q'
noncomputable def A7 (bc:List (Str×V))(x:Str×V):Str×V:=if x.1="row" then (match x.2 with|.int k=>(bc[k.toNat]?).getD x|_=>x) else x
def K6 (n:Nat)(x:Str×V):Prop:=x.1="row" -> ∃k:Nat,x.2=.int (k:Nat)/\k<n
def Zdp (K:Ph):Sp:=λvs H Q _=>eX5 λ(tv:V)(b:Addr)(bv:List V)(x:Str×V)(bc:List (Str×V))=>vs=[tv,.ref b]/\ThAt K H tv x/\SqL K H b bv/\Al (ThAt K H) bv bc/\K6 bc.length x/\∀v,ThAt K H v (A7 bc x)->Q v H
theorem Zrk:Bb pU pU (A5 O7):=by walk_at "sc"
theorem Zm3 (F:Fun K "thing_now" "thing_now" O7 f fd)(T:Txt K mg):FnOk P w K mg base Aq 1 f fd pU (Zdp K):=by
 refine F.okq Zrk (λvs H Q E h=>?_) (λaa A outer s H vs Q E hr h=>?_)
 ·obtain⟨tv,b,Y,x,bc,rfl,_⟩:=h;rfl
 ·obtain⟨tv,b,Y,x,bc,rfl,ht,hb,al,ok,q⟩:=h;refine⟨_,An (Za6 (Bj K hr (Ai K Ab Aa) Aj) (Ai K Ag (Ai K Ab Aa)) Ab),?_⟩;obtain⟨hf,a,rfl,U⟩:=ht;left;unfold Kl;left;refine A1 U rfl ?_;left;rw[Bq];by_cases I:x.1="row"
  ·obtain⟨k,ek,Z⟩:=ok I;have O:k<Y.length:=by rw[al.1];exact Z
   have hx:=al.2 k Y[k] bc[k] (Pj O) (Pj Z);have en:A7 bc x=bc[k]:=by
    unfold A7;rw[if_pos I,ek];simp[Pj Z]
   rw[decide_eq_true I];left;refine A1 U rfl ?_;rw[ek];refine Bo hb (Cp (Pj O)) ?_;exact q _ (by rw[en];exact hx)
  ·rw[decide_eq_false I];left;refine q _ ?_;unfold A7;rw[if_neg I];exact⟨hf,a,rfl,U⟩
noncomputable def C5 (rs:List Rx)(x:Str×V):Bool:=match x with
 | (w,.int k)=>decide (w="row") && (match rs[k.toNat]? with|some r=>decide (r.wd∈(["fn","rec"]:List Str))|none=>false)
 |_=>false
def Mn (rs:List Rx)(x:Str×V):Prop:=x.1="row" -> ∃k:Nat,x.2=.int (k:Nat)/\k<rs.length
def Zj7 (K:Ph):Sp:=λvs H Q _=>eX6 λ(v:V)(x:Str×V)(r:Addr)(rv:List V)(A:Addr->Prop)(rs:List Rx)=>vs=[v,.ref r]/\ThAt K H v x/\x.1="row"/\Mn rs x/\H r=some (.lst rv)/\Al (RwAt K A H) rv rs/\∀H',Same H H'->Q (.bl (C5 rs x)) H'
theorem Zou:Bb ["thing","rows"] ["thing","rows"] (A5 O3):=by walk_at "sc"
theorem Zss (F:Fun K "is_finished" "is_finished" O3 f fd)(T:Txt K mg):FnOk P w K mg base Aq 1 f fd ["thing","rows"] (Zj7 K):=by
 refine F.okq Zou (λvs H Q E h=>?_) (λaa A outer s H vs Q E hr h=>?_)
 ·obtain⟨v,x,r,rv,A,rs,rfl,_⟩:=h;rfl
 ·obtain⟨v,x,r,rv,B,rs,rfl,hx,O,ok,er,al,q⟩:=h;refine⟨_,An (Zvw (qcm (Fq K hr.u200) (Ai K Ab Aa) Aj) (Gf (qcm (Hj K) (Ai K (Ai K Ag (Ai K Ab Aa)) Aa) (Ak (Ah Aj Aj))))),?_⟩;obtain⟨hf,a,rfl,Z⟩:=hx;obtain⟨k,U,hk⟩:=ok O;obtain⟨xw,xv⟩:=x;have O:xw="row":=O;have U:xv=.int (k:Nat):=U;subst O U;have I:k<rv.length:=by rw[al.1];exact hk
  obtain⟨y,hy,a2,p2,o2,e2,ov,ev,h1,h2,_⟩:=al.get (Pj I);have ef:C5 rs ("row",.int (k:Nat))=decide (y.wd∈(["fn","rec"]:List Str)):=by
   unfold C5;simp only[Qx,hy,decide_true,Bool.true_and]
  rw[ef]at q;left;refine A1 Z rfl ?_;left;rw[decide_eq_true (Eq.refl _)];left;refine A1 Z rfl ?_;left;refine Bo (SqL.of er) (Cp (Pj I)) ?_;rw[h1];left;refine A1 h2 rfl ?_;left;refine⟨Bt,λp1 Y=>?_⟩;refine Fg (.inr (SqT.of Ac)) rfl rfl ?_;rw[if_neg Pt,show Fk (.str y.wd) [.str "fn",.str "rec"]=decide (y.wd∈(["fn","rec"]:List Str)) from Io (ws:=["fn","rec"])];exact q _ (Same.upd Y)
def Zew (K:Ph)(C:Addr):Sp:=λvs H Q _=>eX6 λ(v:V)(x:Str×V)(HB:Hp)(kvs:List (List Aw×V))(L:Ml)(S:MS)=>vs=[.ref L.m,v]/\MAt K HB C kvs L H S/\ThAt K H v x/\Mn S.rows x/\∀H',Same H H'->Q (.bl (C5 S.rows x)) H'
theorem Zrs:Bb qE qE (A5 Ni):=by walk_at "sc"
theorem Zoq (F:Fun K "is_function" "Machine.is_function" Ni f fd)(T:Txt K mg)(O:Mc K C)(C_is_finished:Ba P w K mg base 1 "is_finished" ["thing","rows"] (Zj7 K)):FnOk P w K mg base Aq 2 f fd qE (Zew K C):=by
 refine F.okq Zrs (λvs H Q E h=>?_) (λaa A outer s H vs Q E U h=>?_)
 ·obtain⟨v,x,HB,kvs,L,S,rfl,_⟩:=h;rfl
 ·obtain⟨v,x,HB,kvs,L,S,rfl,M,Y,ok,q⟩:=h;refine⟨_,An (Ga (E6 K U (Ai K Ag Aa) Aj) (Gf (Ay C_is_finished U.m (Ah Ag (Ck K Ab))))),?_⟩;obtain⟨hf,a,rfl,qa⟩:=id Y;obtain⟨Z,er,ar,ac⟩:=M.rows;left;refine A1 qa rfl ?_;left;rw[Bq];by_cases I:x.1="row"
  ·rw[decide_eq_true I];left;refine⟨_,rfl,L.m,C,L.dx,_,_,rfl,M.ins,O.cl,O.nr,Nb L S.steps,?_⟩;left;exact⟨_,x,L.rd,Z,_,S.rows,rfl,Y,I,ok,er,ar.mono λv x h=>h.1,q⟩
  ·rw[decide_eq_false I];have e:C5 S.rows x=false:=by
    unfold C5;split
    ·simp only at I;rw[decide_eq_false I];rfl
    ·rfl
   rw[e]at q;left;exact q H (Same.refl _)
noncomputable def Dc (wd:Str)(d:Dt)(n:Int):List Str :=
 if wd="fn" then (match d with|.flat (.str z)=>[z]|_=>[])
 else if wd="rec" then (match d with|.tup [.flat (.str y),.flat (.str z)]=>[y,z]|_=>[])
 else if wd="let"/\n=1 then (match d with|.flat (.str z)=>[z]|_=>[])
 else []
def Gb (wd:Str)(d:Dt):Prop:=(wd="fn"\/wd="let" -> ∃z,d=.flat (.str z))/\(wd="rec" -> eX2 λy z=>d=.tup [.flat (.str y),.flat (.str z)])
def Zjh (K:Ph):Sp:=λvs H Q _=>eX5 λ(v:V)(wd:Str)(d:Dt)(ts:List Tr)(n:Int)=>vs=[v,.int n]/\TrAt K H v (.mk wd d ts)/\Gb wd d/\∀l H',Same H H'->H l=none->H' l=some (.lst ((Dc wd d n).map V.str))->Q (.ref l) H'
theorem Zsh:Bb pS pS (A5 Pa):=by walk_at "sc"
theorem Zno (F:Fun K "names_bound" "names_bound" Pa f fd)(T:Txt K mg):FnOk P w K mg base Aq 1 f fd pS (Zjh K):=by
 refine F.okq Zsh (λvs H Q E h=>?_) (λac A outer s H vs Q E hr h=>?_)
 ·obtain⟨v,wd,d,ts,n,rfl,_⟩:=h;rfl
 ·obtain⟨v,wd,d,ts,n,rfl,ht,ok,q⟩:=h;refine⟨_,Ad (Ax (Bj K hr (Ai K Ab Aa) Aj) (An (Bk (Av (Ai K Ab Aa)))) A0)
   (Ad (Ax (Bj K hr (Ai K Ab Aa) Aj) (An (D5 (K1 K) T.list (Av (Ai K Ab Aa)))) A0) (Ad (Ax (QW.qt (Eg (Bj K hr (Ai K Ab Aa) Aj) (Ec (Bj K hr Ag Aa)))) (An (Bk (Av (Ai K Ab Aa)))) A0) (An (Bk Bh)))),?_⟩
  cases ht with
  | @mk b pp _ nv _ vs _ Y hn ad hl ae =>
  have flat:∀z,d=.flat (.str z)->nv=.str z:=by
   intro z e;rcases hn with⟨_,h⟩|⟨_,_,_,_,_,h⟩
   ·rw[e]at h;injection h with h;exact h.symm
   ·rw[e]at h;cases h
  unfold Dc at q;left;refine A1 Y rfl ?_;left;rw[Bq];refine Be (λh=>?_) (λh=>?_)
  ·have h:wd="fn":=of_decide_eq_true h;obtain⟨z,rfl⟩:=ok.1 (.inl h);have:=flat z rfl;subst this;rw[if_pos h]at q;left;refine A1 Y rfl ?_;left;refine⟨Dl,λl I=>?_⟩;exact q l _ (Same.upd I) I Ac
  have h:¬wd="fn":=λx=>h (decide_eq_true x);rw[if_neg h]at q;left;refine A1 Y rfl ?_;left;rw[Bq];refine Be (λh=>?_) (λh=>?_)
  ·have h:wd="rec":=of_decide_eq_true h;obtain⟨y,z,rfl⟩:=ok.2 h;rw[if_pos h]at q;obtain⟨a,Z,rfl,qa,aa⟩:eX2 λa Z=>nv=.ref a/\SqT K H a Z/\Z=[.str y,.str z]:=by
    rcases hn with⟨_,h⟩|⟨a,Z,e,qa,_,h⟩
    ·cases h
    ·refine⟨a,Z,e,qa,?_⟩;injection h with h;obtain⟨u1,u2,rfl⟩:=lz2 (vs:=Z) (by first|exact h|(have:=congrArg Sx h;rw[Pp]at this;exact this.symm));simp only[Qq,Ur,Vt,Dt.flat.injEq,and_true]at h;rw[h.1,h.2]
   subst aa;left;refine A1 Y rfl ?_;left;refine⟨a,_,rfl,.inr qa,λl I=>?_⟩;exact q l _ (Same.upd I) I Ac
  have h:¬wd="rec":=λx=>h (decide_eq_true x);rw[if_neg h]at q;left;refine A1 Y rfl ?_;left;rw[Bq];by_cases O:wd="let"
  ·rw[decide_eq_true O];left;by_cases U:n=1
   ·rw[decide_eq_true (by rw[U])];obtain⟨z,rfl⟩:=ok.1 (.inr O);have:=flat z rfl;subst this;rw[if_pos ⟨O,U⟩]at q;left;refine A1 Y rfl ?_;left;refine⟨Dl,λl I=>?_⟩;exact q l _ (Same.upd I) I Ac
   ·rw[decide_eq_false (λh=>U (V.int.inj h))];rw[if_neg (λh=>U h.2)]at q;left;refine⟨Bg,λl I=>?_⟩;exact q l _ (Same.upd I) I Ac
  ·rw[decide_eq_false O];rw[if_neg (λh=>O h.1)]at q;left;refine⟨Bg,λl I=>?_⟩;exact q l _ (Same.upd I) I Ac
def Lf (K:Ph)(C:Addr):Sp:=λvs H Q _=>eX13 λ(wd:Str)(p o e:Addr)(pl:List Nat)(ov ev:List V)(ops:List (Str×V))(ar:List (Str×Str×V))(HB:Hp)(kvs:List (List Aw×V))(L:Ml)(S:MS)=>vs=[.ref L.m,.str wd,.ref p,.ref o,.ref e]/\MAt K HB C kvs L H S/\H p=some (.tup (A2 pl))/\SqL K H o ov/\Al (ThAt K H) ov ops/\SqL K H e ev/\Al (PrAt K H) ev ar/\S.rows.length<10000 /\
 ∀v H',SameM L H H'->MAt K HB C kvs L H' { S with rows:=S.rows++[⟨wd,Ap pl,ops,if wd∈WA then ar else []⟩] }->ThAt K H' v ("row",.int (S.rows.length:Nat))->Q v H'
theorem Zgh:Bb ["self","word","place","operands","around","kept"] pB (A5 Ln):=by walk_at "sc"
theorem viaV {t:TE}{σ:St}{H:Hp}{Q:VK}(R:V->Hp->Prop)(h2:∀x H',R x H'->Q x H')(h1:∀Q':VK,(∀x H',R x H'->Q' x H')->t σ H Q'):t σ H Q:=h1 Q h2
theorem Zus (F:Fun K "new_row" "Machine.new_row" Ln f fd)(T:Txt K mg)(O:Mc K C)(G_WORDS_WITH_AROUND:F3 mg "WORDS_WITH_AROUND" (.ref aw))(hwa:∀H,SqT K H aw (WA.map V.str)):FnOk P w K mg base Aq 1 f fd pB (Lf K C):=by
 refine F.okq Zgh (λvs H Q E h=>?_) (λas A outer s H vs Q E hr h=>?_)
 ·obtain⟨wd,p,o,e,pl,ov,ev,ops,ar,HB,kvs,L,S,rfl,_⟩:=h;rfl
 ·obtain⟨wd,p,o,e,pl,ov,ev,ops,ar,HB,kvs,L,S,rfl,M,hp,ho,ag,he,am,hz,q⟩:=h;refine⟨_,Ad (Ao 5 Zgh (Za6 (Bp (Hj K) Ag (G8 G_WORDS_WITH_AROUND)) (D5 (K1 K) T.list (Av A6)) (Bk Bh)))
   (Ad (Bx (Co K Pu Qd Qe C0 (Ck K Ab) (Av (Ak (Dh Ag Az (D5 (K1 K) T.list (Av A9)) (qv 5)))))) (An (Ak (Ah Aj (Ae D9 (Bz K T.len (Ck K Ab)) Aa))))),?_⟩
  have bg:=big;left;have kept:Al (PrAt K H) (if wd∈WA then ev else []) (if wd∈WA then ar else []):=by
   by_cases hw:wd∈WA
   ·rw[if_pos hw,if_pos hw];exact am
   ·rw[if_neg hw,if_neg hw];exact .nil
  refine viaV (R:=λx H'=>∃k,x=.ref k/\H k=none/\H'=upd H k (.lst (if wd∈WA then ev else []))) ?_ (λQ' hQ=>?_)
  ·rintro _ _ ⟨k,rfl,hk,rfl⟩;have s1:Same H (upd H k (.lst (if wd∈WA then ev else []))):=Same.upd hk;have e1:upd H k (.lst (if wd∈WA then ev else [])) k=some (.lst (if wd∈WA then ev else [])):=Ac;revert s1 e1 kept;generalize (if wd∈WA then ev else [])=kv;generalize (if wd∈WA then ar else [])=ka at q ⊢;generalize upd H k (.lst kv)=H1;intro kept s1 e1;have M1:=M.new s1;obtain⟨Y,er,af,aq⟩:=M1.rows;left;refine⟨_,rfl,L.m,C,L.dx,_,_,rfl,M1.ins,O.cl,O.nr,Nb L S.steps,?_⟩;refine B6 (SqL.of er) ?_;left;refine⟨_,ov,rfl,.inl (s1.seq ho),λZ U=>?_⟩;have s2:Same H1 (upd H1 Z (.lst ov)):=Same.upd U;have e2:upd H1 Z (.lst ov) Z=some (.lst ov):=Ac;have aa:=s2 _ _ e1;revert s2 e2 aa;generalize upd H1 Z (.lst ov)=H2;intro s2 e2 aa;left;refine⟨Gz,λr hr=>?_⟩;obtain⟨H3,s3,e3,z9⟩:=Dq hr (.tup [.str wd,.ref p,.ref Z,.ref k]);rw[z9];have ad:=s2.trans s3;have I:=s1.trans ad;have M3:=M.new I;have ao:Y.length=S.rows.length:=af.1;left;refine Cw (ad _ _ er) (by lia) ?_;obtain⟨ai,ae,_,ah⟩:=M.rows;obtain⟨au,aj,_⟩:=M.wait;obtain⟨ap,an,_⟩:=M.things;have nb:∀b,H b=none->¬(L.A b\/HB b≠none):=by
    intro b hb hx;rcases hx with(z|z|z)|z
    ·rw[z,ae]at hb;cases hb
    ·rw[z,aj]at hb;cases hb
    ·rw[z,an]at hb;cases hb
    ·cases h:HB b with
     |none=>exact z h
     |some ob=>rw[M.base _ _ h]at hb;cases hb
   have ak:RwO K (λb=>L.A b\/HB b≠none) H3 (.ref r) (⟨wd,Ap pl,ops,ka⟩,Z,k):=⟨r,p,ov,kv,rfl,SqT.of e3,by rw[Fl];exact SqT.of (I _ _ hp),s3 _ _ e2,ag.mono (ThAt.same I.t),s3 _ _ aa,kept.mono (PrAt.same I.t),nb _ (s1.free U),nb _ hk,λz=>by rw[show Z=k from z,e1]at U;cases U⟩;have al:SepR K (λb=>L.A b\/HB b≠none) H3 (Y++[.ref r]) (S.rows++[⟨wd,Ap pl,ops,ka⟩]):=SepR.add (H:=H) (by rw[show Y=ai from by have h:=s1 _ _ ae;rw[er]at h;cases h;rfl];exact ah) I (s1.free U) hk ak;have M4:=M3.setRows (rv:=Y++[.ref r]) (rs:=S.rows++[⟨wd,Ap pl,ops,ka⟩]) ((af.mono (RwX.same ad.a)).snoc ⟨⟨r,p,Z,k,ov,kv,rfl,SqT.of e3,by rw[Fl];exact SqT.of (I _ _ hp),s3 _ _ e2,ag.mono (ThAt.same I.t),s3 _ _ aa,kept.mono (PrAt.same I.t),nb _ (s1.free U),nb _ hk⟩,r,p,Z,k,rfl,SqT.of e3,by rw[Fl];exact I _ _ hp⟩) al;have e4:SameM L H (upd H3 L.rd (.lst (Y++[.ref r]))):=(I.m L).trans (SameM.upd (.inr (.inl rfl)));have ac:upd H3 L.rd (.lst (Y++[.ref r])) L.rd=some (.lst (Y++[.ref r])):=Ac;revert M4 e4 ac;generalize upd H3 L.rd (.lst (Y++[.ref r]))=H4;intro M4 e4 ac;left;refine⟨_,rfl,L.m,C,L.dx,_,_,rfl,M4.ins,O.cl,O.nr,Nb L S.steps,?_⟩;left;refine Cm (SqL.of ac) ?_;left;refine⟨Bt,λt ht=>?_⟩;have e5:(((Y++[V.ref r]).length:Nat):Int)-1=((S.rows.length:Nat):Int):=by rw[Pn,Py];lia
   rw[e5];have s5:Same H4 (upd H4 t (.tup [.str "row",.int (S.rows.length:Nat)])):=Same.upd ht;exact q _ _ (e4.trans (s5.m L)) (M4.new s5) ⟨rfl,t,rfl,SqT.of Ac⟩
  ·unfold Kl;left;refine Fg (.inr (hwa _)) rfl Zgg ?_;rw[if_neg Pt,Io];refine⟨_,rfl,?_⟩;refine Be (λh=>?_) (λh=>?_)
   ·have h:wd∈WA:=of_decide_eq_true h;left;refine⟨_,ev,rfl,.inl he,λk hk=>?_⟩;exact hQ _ _ ⟨k,rfl,hk,by rw[if_pos h]⟩
   ·have h:¬wd∈WA:=λx=>h (decide_eq_true x);left;refine⟨Bg,λk hk=>?_⟩;exact hQ _ _ ⟨k,rfl,hk,by rw[if_neg h]⟩
noncomputable def Cd (ns:List Str)(xs:List (Str×V)):List (Str×Str×V):=ns.zip xs
noncomputable def Ku (S:MS)(wd:Str)(d:Dt)(pl:List Nat)(n:Nat)(ar:List (Str×Str×V))(xs:List (Str×V)):MS:={ S with wait:=S.wait++[⟨pl++[n],ar++Cd (Dc wd d n) xs,false⟩] }
def Op (K:Ph)(C:Addr):Sp:=λvs H Q _=>eX17 λ(p e o:Addr)(n:Nat)(pl:List Nat)(ev ov:List V)(ar:List (Str×Str×V))(xs:List (Str×V))(HB:Hp)(kvs:List (List Aw×V))(L:Ml)(S:MS)(v:V)(wd:Str)(d:Dt)(ts:List Tr)=>vs=[.ref L.m,.ref p,.int (n:Nat),.ref e,.ref o]/\MAt K HB C kvs L H S/\H p=some (.tup (A2 pl))/\H e=some (.lst ev)/\Al (PrAt K H) ev ar/\H o=some (.lst ov)/\Al (ThAt K H) ov xs/\Cj kvs (Ed pl)=some v/\TrAt K H v (.mk wd d ts)/\Gb wd d/\pl.length<=2000/\ar.length<=9000/\S.wait.length<9000 /\
 ∀H',SameM L H H'->MAt K HB C kvs L H' (Ku S wd d pl n ar xs)->Q .non H'
theorem Zif:Bb ["self","place","number","around","things","names"] pC (A5 Nv):=by walk_at "sc"
theorem Zwb (wd:Str)(d:Dt)(n:Int):(Dc wd d n).length<=2:=by
 unfold Dc
 repeat' split
 all_goals simp
theorem Zpn (F:Fun K "go_within" "Machine.go_within" Nv f fd)(T:Txt K mg)(O:Mc K C)(C_names_bound:Ba P w K mg base 1 "names_bound" ["form","number"] (Zjh K)):FnOk P w K mg base Aq 2 f fd pC (Op K C):=by
 refine F.okq Zif (λvs H Q E h=>?_) (λav A outer s H vs Q E hr h=>?_)
 ·obtain⟨p,e,o,n,pl,ev,ov,ar,xs,HB,kvs,L,S,v,wd,d,ts,rfl,_⟩:=h;rfl
 ·obtain⟨p,e,o,n,pl,ev,ov,ar,xs,HB,kvs,L,S,v,wd,d,ts,rfl,M,hp,he,ad,ho,ae,hv,ht,bk,a0,au,a3,q⟩:=h;refine⟨_,Ad (Ao 5 Zif (Ay C_names_bound hr.m (Ah (Nn hr.u1 (Ck K Ab) Ag (λ_ _=>rfl)) Az)))
   (A3 (Bx (Co K Pu Qd Qe C0 (Ck K Ab) (Av (Ak (Bc (Ae (Jo K) Ag (Ak (Av Az))) (Ae (B5 K) A9 (Zlc K (by rfl) T.list (by rfl) T.zip (Ah (qv 5) A6))) Cy)))))),?_⟩
  have bg:=big;have bn:=Zwb wd d n;left;refine⟨_,rfl,L.m,C,L.dx,_,_,rfl,M.ins,O.cl,O.nf,Za7 L S.steps,_,rfl,L.fd,v,rfl,?_,?_⟩
  ·rw[<- hv];refine DGet.t M.frm ?_;rw[Lh];exact hp
  left;refine⟨v,wd,d,ts,n,rfl,ht,bk,λl H1 s1 hl e1=>?_⟩;have M1:=M.new s1;obtain⟨wv,ew,aw⟩:=M1.wait;have ay:=aw.1;left;refine⟨_,rfl,L.m,C,L.dx,_,_,rfl,M1.ins,O.cl,O.nw,Hw L S.steps,?_⟩;refine B6 (SqL.of ew) ?_;left;refine⟨Dl,λp2 an=>?_⟩;obtain⟨H2,s2,e2,z9⟩:=Dq an (.tup [.int (n:Nat)]);rw[z9];refine Zbz (s2 _ _ (s1 _ _ hp)) e2 (by unfold A2;rw[Pp,Py];lia) λp3 H3 s3 e3=>?_;have ac:=s1.trans (s2.trans s3);left;refine Zsq ?_;left;refine⟨l,o,_,ov,rfl,SqL.of (s3 _ _ (s2 _ _ e1)),SqL.of (ac _ _ ho),λz zs H4 ax s4 af aj ez=>?_⟩;have U:=ac.trans s4;have al:=U _ _ he;have ak:Al (PrAt K H4) zs (Cd (Dc wd d n) xs):=by
   have ag:=ae.1;refine⟨by unfold Cd;rw[af,Pp,List.length_zip,ag],λj y x f1 f2=>?_⟩;obtain⟨t,u1,u2,rfl,g1,g2,g3⟩:=aj j y f1;unfold Cd at f2;rw[List.getElem?_zip_eq_some]at f2;rw[Ql,f2.1]at g1;cases g1;exact⟨t,u2,rfl,SqT.of g3,ThAt.same U.t _ _ (ae.2 j _ _ g2 f2.2)⟩
  have ap:zs.length<=2:=by rw[af,Pp];lia
  have aq:=ad.1;refine Iq al ez (by lia) λe5 I=>?_;have s5:Same H4 (upd H4 e5 (.lst (ev++zs))):=Same.upd I;have Z:upd H4 e5 (.lst (ev++zs)) e5=some (.lst (ev++zs)):=Ac;have ah:¬L.A e5:=by
   have M4:=M.new U;obtain⟨rv,er,_⟩:=M4.rows;obtain⟨as,ao,_⟩:=M4.wait;obtain⟨tv,et,_⟩:=M4.things;rintro(y|y|y)
   ·rw[y,er]at I;cases I
   ·rw[y,ao]at I;cases I
   ·rw[y,et]at I;cases I
  revert s5 Z;generalize upd H4 e5 (.lst (ev++zs))=H5;intro s5 Z;have am:=U.trans s5;left;refine⟨Br,λr ai=>?_⟩;obtain⟨H6,s6,e6,z9⟩:=Dq ai (.tup [.ref p3,.ref e5,.bl false]);rw[z9];have Y:=am.trans s6;have aa:=s2.trans (s3.trans (s4.trans (s5.trans s6)));left;refine Cw (aa _ _ ew) (by lia) ?_;have M6:=M.new Y;have M7:=M6.setWait (wv:=wv++[.ref r]) (ws:=S.wait++[⟨pl++[n],ar++Cd (Dc wd d n) xs,false⟩]) ((aw.mono (WtAt.same aa.a)).snoc ⟨r,p3,e5,ev++zs,rfl,SqT.of e6,?_,s6 _ _ Z,?_,ah⟩)
  ·left;exact q _ ((Y.m L).trans (SameM.upd (.inr (.inr (.inl rfl))))) M7
  ·have e9:=s6 _ _ (s5 _ _ (s4 _ _ e3));rw[e9];unfold A2;rw[Qi];rfl
  ·exact(ad.mono (PrAt.same Y.t)).append (ak.mono (PrAt.same (s5.trans s6).t))
theorem K7 (L:Ml)(n:Int):(L.fs n).lookup ("go_within":Str)=none/\(L.fs n).lookup ("is_function":Str)=none/\(L.fs n).lookup ("call":Str)=none:=⟨rfl,rfl,rfl⟩
def Zin (K:Ph)(C:Addr):Sp:=λvs H Q _=>eX14 λ(o:Addr)(ov:List V)(k:Nat)(xs:List (Str×V))(r:Rx)(pl:List Nat)(HB:Hp)(kvs:List (List Aw×V))(L:Ml)(S:MS)(v:V)(wd:Str)(d:Dt)(ts:List Tr)=>vs=[.ref L.m,.ref o]/\MAt K HB C kvs L H S/\H o=some (.lst ov)/\Al (ThAt K H) ov (("row",.int (k:Nat))::xs)/\S.rows[k]?=some r/\r.pl=Ap pl/\Cj kvs (Ed pl)=some v/\TrAt K H v (.mk wd d ts)/\Gb wd d/\pl.length<=2000/\r.ar.length<=9000/\S.wait.length<9000/\xs.length<=1000 /\
 ∀H',SameM L H H'->MAt K HB C kvs L H' (Ku S wd d pl 0 r.ar (if r.wd="rec" then ("row",.int (k:Nat))::xs else xs))->Q .non H'
theorem Zfx:Bb ["self","operands","row"] qF (A5 Lr):=by walk_at "sc"
theorem Zmq (F:Fun K "call" "Machine.call" Lr f fd)(T:Txt K mg)(O:Mc K C)(MW:Dj Aq P w K mg base 2 C "go_within" ["self","place","number","around","things"] (Op K C)):FnOk P w K mg base Aq 3 f fd qF (Zin K C):=by
 refine F.okq Zfx (λvs H Q E h=>?_) (λam A outer s H vs Q E hr h=>?_)
 ·obtain⟨o,ov,k,xs,r,pl,HB,kvs,L,S,v,wd,d,ts,rfl,_⟩:=h;rfl
 ·obtain⟨o,ov,k,xs,r,pl,HB,kvs,L,S,v,wd,d,ts,rfl,M,ho,I,ae,aj,hv,ht,bk,ac,ag,ah,ao,q⟩:=h;refine⟨_,Ad (Ao 2 Zfx (Ai K (Ck K Ab) (Ai K (Ai K Ag Aa) Aa)))
   (A3 (Bx (Dy (k:=2) K Aq pC Ab hr.m D8 (Dh (Ai K Az Aa) Aa (Ai K Az Aa) (Za6 (Bj K hr (Ai K Az Aa) Aj) Ag (Eh (E3 K) Ag (Ci Aa) Fz)))))),?_⟩
  have bg:=big;obtain⟨rv,er,ar,al⟩:=M.rows;obtain⟨u,hu⟩:∃u,rv[k]?=some u:=⟨_,Pj (by rw[ar.1];exact(Ps.mp ae).1)⟩;obtain⟨r',aa,xr⟩:=ar.get hu;rw[ae]at aa;cases aa;obtain⟨⟨a,p',o',e,ak,ev,rfl,qa,_,_,_,he,af,_,an⟩,a2,p,o2,e2,ea,Ah,hp⟩:=xr;cases ea;obtain⟨Z,U,rfl⟩:eX2 λZ U=>ov=Z::U:=by
   have hl:=I.1
   match ov,hl with
   |Z::U,_=>exact⟨Z,U,rfl⟩
  obtain⟨_,ax,rfl,qx⟩:=I.2 0 Z _ rfl rfl;have ad:H p=some (.tup (A2 pl)):=by rw[hp,aj,Fl]
  left;refine⟨_,rfl,L.m,C,L.dx,_,_,rfl,M.ins,O.cl,O.nr,Nb L S.steps,?_⟩;left;refine Bo (SqL.of ho) (Cp (j:=0) rfl) ?_;left;refine A1 qx rfl ?_;refine Bo (SqL.of er) (Cp hu) ?_;left;refine⟨_,rfl,L.m,C,L.dx,_,_,rfl,M.ins,(K7 L S.steps).1,MW,?_⟩;left;refine A1 Ah rfl ?_;left;refine A1 qa rfl ?_;left;unfold Kl;left;refine A1 qa rfl ?_;left;rw[Bq];by_cases hw:r.wd="rec"
  ·rw[if_pos hw]at q;rw[decide_eq_true hw];left;exact⟨p,e,o,0,pl,ev,_,r.ar,_,HB,kvs,L,S,v,wd,d,ts,rfl,M,ad,he,af,ho,I,hv,ht,bk,ac,ag,ah,λH2 e2 M2=>by left;exact q _ e2 M2⟩
  ·rw[if_neg hw]at q;rw[decide_eq_false hw];left;refine Gc (SqL.of ho) λl hl=>?_;have ec:Bf (V.ref ax::U) (some 1) none=U:=Zdz _ 1;rw[ec];obtain⟨H2,Y,e2,z9⟩:=Dq hl (.lst U);rw[z9];have ai:Al (ThAt K H2) U xs:=⟨by have:=I.1;simpa using this,λj y x f1 f2=>ThAt.same Y.t _ _ (I.2 (j+1) y x (by simpa using f1) (by simpa using f2))⟩;exact⟨p,e,l,0,pl,ev,U,r.ar,xs,HB,kvs,L,S,v,wd,d,ts,rfl,M.new Y,Y _ _ ad,Y _ _ he,af.mono (PrAt.same Y.t),e2,ai,hv,ht.same Y,bk,ac,ag,ah,λH3 e3 M3=>by left;exact q _ ((Y.m L).trans e3) M3⟩
theorem Zp2 (xs:List V)(n:Nat)(h0:0<n)(h:n<=xs.length):Bf xs (some (-(n:Int))) none=xs.drop (xs.length-n)/\Bf xs none (some (-(n:Int)))=xs.take (xs.length-n):=by
 unfold Bf;have e:∀d,HT.sIx xs.length d (some (-(n:Int)))=xs.length-n:=by
  intro d;show(if (-(n:Int))<0 then ((-(n:Int))+(xs.length:Int)).toNat else min (-(n:Int)).toNat xs.length)=_;rw[if_pos (by lia)];lia
 rw[e,e,HT.sIx_none,HT.sIx_none,Ut,List.drop_zero];refine⟨?_,rfl⟩;rw[Rs (by rw[Sn];lia)]
def Zj4 (K:Ph)(C:Addr):Sp:=λvs H Q _=>eX7 λ(n:Nat)(th last:List (Str×V))(HB:Hp)(kvs:List (List Aw×V))(L:Ml)(S:MS)=>vs=[.ref L.m,.int (n:Nat)]/\MAt K HB C kvs L H S/\0<n/\S.things=th++last/\last.length=n /\
 ∀(l t:Addr)(lv:List V)(H':Hp),SameM L H H'->MAt K HB C kvs (L.with t) H' { S with things:=th }->H t=none->H' l=some (.lst lv)->Al (ThAt K H') lv last->H l=none->l≠t->Q (.ref l) H'
theorem Ziv:Bb ["self","many","taken"] pK (A5 Lq):=by walk_at "sc"
theorem Zos (F:Fun K "taken_things" "Machine.taken_things" Lq f fd)(T:Txt K mg)(O:Mc K C):FnOk P w K mg base Aq 1 f fd pK (Zj4 K C):=by
 refine F.okq Ziv (λvs H Q E h=>?_) (λae A outer s H vs Q E hr h=>?_)
 ·obtain⟨n,th,last,HB,kvs,L,S,rfl,_⟩:=h;rfl
 ·obtain⟨n,th,last,HB,kvs,L,S,rfl,M,n0,hS,ad,q⟩:=h;refine⟨_,Ad (Ao 2 Ziv (Eh (E3 K) (Ck K Ab) (Ci (Ii Ir Ag)) Fz))
   (Ad (K5 K Ab (Eh (E3 K) (Ck K Ab) Fz (Ci (Ii Ir Ag)))) (An Az)),?_⟩
  obtain⟨tv,et,I⟩:=M.things;have af:tv.length=th.length+n:=by rw[I.1,hS,Pn,ad]
  obtain⟨c1,c2⟩:=Zp2 tv n n0 (by lia);have e0:tv.length-n=th.length:=by lia
  rw[e0]at c1 c2;rw[hS]at I;left;refine⟨_,rfl,L.m,C,L.dx,_,_,rfl,M.ins,O.cl,O.nt,Hh L S.steps,?_⟩;left;refine Gc (SqL.of et) λl hl=>?_;rw[c1];obtain⟨H1,s1,e1,z9⟩:=Dq hl (.lst (tv.drop th.length));rw[z9];have M1:=M.new s1;left;refine⟨_,rfl,L.m,C,L.dx,_,_,rfl,M1.ins,O.cl,O.nt,Hh L S.steps,?_⟩;left;refine Gc (SqL.of (s1 _ _ et)) λt ht=>?_;rw[c2];obtain⟨H2,s2,e2,z9⟩:=Dq ht (.lst (tv.take th.length));rw[z9];have U:=s1.trans s2;have M2:=M.new U;have aa:l≠t:=λz=>by rw[<- z,e1]at ht;cases ht
  have Y:=s1.free ht;have a1:Al (ThAt K H2) (tv.take th.length) th:=⟨by rw[Qp];lia,λj v x Z f2=>by
   have hj:j<th.length:=(Ps.mp f2).1;rw[List.getElem?_take_of_lt hj]at Z;exact ThAt.same U.t _ _ (I.2 j v x Z (by rw[Qj hj];exact f2))⟩
  have a2:Al (ThAt K H2) (tv.drop th.length) last:=⟨by rw[Sn];lia,λj v x Z f2=>by
   rw[List.getElem?_drop]at Z;exact ThAt.same U.t _ _ (I.2 (th.length+j) v x Z (by rw[Qr (by lia),Nat.add_sub_cancel_left];exact f2))⟩
  obtain⟨M3,e3⟩:=M.swap U Y e2 a1;refine⟨_,rfl,L.m,C,L.dx,_,rfl,M2.ins,O.cl,O.nt,by show 5<1000;decide,?_⟩;rw[Zn8];have ac:l≠L.m:=λz=>by rw[z,M.ins]at hl;cases hl
  left;refine q l t _ _ e3 M3 Y ((Af ac).trans (s2 _ _ e1)) (a2.mono (ThAt.same ?_)) hl aa;exact M2.t (SameM.upd (.inl rfl))
noncomputable def E4 (wd:Str)(i j:Int):Str×V:=if wd="plus" then ("num",.int (i+j)) else if wd="minus" then ("num",.int (i-j)) else ("truth",.bl (decide (i<j)))
def Zgb (K:Ph):Sp:=λvs H Q _=>eX3 λ(wd:Str)(i j:Int)=>vs=[.str wd,.int i,.int j]/\∀v H',Same H H'->ThAt K H' v (E4 wd i j)->Q v H'
theorem Zl1:Bb qB qB (A5 Le):=by walk_at "sc"
theorem Zoo (F:Fun K "reckoned" "reckoned" Le f fd)(T:Txt K mg):FnOk P w K mg base Aq 1 f fd qB (Zgb K):=by
 refine F.okq Zl1 (λvs H Q E h=>?_) (λO A outer s H vs Q E I h=>?_)
 ·obtain⟨wd,i,j,rfl,_⟩:=h;rfl
 ·obtain⟨wd,i,j,rfl,q⟩:=h;refine⟨_,Ad (Ax (Bj K I Ab Aj) (An (Ak (Ah Aj (Ae (B5 K) Ag Az)))) A0)
   (Ad (Ax (Bj K I Ab Aj) (An (Ak (Ah Aj (Ae D9 Ag Az)))) A0) (An (Ak (Ah Aj (qcm Ey Ag Az))))),?_⟩
  unfold E4 at q;left;rw[Bq];refine Be (λh=>?_) (λh=>?_)
  ·have h:wd="plus":=of_decide_eq_true h;rw[if_pos h]at q;left;refine⟨Bt,λp hp=>?_⟩;exact q _ _ (Same.upd hp) ⟨rfl,p,rfl,SqT.of Ac⟩
  have h:¬wd="plus":=λx=>h (decide_eq_true x);rw[if_neg h]at q;left;rw[Bq];refine Be (λh=>?_) (λh=>?_)
  ·have h:wd="minus":=of_decide_eq_true h;rw[if_pos h]at q;left;refine⟨Bt,λp hp=>?_⟩;exact q _ _ (Same.upd hp) ⟨rfl,p,rfl,SqT.of Ac⟩
  have h:¬wd="minus":=λx=>h (decide_eq_true x);rw[if_neg h]at q;left;refine⟨Bt,λp hp=>?_⟩;exact q _ _ (Same.upd hp) ⟨rfl,p,rfl,SqT.of Ac⟩
noncomputable def Ez:V->Int
 |.int i=>i
 |_=>0
def Zds (x:Str×V):Prop:=x.1="num" -> ∃i,x.2=.int i
noncomputable def Ho:List Str:=["plus","minus","less"]
noncomputable def Hk (S:MS)(wd:Str)(pl:List Nat)(th:List (Str×V))(x y:Str×V):MS :=
 if wd∈Ho/\x.1="num"/\y.1="num" then { S with things:=th++[E4 wd (Ez x.2) (Ez y.2)] }
 else { S with rows:=S.rows++[⟨wd,Ap pl,[x,y],[]⟩],things:=th++[(("row":Str),V.int (S.rows.length:Nat))] }
def FormsAt (K:Ph)(H:Hp)(kvs:List (List Aw×V))(sub:List Nat->Option (Str×Dt)):Prop:=∀pl wd d,sub pl=some (wd,d)->pl.length<=2000/\eX2 λv ts=>Cj kvs (Ed pl)=some v/\TrAt K H v (.mk wd d ts)
theorem FormsAt.same (h:FormsAt K H kvs sub)(e:SameT H H'):FormsAt K H' kvs sub:=λpl wd d I=>by
 obtain⟨h1,v,ts,h2,O⟩:=h pl wd d I;exact⟨h1,v,ts,h2,O.sameT e⟩
inductive Jn (sub:List Nat->Option (Str×Dt))(wd:Str)(d:Dt)(pl:List Nat)(ar:List (Str×Str×V))(S:MS):MS->Prop where
 |two {th:List (Str×V)} {x y:Str×V} (h:wd∈Ho\/wd="call"/\C5 S.rows x=false) (hS:S.things=th++[x,y]) (ok:Mn S.rows x) (ox:Zds x) (oy:Zds y):Jn sub wd d pl ar S (Hk S wd pl th x y)
 |calls {th:List (Str×V)} {k:Nat} {y:Str×V} {r:Rx} {pl':List Nat} {wd':Str} {d':Dt} (h:wd="call") (hS:S.things=th++[(("row":Str),V.int (k:Nat)),y]) (hr:S.rows[k]?=some r) (hf:r.wd∈(["fn","rec"]:List Str)) (hp:r.pl=Ap pl') (hs:sub pl'=some (wd',d')) (bk:Gb wd' d') (ha:r.ar.length<=9000):Jn sub wd d pl ar S (Ku { S with things:=th } wd' d' pl' 0 r.ar (if r.wd="rec" then [(("row":Str),V.int (k:Nat)),y] else [y]))
 |ifs {th:List (Str×V)} {b:Bool} (h:wd="if") (hS:S.things=th++[(("truth":Str),V.bl b)]) (bk:Gb wd d):Jn sub wd d pl ar S (Ku { S with things:=th } wd d pl (if b then 1 else 2) ar [])
 |ifr {th:List (Str×V)} {x:Str×V} (h:wd="if") (hS:S.things=th++[x]) (hx:¬x.1="truth"):Jn sub wd d pl ar S { S with rows:=S.rows++[⟨wd,Ap pl,[x],ar⟩],things:=th++[(("row":Str),V.int (S.rows.length:Nat))] }
 |lets {th:List (Str×V)} {x:Str×V} (h:wd="let") (hS:S.things=th++[x]) (bk:Gb wd d):Jn sub wd d pl ar S (Ku { S with things:=th } wd d pl 1 ar [x])
def Zg4 (K:Ph)(C:Addr):Sp:=λvs H Q _=>eX14 λ(p e:Addr)(pl:List Nat)(ev:List V)(ar:List (Str×Str×V))(HB:Hp)(kvs:List (List Aw×V))(L:Ml)(S S2:MS)(v:V)(wd:Str)(d:Dt)(ts:List Tr)=>vs=[.ref L.m,.ref p,.ref e]/\MAt K HB C kvs L H S/\H p=some (.tup (A2 pl))/\H e=some (.lst ev)/\Al (PrAt K H) ev ar/\¬L.A e/\Cj kvs (Ed pl)=some v/\TrAt K H v (.mk wd d ts)/\∃sub:List Nat->Option (Str×Dt),FormsAt K H kvs sub/\Jn sub wd d pl ar S S2/\S.rows.length<9000/\S.things.length<9000/\S.wait.length<9000/\pl.length<=2000/\ar.length<=9000 /\
 ∀H' t,SameM L H H'->MAt K HB C kvs (L.with t) H' S2->H t=none->Q .non H'
theorem Zc3:Bb ["self","place","around","word","operands"] pA (A5 Mj):=by walk_at "sc"
theorem Zrz (F:Fun K "go_further" "Machine.go_further" Mj f fd)(T:Txt K mg)(O:Mc K C)(G_PARTS_AWAITED:F3 mg "PARTS_AWAITED" (.ref ap))(hpa:Ip P w K ap pk)(hpk:∀wd,(D6 pk wd).isSome=(Bl wd).isSome/\∀ns,Bl wd=some ns->∃b,D6 pk wd=some (.ref b)/\∀H,SqT K H b (ns.map V.int))(MT:Dj Aq P w K mg base 1 C "taken_things" ["self","many"] (Zj4 K C))(MR:Dj Aq P w K mg base 1 C "new_row" ["self","word","place","operands","around"] (Lf K C))(MW:Dj Aq P w K mg base 2 C "go_within" ["self","place","number","around","things"] (Op K C))(MC:Dj Aq P w K mg base 3 C "call" ["self","operands"] (Zin K C))(MI:Dj Aq P w K mg base 2 C "is_function" ["self","thing"] (Zew K C))(C_are_numbers:Ba P w K mg base 1 "are_numbers" ["things"] (Ze7 K))(C_reckoned:Ba P w K mg base 1 "reckoned" ["word","left","right"] (Zgb K)):FnOk P w K mg base Aq 4 f fd pA (Zg4 K C):=by
 refine F.okq Zc3 (λvs H Q E h=>?_) (λbx A outer s H vs Q E hr h=>?_)
 ·obtain⟨p,e,pl,ev,ar,HB,kvs,L,S,S2,v,wd,d,ts,rfl,_⟩:=h;rfl
 ·obtain⟨p,e,pl,ev,ar,HB,kvs,L,S,S2,v,wd,d,ts,rfl,M,hp,he,an,nA,hv,ht,sub,FA,bn,z1,z3,z2,a7,bf,q⟩:=h;refine⟨_,Ad (Ao 3 Zc3 (Ai K (Nn hr.u1 (Ck K Ab) Ag (λ_ _=>rfl)) Aa))
   (Ad (Ao 4 Zc3 (Dy (k:=1) K Aq pK Ab hr.m D8 (Av (Bz K T.len (Za0 (Zce P w K) (G8 G_PARTS_AWAITED) A9 (λ_ _=>rfl)))))) (A3 (Ax (Bj K hr A9 Aj) (A3 (Bx (Dy (k:=2) K Aq pC Ab hr.m D8 (Dh Ag Aa Az A6)))) (A3 (Ax (QW.qt (Eg (Bj K hr A9 Aj) (Ec (Bj K hr (Ai K (Ai K A6 Aa) Aa) Aj)))) (A3 (Bx (Dy (k:=2) K Aq pC Ab hr.m D8 (Dh Ag (Za6 (B0 (Ai K (Ai K A6 Aa) Aa)) Aa Aa) Az (Bk Bh))))) (A3 (Ax (QW.qt (Eg (Bj K hr A9 Aj) (Ec (B0 (Dy (k:=2) K Aq qE Ab hr.m D8 (Av (Ai K A6 Aa))))))) (A3 (Bx (Dy (k:=3) K Aq qF Ab hr.m D8 (Av A6)))) (A3 (Ax (QW.qt (Eg (Bp (Hj K) A9 (Ak (Bc Aj Aj Aj))) (Ec (B0 (Ay C_are_numbers hr.m (Av A6)))))) (A3 (Bx (Co K Pu Qd Qe C0 (Ck K Ab) (Av (Ay C_reckoned hr.m (Bc A9 (Ai K (Ai K A6 Aa) Aa) (Ai K (Ai K A6 Aa) Aa))))))) (A3 (Bx (Co K Pu Qd Qe C0 (Ck K Ab) (Av (Dy (k:=1) K Aq pB Ab hr.m D8 (Dh A9 Ag A6 Az))))))))))))))),?_⟩
  have bg:=big;have a5:=ht;cases ht with
  | @mk b pp _ nv _ vs _ qb hn bw hl b3 =>
  left;refine⟨_,rfl,L.m,C,L.dx,_,_,rfl,M.ins,O.cl,O.nf,Za7 L S.steps,_,rfl,L.fd,.ref b,rfl,?_,?_⟩
  ·rw[<- hv];refine DGet.t M.frm ?_;rw[Lh];exact hp
  left;refine A1 qb rfl ?_;left;refine⟨_,rfl,L.m,C,L.dx,_,_,rfl,M.ins,(D4 L S.steps).2.2.2.2.2.1,MT,?_⟩;cases bn with
  | @lets th x bv hS bk =>
   subst bv;obtain⟨bt,ac,ad⟩:=(hpk "let").2 [0] (by right);left;refine⟨ap,pk,"let",.ref bt,rfl,rfl,hpa,ac,?_⟩;left;refine Ej (ad _) ?_;left;refine⟨1,th,[x],HB,kvs,L,S,rfl,M,by decide,hS,rfl,λo t ov H1 e1 M1 Y ho U aa ak=>?_⟩;have t1:=M.t e1;left;rw[decide_eq_true (Eq.refl _)];refine iteT ?_;left;refine⟨_,rfl,L.m,C,L.dx,_,_,rfl,M1.ins,(K7 (L.with t) S.steps).1,MW,?_⟩;left;refine⟨p,e,o,1,pl,ev,ov,ar,[x],HB,kvs,L.with t,_,.ref b,"let",d,ts,rfl,M1,(t1 p).1 _ hp,(M.a e1).2 _ _ nA he,an.mono (PrAt.same t1),ho,U,hv,a5.sameT t1,bk,a7,bf,z2,λH2 e2 M2=>?_⟩;left;exact q _ t (e1.trans' (L':=L.with t) e2 rfl rfl rfl (.inr Y)) M2 Y
  | @ifs th b2 a0 hS bk =>
   subst a0;obtain⟨bt,ac,ad⟩:=(hpk "if").2 [0] (by right);left;refine⟨ap,pk,"if",.ref bt,rfl,rfl,hpa,ac,?_⟩;left;refine Ej (ad _) ?_;left;refine⟨1,th,[("truth",.bl b2)],HB,kvs,L,S,rfl,M,by decide,hS,rfl,λo t ov H1 e1 M1 Y ho U aa ak=>?_⟩;have t1:=M.t e1;obtain⟨u1,us,rfl⟩:eX2 λu1 us=>ov=u1::us:=by
    have hl:=U.1
    match ov,hl with
    |u1::us,_=>exact⟨u1,us,rfl⟩
   obtain⟨_,ax,rfl,qx⟩:=U.2 0 u1 _ rfl rfl;left;rw[Bq,decide_eq_false (by right)];left;rw[Bq,decide_eq_true (Eq.refl _)];left;refine Bo (SqL.of ho) (Cp (j:=0) rfl) ?_;left;refine A1 qx rfl ?_;left;rw[Bq,decide_eq_true (Eq.refl _)];left;refine⟨_,rfl,L.m,C,L.dx,_,_,rfl,M1.ins,(K7 (L.with t) S.steps).1,MW,?_⟩;left;unfold Kl;left;refine Bo (SqL.of ho) (Cp (j:=0) rfl) ?_;left;refine A1 qx rfl ?_;have a3:∀l H2,H1 l=none->H2=upd H1 l (.lst [])->Op K C [.ref L.m,.ref p,.int ((if b2 then 1 else 2:Nat):Nat),.ref e,.ref l] H2 (λv H'=>Q .non H') E0:=by
    intro l H2 hl a4;have s2:Same H1 H2:=by rw[a4];exact Same.upd hl
    have e2:H2 l=some (.lst []):=by rw[a4];exact Ac
    refine⟨p,e,l,(if b2 then 1 else 2),pl,ev,[],ar,[],HB,kvs,L.with t,_,.ref b,"if",d,ts,rfl,M1.new s2,s2 _ _ ((t1 p).1 _ hp),s2 _ _ ((M.a e1).2 _ _ nA he),(an.mono (PrAt.same t1)).mono (PrAt.same s2.t),e2,.nil,hv,(a5.sameT t1).same s2,bk,a7,bf,z2,λH3 e3 M3=>?_⟩;exact q _ t (e1.trans' (L':=L.with t) ((s2.m _).trans e3) rfl rfl rfl (.inr Y)) M3 Y
   refine⟨b2,rfl,?_⟩;cases b2 with
   |true =>
    rw[if_pos rfl];left;refine⟨Bg,λl hl=>?_⟩;exact a3 l _ hl rfl
   |false =>
    rw[if_neg Pt];left;refine⟨Bg,λl hl=>?_⟩;exact a3 l _ hl rfl
  | @ifr th x a0 hS bp =>
   subst a0;obtain⟨bt,ac,ad⟩:=(hpk "if").2 [0] (by right);left;refine⟨ap,pk,"if",.ref bt,rfl,rfl,hpa,ac,?_⟩;left;refine Ej (ad _) ?_;left;refine⟨1,th,[x],HB,kvs,L,S,rfl,M,by decide,hS,rfl,λo t ov H1 e1 M1 Y ho U aa ak=>?_⟩;have t1:=M.t e1;have al:=(t1 p).1 _ hp;have am:=(M.a e1).2 _ _ nA he;have ag:Al (PrAt K H1) ev ar:=an.mono (PrAt.same t1);obtain⟨u1,us,rfl⟩:eX2 λu1 us=>ov=u1::us:=by
    have hl:=U.1
    match ov,hl with
    |u1::us,_=>exact⟨u1,us,rfl⟩
   obtain⟨_,ax,rfl,qx⟩:=U.2 0 u1 _ rfl rfl;left;rw[Bq,decide_eq_false (by right)];left;rw[Bq,decide_eq_true (Eq.refl _)];left;refine Bo (SqL.of ho) (Cp (j:=0) rfl) ?_;left;refine A1 qx rfl ?_;left;rw[Bq,decide_eq_false bp];left;rw[Bq,decide_eq_false (by right)];left;refine⟨Br,λp2 h2=>?_⟩;refine Fg (.inr (SqT.of Ac)) rfl rfl ?_;have s3:Same H1 (upd H1 p2 (.tup [.str "plus",.str "minus",.str "less"])):=Same.upd h2;rw[if_neg Pt,show Fk (.str "if") [.str "plus",.str "minus",.str "less"]=decide (("if":Str)∈(["plus","minus","less"]:List Str)) from Io (ws:=["plus","minus","less"]),decide_eq_false (by right)];revert s3;generalize upd H1 p2 (.tup [.str "plus",.str "minus",.str "less"])=H3;intro I;have M3:=M1.new I;obtain⟨tv,et,ah⟩:=M3.things;have a9:tv.length=th.length:=ah.1;have aq:th.length+1=S.things.length:=by rw[hS,Pn];rfl
   have af:=I _ _ ho;refine⟨false,rfl,?_⟩;refine iteF ?_;left;refine⟨_,rfl,L.m,C,L.dx,_,_,rfl,M3.ins,O.cl,O.nt,Hh (L.with t) S.steps,?_⟩;refine B6 (SqL.of et) ?_;left;refine⟨_,rfl,L.m,C,L.dx,_,_,rfl,M3.ins,(D4 (L.with t) S.steps).2.1,MR,?_⟩;left;refine⟨"if",p,o,e,pl,_,ev,[x],ar,HB,kvs,L.with t,_,rfl,M3,I _ _ al,SqL.of af,U.mono (ThAt.same I.t),SqL.of (I _ _ am),ag.mono (PrAt.same I.t),by show S.rows.length<10000;lia,λv4 H4 e4 M4 t4=>?_⟩;rw[if_pos (by right)]at M4;obtain⟨ai,aj,ae⟩:=M4.things;have ao:ai.length=th.length:=ae.1;left;refine Cw aj (by lia) ?_;have M5:=M4.setThings (ae.snoc t4);left;refine q _ t (e1.trans' (L':=L.with t) ((I.m _).trans (e4.trans (SameM.upd (.inr (.inr (.inr rfl)))))) rfl rfl rfl (.inr Y)) M5 Y
  | @calls th k y r bb a8 d' bh hS au hf a6 hs bk be =>
   subst bh;obtain⟨bt,ac,ad⟩:=(hpk "call").2 [1,0] (by right);left;refine⟨ap,pk,"call",.ref bt,rfl,rfl,hpa,ac,?_⟩;left;refine Ej (ad _) ?_;left;refine⟨2,th,[("row",.int (k:Nat)),y],HB,kvs,L,S,rfl,M,by decide,hS,rfl,λo t ov H1 e1 M1 Y ho U aa ak=>?_⟩;have t1:=M.t e1;have aw:C5 S.rows ("row",.int (k:Nat))=true:=by
    show(decide (("row":Str)="row") && (match S.rows[((k:Nat):Int).toNat]? with|some r=>decide (r.wd∈(["fn","rec"]:List Str))|none=>false))=true;rw[Qx,au];simp only[decide_eq_true hf,decide_true,Bool.and_self]
   have bj:Mn S.rows ("row",.int (k:Nat)):=λ_=>⟨k,rfl,(Ps.mp au).1⟩;obtain⟨u1,us,rfl⟩:eX2 λu1 us=>ov=u1::us:=by
    have hl:=U.1
    match ov,hl with
    |u1::us,_=>exact⟨u1,us,rfl⟩
   have bo:=U.2 0 u1 _ rfl rfl;left;rw[Bq,decide_eq_false (by right)];left;rw[Bq,decide_eq_false (by right)];left;rw[Bq,decide_eq_true (Eq.refl _)];left;refine⟨_,rfl,L.m,C,L.dx,_,_,rfl,M1.ins,(K7 (L.with t) S.steps).2.1,MI,?_⟩;left;refine Bo (SqL.of ho) (Cp (j:=0) rfl) ?_;left;refine⟨_,("row",.int (k:Nat)),HB,kvs,L.with t,_,rfl,M1,bo,bj,λH2 s2=>?_⟩;rw[show C5 ({ S with things:=th }:MS).rows ("row",.int (k:Nat))=true from aw];refine⟨true,rfl,?_⟩;refine iteT ?_;left;have M2:=M1.new s2;obtain⟨ba,v',bi,bq,br⟩:=(FA.same t1).same s2.t bb a8 d' hs;refine⟨_,rfl,L.m,C,L.dx,_,_,rfl,M2.ins,(K7 (L.with t) S.steps).2.2,MC,?_⟩;left;refine⟨o,_,k,[y],r,bb,HB,kvs,L.with t,_,v',a8,d',bi,rfl,M2,s2 _ _ ho,U.mono (ThAt.same s2.t),au,a6,bq,br,bk,ba,be,z2,by show 1<=1000;decide,λH3 e3 M3=>?_⟩;left;exact q _ t (e1.trans' (L':=L.with t) ((s2.m _).trans e3) rfl rfl rfl (.inr Y)) M3 Y
  | @two th x y av hS ok ox oy =>
  have bu:Bl wd=some [1,0]/\¬wd="let"/\¬wd="if"/\¬wd∈WA:=by
   rcases av with h|⟨rfl,_⟩
   ·unfold Ho at h;simp only[Pr,Pz,or_false]at h;rcases h with rfl|rfl|rfl <;> exact⟨by right,by right,by right,by right⟩
   ·exact⟨by right,by right,by right,by right⟩
  obtain⟨pw,w1,w2,w4⟩:=bu;obtain⟨bt,ac,ad⟩:=(hpk wd).2 _ pw;left;refine⟨ap,pk,wd,.ref bt,rfl,rfl,hpa,ac,?_⟩;left;refine Ej (ad _) ?_;left;refine⟨2,th,[x,y],HB,kvs,L,S,rfl,M,by decide,hS,rfl,λo t ov H1 e1 M1 Y ho U aa ak=>?_⟩;have t1:=M.t e1;have al:=(t1 p).1 _ hp;have am:=(M.a e1).2 _ _ nA he;have ag:Al (PrAt K H1) ev ar:=an.mono (PrAt.same t1);have b0:¬(L.with t).A o:=by
   obtain⟨rv,er,_⟩:=M.rows;obtain⟨wv,ew,_⟩:=M.wait;rintro(z|z|z)
   ·rw[z]at aa;rw[show(L.with t).rd=L.rd from rfl,er]at aa;cases aa
   ·rw[z]at aa;rw[show(L.with t).wd=L.wd from rfl,ew]at aa;cases aa
   ·exact ak z
  have hx:eX2 λax ay=>ov=[.ref ax,.ref ay]/\SqT K H1 ax [.str x.1,x.2]/\SqT K H1 ay [.str y.1,y.2]:=by
   have hl:=U.1;obtain⟨u1,u2,rfl⟩:=lz2 (vs:=ov) hl;obtain⟨_,ax,e3,q3⟩:=U.2 0 u1 x rfl rfl;obtain⟨_,ay,e4,q4⟩:=U.2 1 u2 y rfl rfl;exact⟨ax,ay,by rw[e3,e4],q3,q4⟩
  obtain⟨ax,ay,rfl,qx,qy⟩:=hx;left;rw[Bq,decide_eq_false w1];left;rw[Bq,decide_eq_false w2];left;rw[Bq];by_cases w3:wd="call"
  ·have aw:C5 S.rows x=false:=by
    rcases av with h|h
    ·rw[w3]at h;exact absurd h (by right)
    ·exact h.2
   rw[decide_eq_true w3];left;refine⟨_,rfl,L.m,C,L.dx,_,_,rfl,M1.ins,(K7 (L.with t) S.steps).2.1,MI,?_⟩;left;refine Bo (SqL.of ho) rfl ?_;left;refine⟨_,x,HB,kvs,L.with t,_,rfl,M1,⟨(U.2 0 _ x rfl rfl).1,ax,rfl,qx⟩,ok,λH2 s2=>?_⟩;rw[show C5 ({ S with things:=th }:MS).rows x=false from aw];refine⟨false,rfl,?_⟩;refine iteF ?_;left;refine⟨Br,λp2 h2=>?_⟩;refine Fg (.inr (SqT.of Ac)) rfl rfl ?_;have s3:Same H2 (upd H2 p2 (.tup [.str "plus",.str "minus",.str "less"])):=Same.upd h2;rw[if_neg Pt,show Fk (.str wd) [.str "plus",.str "minus",.str "less"]=decide (wd∈(["plus","minus","less"]:List Str)) from Io (ws:=["plus","minus","less"]),decide_eq_false (by rw[w3];right)];revert s3;generalize upd H2 p2 (.tup [.str "plus",.str "minus",.str "less"])=H3;intro s3;have I:=s2.trans s3;have M3:=M1.new I;obtain⟨tv,et,ah⟩:=M3.things;have a9:tv.length=th.length:=ah.1;have aq:th.length+2=S.things.length:=by rw[hS,Pn];rfl
   have af:=I _ _ ho;have ef:Hk S wd pl th x y={ S with rows:=S.rows++[⟨wd,Ap pl,[x,y],[]⟩],things:=th++[(("row":Str),V.int (S.rows.length:Nat))] }:=by
    unfold Hk;rw[if_neg λh=>absurd h.1 (by rw[w3];right)]
   rw[ef]at q;refine⟨false,rfl,?_⟩;refine iteF ?_;left;refine⟨_,rfl,L.m,C,L.dx,_,_,rfl,M3.ins,O.cl,O.nt,Hh (L.with t) S.steps,?_⟩;refine B6 (SqL.of et) ?_;left;refine⟨_,rfl,L.m,C,L.dx,_,_,rfl,M3.ins,(D4 (L.with t) S.steps).2.1,MR,?_⟩;left;refine⟨wd,p,o,e,pl,_,ev,[x,y],ar,HB,kvs,L.with t,_,rfl,M3,I _ _ al,SqL.of af,U.mono (ThAt.same I.t),SqL.of (I _ _ am),ag.mono (PrAt.same I.t),by show S.rows.length<10000;lia,λv4 H4 e4 M4 t4=>?_⟩;rw[if_neg w4]at M4;obtain⟨ai,aj,ae⟩:=M4.things;have ao:ai.length=th.length:=ae.1;left;refine Cw aj (by lia) ?_;have M5:=M4.setThings (ae.snoc t4);left;refine q _ t (e1.trans' (L':=L.with t) ((I.m _).trans (e4.trans (SameM.upd (.inr (.inr (.inr rfl)))))) rfl rfl rfl (.inr Y)) M5 Y
  have as:wd∈(["plus","minus","less"]:List Str):=by
   rcases av with h|h
   ·exact h
   ·exact absurd h.1 w3
  rw[decide_eq_false w3];left;refine⟨Br,λp2 h2=>?_⟩;refine Fg (.inr (SqT.of Ac)) rfl rfl ?_;have s2:Same H1 (upd H1 p2 (.tup [.str "plus",.str "minus",.str "less"])):=Same.upd h2;rw[if_neg Pt,show Fk (.str wd) [.str "plus",.str "minus",.str "less"]=decide (wd∈(["plus","minus","less"]:List Str)) from Io (ws:=["plus","minus","less"]),decide_eq_true as];revert s2;generalize upd H1 p2 (.tup [.str "plus",.str "minus",.str "less"])=H2;intro s2;left;refine⟨o,_,[x,y],rfl,s2 _ _ ho,U.mono (ThAt.same s2.t),by show 2<=1000;decide,λH3 s3=>?_⟩;have I:=s2.trans s3;have M3:=M1.new I;obtain⟨tv,et,ah⟩:=M3.things;have a9:tv.length=th.length:=ah.1;have aq:th.length+2=S.things.length:=by rw[hS,Pn];rfl
  have af:=I _ _ ho;by_cases Z:x.1="num"/\y.1="num"
  ·have en:Lb [x,y]=true:=by
    unfold Lb;rw[Rn,Rn,List.all_nil,decide_eq_true Z.1,decide_eq_true Z.2];rfl
   rw[en];obtain⟨i,ei⟩:=ox Z.1;obtain⟨j,ej⟩:=oy Z.2;rw[ei]at qx;rw[ej]at qy;have ef:Hk S wd pl th x y={ S with things:=th++[E4 wd i j] }:=by
    unfold Hk;rw[if_pos ⟨as,Z⟩,ei,ej];rfl
   rw[ef]at q;refine⟨true,rfl,?_⟩;refine iteT ?_;left;refine⟨_,rfl,L.m,C,L.dx,_,_,rfl,M3.ins,O.cl,O.nt,Hh (L.with t) S.steps,?_⟩;refine B6 (SqL.of et) ?_;left;refine Bo (SqL.of af) rfl ?_;left;refine A1 (I.tup qx) rfl ?_;left;refine Bo (SqL.of af) rfl ?_;left;refine A1 (I.tup qy) rfl ?_;left;refine⟨wd,i,j,rfl,λv4 H4 s4 t4=>?_⟩;have M4:=M3.new s4;left;refine Cw (s4 _ _ et) (by lia) ?_;have M5:=M4.setThings ((ah.mono (ThAt.same s4.t)).snoc t4);left;refine q _ t (e1.trans' (L':=L.with t) (((I.trans s4).m _).trans (SameM.upd (.inr (.inr (.inr rfl))))) rfl rfl rfl (.inr Y)) M5 Y
  ·have en:Lb [x,y]=false:=by
    unfold Lb;rw[Rn,Rn,List.all_nil,Bool.and_true,<- Bool.not_eq_true,Rw,decide_eq_true_iff,decide_eq_true_iff];exact Z
   rw[en];have ef:Hk S wd pl th x y={ S with rows:=S.rows++[⟨wd,Ap pl,[x,y],[]⟩],things:=th++[(("row":Str),V.int (S.rows.length:Nat))] }:=by
    unfold Hk;rw[if_neg λh=>Z h.2]
   rw[ef]at q;refine⟨false,rfl,?_⟩;refine iteF ?_;left;refine⟨_,rfl,L.m,C,L.dx,_,_,rfl,M3.ins,O.cl,O.nt,Hh (L.with t) S.steps,?_⟩;refine B6 (SqL.of et) ?_;left;refine⟨_,rfl,L.m,C,L.dx,_,_,rfl,M3.ins,(D4 (L.with t) S.steps).2.1,MR,?_⟩;left;refine⟨wd,p,o,e,pl,_,ev,[x,y],ar,HB,kvs,L.with t,_,rfl,M3,I _ _ al,SqL.of af,U.mono (ThAt.same I.t),SqL.of (I _ _ am),ag.mono (PrAt.same I.t),by show S.rows.length<10000;lia,λv4 H4 e4 M4 t4=>?_⟩;rw[if_neg w4]at M4;obtain⟨ai,aj,ae⟩:=M4.things;have ao:ai.length=th.length:=ae.1;left;refine Cw aj (by lia) ?_;have M5:=M4.setThings (ae.snoc t4);left;refine q _ t (e1.trans' (L':=L.with t) ((I.m _).trans (e4.trans (SameM.upd (.inr (.inr (.inr rfl)))))) rfl rfl rfl (.inr Y)) M5 Y
def Zdu (K:Ph)(C:Addr):Sp:=λvs H Q _=>eX5 λ(n:Int)(HB:Hp)(kvs:List (List Aw×V))(L:Ml)(S:MS)=>vs=[.ref L.m,.int n]/\MAt K HB C kvs L H S/\S.steps+n<=500/\∀H',SameM L H H'->MAt K HB C kvs L H' { S with steps:=S.steps+n }->Q .non H'
theorem Zez:Bb pK pK (A5 Kn):=by walk_at "sc"
theorem Zpt (F:Fun K "make_steps" "Machine.make_steps" Kn f fd)(T:Txt K mg)(O:Mc K C)(G_MOST_STEPS:F3 mg "MOST_STEPS" (.int 500)):FnOk P w K mg base Aq 1 f fd pK (Zdu K C):=by
 refine F.okq Zez (λvs H Q E h=>?_) (λY A outer s H vs Q E Z h=>?_)
 ·obtain⟨n,HB,kvs,L,S,rfl,_⟩:=h;rfl
 ·obtain⟨n,HB,kvs,L,S,rfl,M,hn,q⟩:=h;refine⟨_,Ad (Zh5 K Ab Ag Zg5)
   (A3 (Ax (Bp Hd (Ck K Ab) (G8 G_MOST_STEPS)) (A3 Zcw) A0)),?_⟩
  left;refine⟨_,rfl,L.m,C,L.dx,_,_,rfl,M.ins,O.cl,O.ns,Mq L S.steps,_,rfl,?_⟩;refine⟨_,_,rfl,rfl,L.dx,_,M.ins,by show 5<1000;decide,?_⟩;rw[Zgv];have I:=M.setSteps (S.steps+n);have U:SameM L H (upd H L.m (.ins C L.dx (L.fs (S.steps+n)))):=SameM.upd (.inl rfl);revert I U;generalize upd H L.m (.ins C L.dx (L.fs (S.steps+n)))=H1;intro I U;left;refine⟨_,rfl,L.m,C,L.dx,_,_,rfl,I.ins,O.cl,O.ns,Mq L (S.steps+n),?_⟩;left;rw[decide_eq_false (by lia)];left;exact q _ U I
theorem Zqn (F:FnOk P w K mg base Aq k f fd ps sp):FnOk P w K mg base CX k f fd ps sp:=⟨F.len,λA outer s H I Y vs Q E hr O hb Z U=>Tq (F.run A outer s H I Y vs Q E hr O hb Z U) λr s' h=>by
 cases r with
 |ok f=>cases f <;> exact h
 |error e=>exact Qo h⟩
theorem Zqb (F1:FnOk P w K mg base CX k f fd ps sp1)(F2:FnOk P w K mg base CX k f fd ps sp2):FnOk P w K mg base CX k f fd ps (λvs H Q E=>sp1 vs H Q E\/sp2 vs H Q E) :=
 ⟨λvs H Q E h=>h.elim (F1.len vs H Q E) (F2.len vs H Q E),λA outer s H I U vs Q E Z O hb Y hs=>hs.elim (F1.run A outer s H I U vs Q E Z O hb Y) (F2.run A outer s H I U vs Q E Z O hb Y)⟩
def Zia (K:Ph)(C TL:Addr):Sp:=λvs H _ E=>eX5 λ(n:Int)(HB:Hp)(kvs:List (List Aw×V))(L:Ml)(S:MS)=>vs=[.ref L.m,.int n]/\MAt K HB C kvs L H S/\500<S.steps+n/\∀H',SameM L H H'->E (.ref TL) none H'
theorem Zp0 (F:Fun K "make_steps" "Machine.make_steps" Kn f fd)(T:Txt K mg)(O:Mc K C)(G_MOST_STEPS:F3 mg "MOST_STEPS" (.int 500))(R_TooLong:Ou K N_TooLong)(G_TooLong:mg "TooLong"=some (.ref N_TooLong)):FnOk P w K mg base (B3 P w) 1 f fd pK (Zia K C N_TooLong):=by
 refine F.okx Zez (λvs H Q E h=>?_) (λaa A outer s H vs Q E hr h=>?_)
 ·obtain⟨n,HB,kvs,L,S,rfl,_⟩:=h;rfl
 ·obtain⟨n,HB,kvs,L,S,rfl,M,hn,q⟩:=h;refine⟨_,Ad (Zh5 K Ab Ag Zg5)
   (A3 (Ax (Bp Hd (Ck K Ab) (G8 G_MOST_STEPS)) (A3 (Ztk rfl R_TooLong G_TooLong (Av Aj) (λ_ _ _ _ _ _ _ I x h0 hn Z=>Zsd I x h0 hn Z) rfl)) A0)),?_⟩
  left;refine⟨_,rfl,L.m,C,L.dx,_,_,rfl,M.ins,O.cl,O.ns,Mq L S.steps,_,rfl,?_⟩;refine⟨_,_,rfl,rfl,L.dx,_,M.ins,by show 5<1000;decide,?_⟩;rw[Zgv];have U:=M.setSteps (S.steps+n);have Y:SameM L H (upd H L.m (.ins C L.dx (L.fs (S.steps+n)))):=SameM.upd (.inl rfl);revert U Y;generalize upd H L.m (.ins C L.dx (L.fs (S.steps+n)))=H1;intro U Y;left;refine⟨_,rfl,L.m,C,L.dx,_,_,rfl,U.ins,O.cl,O.ns,Mq L (S.steps+n),?_⟩;left;rw[decide_eq_true (by lia)];left;exact⟨Dl,q _ Y⟩
noncomputable def Db (S:MS)(wd:Str)(nv:V)(pl:List Nat)(ar:List (Str×Str×V)):(Str×V)×MS :=
 if wd∈(["num","truth"]:List Str) then ((wd,nv),S)
 else match (match nv with|.str z=>if wd="name" then Dk ar z else none|_=>none) with
  |some th=>(th,S)
  |none=>(("row",.int (S.rows.length:Nat)),{ S with rows:=S.rows++[⟨wd,Ap pl,[],if wd∈WA then ar else []⟩] })
def Zea (K:Ph)(C:Addr):Sp:=λvs H Q _=>eX11 λ(wd:Str)(nv:V)(p e:Addr)(pl:List Nat)(ev:List V)(ar:List (Str×Str×V))(HB:Hp)(kvs:List (List Aw×V))(L:Ml)(S:MS)=>vs=[.ref L.m,.str wd,nv,.ref p,.ref e]/\MAt K HB C kvs L H S/\H p=some (.tup (A2 pl))/\SqL K H e ev/\Al (PrAt K H) ev ar/\S.rows.length<10000/\(wd∈(["num","truth"]:List Str)->C8 nv=true)/\(wd="name" -> ∃z,nv=.str z) /\
 ∀v H',SameM L H H'->MAt K HB C kvs L H' (Db S wd nv pl ar).2->ThAt K H' v (Db S wd nv pl ar).1->Q v H'
theorem Zju:Bb ["self","word","note","place","around","bound"] pH (A5 Nr):=by walk_at "sc"
theorem Zl7 (F:Fun K "thing_of_leaf" "Machine.thing_of_leaf" Nr f fd)(T:Txt K mg)(O:Mc K C)(MR:Dj Aq P w K mg base 1 C "new_row" ["self","word","place","operands","around"] (Lf K C)):FnOk P w K mg base Aq 2 f fd pH (Zea K C):=by
 refine F.okq Zju (λvs H Q E h=>?_) (λae A outer s H vs Q E hr h=>?_)
 ·obtain⟨wd,nv,p,e,pl,ev,ar,HB,kvs,L,S,rfl,_⟩:=h;rfl
 ·obtain⟨wd,nv,p,e,pl,ev,ar,HB,kvs,L,S,rfl,M,hp,he,aa,hz,hf,ac,q⟩:=h;refine⟨_,Ad (Ax (Bp (Hj K) Ag (Ak (Ah Aj Aj))) (An (Ak (Ah Ag Az))) A0)
   (Ad (Ao 5 Zju (D5 (Zfv K hr.u200 rfl) T.dict (Av A6))) (Ad (Ax (QW.qt (Eg (Bj K hr Ag Aj) (Ec (O6 (Zlt hr.u1 Az (qv 5)))))) (An (Nn hr.u1 (qv 5) Az (λ_ _=>rfl))) A0) (An (Dy (k:=1) K Aq pB Ab hr.m D8 (Dh Ag A9 (Bk Bh) A6))))),?_⟩
  have bg:=big;unfold Db at q;left;refine⟨Bt,λp1 h1=>?_⟩;refine Fg (.inr (SqT.of Ac)) rfl rfl ?_;have U:Same H (upd H p1 (.tup [.str "num",.str "truth"])):=Same.upd h1;rw[if_neg Pt,show Fk (.str wd) [.str "num",.str "truth"]=decide (wd∈(["num","truth"]:List Str)) from Io (ws:=["num","truth"])];revert U;generalize upd H p1 (.tup [.str "num",.str "truth"])=H1;intro U;left;refine Be (λh=>?_) (λh=>?_)
  ·have h:wd∈(["num","truth"]:List Str):=of_decide_eq_true h;rw[if_pos h]at q;left;refine⟨Bt,λp2 h2=>?_⟩;have Z:=U.put (o:=.tup [.str wd,nv]) h2;exact q _ _ (Z.m L) (M.new Z) ⟨hf h,p2,rfl,SqT.of Ac⟩
  have h:¬wd∈(["num","truth"]:List Str):=λx=>h (decide_eq_true x);rw[if_neg h]at q;left;obtain⟨bk,ad,look⟩:=Zvc (K:=K) (H:=H1) ev ar (aa.mono (PrAt.same U.t));refine⟨e,ev,rfl,U.seq he,.inl ⟨bk,ad,λd hd=>?_⟩⟩;obtain⟨H2,Z,e2,z9⟩:=Dq hd (.dK (Cg [] bk));rw[z9];have I:=U.trans Z;have M2:=M.new I;have row:(match nv with|.str z=>if wd="name" then Dk ar z else none|_=>none)=none->∀l,H2 l=none->Lf K C [.ref L.m,.str wd,.ref p,.ref l,.ref e] (upd H2 l (.lst [])) Q E0:=by
   intro hn l hl;rw[hn]at q;have Y:=I.put (o:=.lst []) hl;refine⟨wd,p,l,e,pl,[],ev,[],ar,HB,kvs,L,S,rfl,M.new Y,Y _ _ hp,SqL.of Ac,.nil,Y.seq he,aa.mono (PrAt.same Y.t),hz,λv H' e' M' t'=>q v H' ((Y.m L).trans e') M' t'⟩
  left;by_cases hw:wd="name"
  ·subst hw;obtain⟨z,rfl⟩:=ac rfl;rw[decide_eq_true (Eq.refl _)];refine iteT ?_;refine⟨_,rfl,_,rfl,d,_,rfl,DGet.k (k:=Sum.inr z) e2,?_⟩;rw[Zbs];rcases look z with⟨l1,l2⟩|⟨u,th,l1,l2,t⟩
   ·rw[l1];refine⟨false,rfl,?_⟩;refine iteF ?_;left;refine⟨_,rfl,L.m,C,L.dx,_,_,rfl,M2.ins,(D4 L S.steps).2.1,MR,?_⟩;left;refine⟨Bg,λl hl=>?_⟩;left;exact row (by simp[l2]) l hl
   ·rw[l1];refine⟨true,rfl,?_⟩;refine iteT ?_;left;refine⟨_,rfl,_,rfl,d,u,rfl,?_,?_⟩
    ·rw[<- l1,<- Zbs];exact DGet.k (k:=Sum.inr z) e2
    ·have e:(match V.str z with|.str z=>if ("name":Str)="name" then Dk ar z else none|_=>none)=some th:=by simp[l2]
     rw[e]at q;exact q _ _ (I.m L) M2 (ThAt.same Z.t _ _ t)
  ·rw[decide_eq_false (λh=>hw (V.str.inj h))];left;refine⟨_,rfl,L.m,C,L.dx,_,_,rfl,M2.ins,(D4 L S.steps).2.1,MR,?_⟩;left;refine⟨Bg,λl hl=>?_⟩;left;refine row ?_ l hl;cases nv <;> simp[hw]
noncomputable def Es:Dt->V
 |.flat v=>v
 |_=>.non
noncomputable def Gv (S:MS)(wd:Str)(d:Dt)(pl:List Nat)(ar:List (Str×Str×V)):MS :=
 let S1:=if wd="gap" then S else { S with steps:=S.steps+1 }
 match Bl wd with
 |some ns=>{ S1 with wait:=(S1.wait++[⟨pl,ar,true⟩])++ns.map λn=>⟨pl++[n.toNat],ar,false⟩ }
 |none=>{ (Db S1 wd (Es d) pl ar).2 with things:=(Db S1 wd (Es d) pl ar).2.things++[(Db S1 wd (Es d) pl ar).1] }
def O1 (wd:Str)(d:Dt):Prop:=(wd∈(["num","truth"]:List Str)->∃v,d=.flat v)/\(wd="name" -> ∃z,d=.flat (.str z))
def Ze3 (K:Ph)(C:Addr):Sp:=λvs H Q _=>eX13 λ(p e:Addr)(pl:List Nat)(ev:List V)(ar:List (Str×Str×V))(HB:Hp)(kvs:List (List Aw×V))(L:Ml)(S:MS)(v:V)(wd:Str)(d:Dt)(ts:List Tr)=>vs=[.ref L.m,.ref p,.ref e]/\MAt K HB C kvs L H S/\H p=some (.tup (A2 pl))/\H e=some (.lst ev)/\Al (PrAt K H) ev ar/\¬L.A e/\Cj kvs (Ed pl)=some v/\TrAt K H v (.mk wd d ts)/\O1 wd d/\pl.length<=2000/\S.rows.length<9000/\S.wait.length<9000/\S.things.length<9000/\(wd≠"gap" -> S.steps+1<=500) /\
 ∀H',SameM L H H'->MAt K HB C kvs L H' (Gv S wd d pl ar)->Q .non H'
theorem Zhv:(["number","around","place"]:List Str).Nodup:=by right
theorem Oq:Bb ["self","place","around","word","note"] pA (A5 Kw):=by walk_at "sc"
theorem Zk7 (h:Bl wd=some ns):ns.length<=2/\∀n∈ns,0<=n:=by
 unfold Bl at h;split at h
 ·cases h;exact⟨by decide,by decide⟩
 split at h
 ·cases h;exact⟨by decide,by decide⟩
 ·cases h
theorem Ztd (h:IsN K H nv d)(hn:O1 wd d):Db S wd nv pl ar=Db S wd (Es d) pl ar:=by
 rcases h with⟨_,rfl⟩|⟨a,vs,rfl,_,_,rfl⟩
 ·rfl
 ·have h1:¬wd∈(["num","truth"]:List Str):=λx=>by obtain⟨v,e⟩:=hn.1 x;cases e
  unfold Db;rw[if_neg h1,if_neg h1];rfl
theorem Zpm (S:MS)(wd:Str)(nv:V)(pl:List Nat)(ar:List (Str×Str×V)):(Db S wd nv pl ar).2.things=S.things:=by
 unfold Db;split
 ·rfl
 split <;> rfl
theorem Zn1 (F:Fun K "come_to" "Machine.come_to" Kw f fd)(T:Txt K mg)(O:Mc K C)(G_PARTS_AWAITED:F3 mg "PARTS_AWAITED" (.ref ap))(hpa:Ip P w K ap pk)(hpk:∀wd,(D6 pk wd).isSome=(Bl wd).isSome/\∀ns,Bl wd=some ns->∃b,D6 pk wd=some (.ref b)/\∀H,SqT K H b (ns.map V.int))(MS_:Dj Aq P w K mg base 1 C "make_steps" ["self","many"] (Zdu K C))(MLf:Dj Aq P w K mg base 2 C "thing_of_leaf" ["self","word","note","place","around"] (Zea K C)):FnOk P w K mg base Aq 3 f fd pA (Ze3 K C):=by
 refine F.okq Oq (λvs H Q E h=>?_) (λbu A outer s H vs Q E hr h=>?_)
 ·obtain⟨p,e,pl,ev,ar,HB,kvs,L,S,v,wd,d,ts,rfl,_⟩:=h;rfl
 ·obtain⟨p,e,pl,ev,ar,HB,kvs,L,S,v,wd,d,ts,rfl,M,hp,he,bb,nA,hv,ht,ah,bp,z1,z2,z3,z4,q⟩:=h;refine⟨_,Ad (Ek (Eh (E3 K) (Nn hr.u1 (Ck K Ab) Ag (λ_ _=>rfl)) Fz (Ci Aa)) (Gj K Oq 3 4))
   (Ad (Ax (Bp (Fq K hr.u200) A9 Aj) (A3 (Bx (Dy (k:=1) K Aq pK Ab hr.m D8 (Av Aa)))) A0) (A3 (Ax (Bp (Zco P w K) A9 (G8 G_PARTS_AWAITED)) (Ad (Bx (Co K Pu Qd Qe C0 (Ck K Ab) (Av (Ak (Bc Ag Az Cy))))) (A3 (Bx (Co K Pu Wd We Zcx (Ck K Ab) (Av (Zdd (N:=["number","around","place"]) (σ0:=Fv 1 [2,1]) rfl (J2 rfl (by right) (by right) (by right)) (El K (Za0 (Zce P w K) (G8 G_PARTS_AWAITED) A9 (λ_ _=>rfl))) (Jt rfl (by rfl)) (λ_ _ _ _=>Gr (i:=0) Zhv rfl (Or.inl rfl)) (λ_ _ _ _=>Kv) (λ_ _ _ _=>Ak (Bc (Ae (Jo K) Az (Ak (Av Ab))) Ag Cy)))))))) (A3 (Bx (Co K Pu Qd Qe C0 (Ck K Ab) (Av (Dy (k:=2) K Aq pH Ab hr.m D8 (Dh A9 A6 Ag Az))))))))),?_⟩
  have bg:=big;cases ht with
  | @mk b pp _ nv _ vs _ qb hn bo hl b3 =>
  left;refine⟨_,rfl,L.m,C,L.dx,_,_,rfl,M.ins,O.cl,O.nf,Za7 L S.steps,_,rfl,L.fd,.ref b,rfl,?_,?_⟩
  ·rw[<- hv];refine DGet.t M.frm ?_;rw[Lh];exact hp
  left;refine .inr (.inr ⟨b,_,rfl,qb,by show ¬(HT.sIx 3 0 none=0/\HT.sIx 3 3 (some 2)=3);decide,λp1 h1=>?_⟩);rw[show Bf [V.str wd,nv,.ref pp] none (some 2)=[V.str wd,nv] from rfl];have s1:Same H (upd H p1 (.tup [.str wd,nv])):=Same.upd h1;have e1:upd H p1 (.tup [.str wd,nv]) p1=some (.tup [.str wd,nv]):=Ac;have an:=s1 _ _ hp;have aj:=s1 _ _ he;have M1:=M.new s1;have al:IsN K (upd H p1 (.tup [.str wd,nv])) nv d:=hn.same s1.t;revert s1 e1 an aj M1 al;generalize upd H p1 (.tup [.str wd,nv])=H1;intro s1 e1 an aj M1 al;refine Du (SqT.of e1) rfl ?_;refine s_gcons ?_;refine s_gname ?_;refine s_gcons ?_;refine s_gname ?_;refine s_gnil ?_;with_reducible refine s_seq ?_
  obtain⟨S1,ae⟩:∃S1,S1=(if wd="gap" then S else { S with steps:=S.steps+1 }):=⟨_,rfl⟩;refine via (t:=Cf _ _ _) (R:=λH2=>SameM L H1 H2/\MAt K HB C kvs L H2 S1) ?_ (λY hY=>?_)
  ·rintro H2 ⟨m2,M2⟩;have a2:=M1.a m2;have t2:=M1.t m2;have am:=(t2 p).1 _ an;have ai:=a2.2 _ _ nA aj;have Z:Al (PrAt K H2) ev ar:=bb.mono (PrAt.same (s1.t.trans t2));have au:SameM L H H2:=(s1.m L).trans m2;have ao:IsN K H2 nv d:=al.same t2;obtain⟨y1,y2,y3⟩:S1.rows=S.rows/\S1.wait=S.wait/\S1.things=S.things:=by
    rw[ae];split <;> exact⟨rfl,rfl,rfl⟩
   have q:∀H',SameM L H H'->MAt K HB C kvs L H' (match Bl wd with
    |some ns=>{ S1 with wait:=(S1.wait++[⟨pl,ar,true⟩])++ns.map λn=>⟨pl++[n.toNat],ar,false⟩ }
    |none=>{ (Db S1 wd (Es d) pl ar).2 with things:=(Db S1 wd (Es d) pl ar).2.things++[(Db S1 wd (Es d) pl ar).1] })->Q .non H':=by
    intro H' e' M';refine q H' e' ?_;unfold Gv;rw[<- ae];exact M'
   left;refine⟨wd,ap,pk,rfl,rfl,hpa,?_⟩;rw[(hpk wd).1];cases af:Bl wd with
   |none =>
    rw[af]at q;left;refine iteF ?_;left;obtain⟨tv,et,br⟩:=M2.things;refine⟨_,rfl,L.m,C,L.dx,_,_,rfl,M2.ins,O.cl,O.nt,Hh L S1.steps,?_⟩;refine B6 (SqL.of et) ?_;left;refine⟨_,rfl,L.m,C,L.dx,_,_,rfl,M2.ins,(D4 L S1.steps).2.2.1,MLf,?_⟩;left;refine⟨wd,nv,p,e,pl,ev,ar,HB,kvs,L,S1,rfl,M2,am,SqL.of ai,Z,by rw[y1];lia,(λx=>by
     obtain⟨v,rfl⟩:=ah.1 x;rcases ao with⟨h,_⟩|⟨a,vs,_,_,_,h⟩
     ·exact h
     ·cases h),(λx=>by
     obtain⟨z,rfl⟩:=ah.2 x;rcases ao with⟨_,h⟩|⟨a,vs,_,_,_,h⟩
     ·injection h with h;exact⟨z,h.symm⟩
     ·cases h),λv H3 e3 M3 t3=>?_⟩
    rw[Ztd ao ah]at M3 t3;obtain⟨bh,bj,as⟩:=M3.things;have bw:bh.length=S.things.length:=by rw[as.1,Zpm,y3]
    left;refine Cw bj (by lia) ?_;have M4:=M3.setThings (as.snoc t3);left;exact q _ (au.trans (e3.trans (SameM.upd (.inr (.inr (.inr rfl)))))) M4
   |some ns =>
    rw[af]at q;obtain⟨nl,nn⟩:=Zk7 af;obtain⟨bt,bi,ax⟩:=(hpk wd).2 ns af;left;refine iteT ?_;left;obtain⟨wv,ew,aw⟩:=M2.wait;have bx:wv.length=S.wait.length:=by rw[aw.1,y2]
    refine⟨_,rfl,L.m,C,L.dx,_,_,rfl,M2.ins,O.cl,O.nw,Hw L S1.steps,?_⟩;refine B6 (SqL.of ew) ?_;left;refine⟨Br,λr be=>?_⟩;obtain⟨H3,s3,e3,z9⟩:=Dq be (.tup [.ref p,.ref e,.bl true]);rw[z9];left;refine Cw (s3 _ _ ew) (by lia) ?_;have M3:=M2.new s3;have M4:=M3.setWait (wv:=wv++[.ref r]) (ws:=S1.wait++[⟨pl,ar,true⟩]) ((aw.mono (WtAt.same s3.a)).snoc ⟨r,p,e,ev,rfl,SqT.of e3,s3 _ _ am,s3 _ _ ai,Z.mono (PrAt.same s3.t),nA⟩);have aa:SameM L H3 (upd H3 L.wd (.lst (wv++[.ref r]))):=SameM.upd (.inr (.inr (.inl rfl)));have U:upd H3 L.wd (.lst (wv++[.ref r])) L.wd=some (.lst (wv++[.ref r])):=Ac;revert M4 aa U;generalize upd H3 L.wd (.lst (wv++[.ref r]))=H4;intro M4 aa U;have t4:=M3.t aa;have bf:=(t4 p).1 _ (s3 _ _ am);have a0:=(M3.a aa).2 _ _ nA (s3 _ _ ai);have ay:Al (PrAt K H4) ev ar:=Z.mono (PrAt.same (s3.t.trans t4));have ba:SameM L H H4:=au.trans ((s3.m L).trans aa);left;refine⟨_,rfl,L.m,C,L.dx,_,_,rfl,M4.ins,O.cl,O.nw,Hw L S1.steps,?_⟩;refine B6 (SqL.of U) ?_;left;refine⟨ap,pk,wd,.ref bt,rfl,rfl,hpa,bi,.inr (.inl ⟨bt,rfl,⟨_,ax _⟩,λD hD=>?_⟩)⟩;obtain⟨b0,a8,_⟩:=M4.rows;obtain⟨bv,a6,_⟩:=M4.things;have nD:¬L.A D:=by
     rintro(z|z|z)
     ·rw[z,a8]at hD;cases hD
     ·rw[z,U]at hD;cases hD
     ·rw[z,a6]at hD;cases hD
    refine Zvi (K:=K) (a:=bt) (xs:=ns.map V.int) (Pv:=λi ys ag H'=>∃kv,ag=[kv,some (.ref e),some (.ref p)]/\Al (WtAt K (λb=>L.A b\/b=D) H') ys ((ns.take i).map λn=>⟨pl++[n.toNat],ar,false⟩)/\Same H4 H') ⟨none,rfl,.nil,Same.upd hD⟩ (λi ys ag H' _ _=>ax _) ?_ ?_
    ·rintro i x ys ag H5 hx ad ⟨kv,rfl,I,s5⟩;rw[Ql]at hx;obtain⟨n,ak,rfl⟩:=Q3.mp hx;have bq:i<ns.length:=(Ps.mp ak).1;have n0:=nn n (Qs ak);obtain⟨k,rfl⟩:∃k:Nat,n=(k:Int):=⟨n.toNat,by lia⟩;have bn:ys.length<=2:=by rw[I.1,Pp,Qp];lia
     left;refine⟨Dl,λp6 h6=>?_⟩;obtain⟨H6,s6,e6,z9⟩:=Dq h6 (.tup [.int (k:Nat)]);rw[z9];refine Zbz (s6 _ _ (s5 _ _ bf)) e6 (by unfold A2;rw[Pp,Py];lia) λp7 H7 s7 e7=>?_;left;refine⟨Br,λp8 h8=>?_⟩;obtain⟨H8,s8,e8,z9⟩:=Dq h8 (.tup [.ref p7,.ref e,.bl false]);rw[z9];have ac:=s6.trans (s7.trans s8);have aq:=s5.trans ac;refine⟨_,ac _ _ ad,by lia,_,Ac,?_⟩;have a5:=ac _ _ ad;have sA:SameA (λb=>L.A b\/b=D) H8 (upd H8 D (.lst (ys++[.ref p8]))):=SameA.set a5 (.inr rfl);have a4:e≠D:=λz=>by rw[<- z,a0]at hD;cases hD
     ·refine⟨_,rfl,?_,aq.over hD⟩;rw[Sa,ak,Vf,Qi,Wn];refine(I.mono λv x h=>WtAt.same sA v x (WtAt.same ac.a v x h)).snoc (WtAt.same sA _ _ ⟨p8,p7,e,ev,rfl,SqT.of e8,?_,aq _ _ a0,ay.mono (PrAt.same aq.t),λh=>h.elim nA a4⟩);have e9:=s8 _ _ e7;show H8 p7=some (.tup (A2 (pl++[((k:Nat):Int).toNat])));rw[show A2 (pl++[((k:Nat):Int).toNat])=A2 pl++[.int ((k:Nat):Int)] by unfold A2;rw[Qi];simp];exact e9
    ·rintro ys ag H5 ad ⟨kv,rfl,I,s5⟩;rw[Pp,Uh]at I;have I:=I.mono (WtAt.mono (B:=L.A) λb hb _=>.inl hb);left;have bn:ys.length<=2:=by rw[I.1,Pp];lia
     refine⟨L.wd,D,_,ys,rfl,rfl,s5 _ _ U,ad,by rw[Pn,Py];lia,?_⟩;have M5:=M4.new s5;obtain⟨a7,av,a9⟩:=M5.wait;have a3:a7=wv++[.ref r]:=by rw[s5 _ _ U]at av;cases av;rfl
     subst a3;have M6:=M5.setWait (a9.append I);left;exact q _ (ba.trans ((s5.m L).trans (SameM.upd (.inr (.inr (.inl rfl)))))) M6
  ·left;by_cases hg:wd="gap"
   ·rw[decide_eq_true (by rw[hg])];left;exact hY _ ⟨SameM.refl _ _,by rw[ae,if_pos hg];exact M1⟩
   ·rw[decide_eq_false (λh=>hg (V.str.inj h))];left;refine⟨_,rfl,L.m,C,L.dx,_,_,rfl,M1.ins,(D4 L S.steps).1,MS_,?_⟩;left;refine⟨1,HB,kvs,L,S,rfl,M1,z4 hg,λH2 e2 M2=>?_⟩;left;exact hY _ ⟨e2,by rw[ae,if_neg hg];exact M2⟩
def Zgl (K:Ph)(C TL:Addr):Sp:=λvs H _ E=>eX13 λ(p e:Addr)(pl:List Nat)(ev:List V)(ar:List (Str×Str×V))(HB:Hp)(kvs:List (List Aw×V))(L:Ml)(S:MS)(v:V)(wd:Str)(d:Dt)(ts:List Tr)=>vs=[.ref L.m,.ref p,.ref e]/\MAt K HB C kvs L H S/\H p=some (.tup (A2 pl))/\H e=some (.lst ev)/\Al (PrAt K H) ev ar/\¬L.A e/\Cj kvs (Ed pl)=some v/\TrAt K H v (.mk wd d ts)/\wd≠"gap"/\500<S.steps+1 /\
 ∀H',SameM L H H'->E (.ref TL) none H'
theorem Zmu (F:Fun K "come_to" "Machine.come_to" Kw f fd)(T:Txt K mg)(O:Mc K C)(G_PARTS_AWAITED:F3 mg "PARTS_AWAITED" (.ref ap))(hpa:Ip P w K ap pk)(hpk:∀wd,(D6 pk wd).isSome=(Bl wd).isSome/\∀ns,Bl wd=some ns->∃b,D6 pk wd=some (.ref b)/\∀H,SqT K H b (ns.map V.int))(MS_:Dj (B3 P w) P w K mg base 1 C "make_steps" ["self","many"] (Zia K C TL))(MLf:Dj Aq P w K mg base 2 C "thing_of_leaf" ["self","word","note","place","around"] (Zea K C)):FnOk P w K mg base (B3 P w) 3 f fd pA (Zgl K C TL):=by
 refine F.okx Oq (λvs H Q E h=>?_) (λac A outer s H vs Q E hr h=>?_)
 ·obtain⟨p,e,pl,ev,ar,HB,kvs,L,S,v,wd,d,ts,rfl,_⟩:=h;rfl
 ·obtain⟨p,e,pl,ev,ar,HB,kvs,L,S,v,wd,d,ts,rfl,M,hp,he,ae,nA,hv,ht,hg,h5,q⟩:=h;refine⟨_,Ad (Ek (Eh (E3 K) (Nn hr.u1 (Ck K Ab) Ag (λ_ _=>rfl)) Fz (Ci Aa)) (Gj K Oq 3 4))
   (Ad (Ax (Bp (Fq K hr.u200) A9 Aj) (A3 (Bx (Dy (k:=1) K (B3 P w) pK Ab hr.m (Jp (λ_ _ _ h=>h)) (Av Aa)))) A0) (A3 (Ax (Bp (Zco P w K) A9 (G8 G_PARTS_AWAITED)) (Ad (Bx (Co K Pu Qd Qe C0 (Ck K Ab) (Av (Ak (Bc Ag Az Cy))))) (A3 (Bx (Co K Pu Wd We Zcx (Ck K Ab) (Av (Zdd (N:=["number","around","place"]) (σ0:=Fv 1 [2,1]) rfl (J2 rfl (by right) (by right) (by right)) (El K (Za0 (Zce P w K) (G8 G_PARTS_AWAITED) A9 (λ_ _=>rfl))) (Jt rfl (by rfl)) (λ_ _ _ _=>Gr (i:=0) Zhv rfl (Or.inl rfl)) (λ_ _ _ _=>Kv) (λ_ _ _ _=>Ak (Bc (Ae (Jo K) Az (Ak (Av Ab))) Ag Cy)))))))) (A3 (Bx (Co K Pu Qd Qe C0 (Ck K Ab) (Av (Dy (k:=2) K Aq pH Ab hr.m D8 (Dh A9 A6 Ag Az))))))))),?_⟩
  have bg:=big;cases ht with
  | @mk b pp _ I _ vs _ qb hn ad hl af =>
  left;refine⟨_,rfl,L.m,C,L.dx,_,_,rfl,M.ins,O.cl,O.nf,Za7 L S.steps,_,rfl,L.fd,.ref b,rfl,?_,?_⟩
  ·rw[<- hv];refine DGet.t M.frm ?_;rw[Lh];exact hp
  left;refine .inr (.inr ⟨b,_,rfl,qb,by show ¬(HT.sIx 3 0 none=0/\HT.sIx 3 3 (some 2)=3);decide,λp1 h1=>?_⟩);rw[show Bf [V.str wd,I,.ref pp] none (some 2)=[V.str wd,I] from rfl];have U:Same H (upd H p1 (.tup [.str wd,I])):=Same.upd h1;have e1:upd H p1 (.tup [.str wd,I]) p1=some (.tup [.str wd,I]):=Ac;have Z:=U _ _ hp;have aa:=U _ _ he;have M1:=M.new U;have Y:IsN K (upd H p1 (.tup [.str wd,I])) I d:=hn.same U.t;revert U e1 Z aa M1 Y;generalize upd H p1 (.tup [.str wd,I])=H1;intro U e1 Z aa M1 Y;refine Du (SqT.of e1) rfl ?_;refine s_gcons ?_;refine s_gname ?_;refine s_gcons ?_;refine s_gname ?_;refine s_gnil ?_;with_reducible refine s_seq ?_
  left;rw[decide_eq_false (λh=>hg (V.str.inj h))];left;refine⟨_,rfl,L.m,C,L.dx,_,_,rfl,M1.ins,(D4 L S.steps).1,MS_,?_⟩;left;exact⟨1,HB,kvs,L,S,rfl,M1,h5,λH2 e2=>q _ ((U.m L).trans e2)⟩
inductive Gs (sub:List Nat->Option (Str×Dt)):MS->MS->Prop where
 |come {S:MS} {w:List Wt} {x:Wt} {wd:Str} {d:Dt} (hw:S.wait=w++[x]) (hc:x.came=false) (hs:sub x.pl=some (wd,d)) (hn:O1 wd d) (h5:wd≠"gap" -> S.steps+1<=500):Gs sub S (Gv { S with wait:=w } wd d x.pl x.ar)
 |further {S S2:MS} {w:List Wt} {x:Wt} {wd:Str} {d:Dt} (hw:S.wait=w++[x]) (hc:x.came=true) (hs:sub x.pl=some (wd,d)) (hf:Jn sub wd d x.pl x.ar { S with wait:=w } S2) (hr:x.ar.length<=9000):Gs sub S S2
structure Hy (S:MS):Prop where
 r:S.rows.length<9000
 w:S.wait.length<9000
 t:S.things.length<9000
inductive RunM (sub:List Nat->Option (Str×Dt)):Nat->MS->MS->Prop where
 |nil {S:MS} (h:S.wait=[]):RunM sub 0 S S
 |cons {n:Nat} {S S1 S2:MS} (hs:Hy S) (h1:Gs sub S S1) (h2:RunM sub n S1 S2):RunM sub (n+1) S S2
inductive RunL (sub:List Nat->Option (Str×Dt)):Nat->MS->Prop where
 |last {S:MS} {w:List Wt} {x:Wt} {wd:Str} {d:Dt} (hs:Hy S) (hw:S.wait=w++[x]) (hc:x.came=false) (hsub:sub x.pl=some (wd,d)) (hg:wd≠"gap") (h5:500<S.steps+1):RunL sub 0 S
 |cons {n:Nat} {S S1:MS} (hs:Hy S) (h1:Gs sub S S1) (h2:RunL sub n S1):RunL sub (n+1) S
inductive RunX (sub:List Nat->Option (Str×Dt)):Nat->MS->Option MS->Prop where
 |nil {S:MS} (h:S.wait=[]):RunX sub 0 S (some S)
 |last {S:MS} {w:List Wt} {x:Wt} {wd:Str} {d:Dt} (hs:Hy S) (hw:S.wait=w++[x]) (hc:x.came=false) (hsub:sub x.pl=some (wd,d)) (hg:wd≠"gap") (h5:500<S.steps+1):RunX sub 0 S none
 |cons {n:Nat} {S S1:MS} {o:Option MS} (hs:Hy S) (h1:Gs sub S S1) (h2:RunX sub n S1 o):RunX sub (n+1) S o
theorem RunM.x (h:RunM sub n S S'):RunX sub n S (some S'):=by
 induction h with
 |nil h=>exact .nil h
 |cons a b _ I=>exact .cons a b I
theorem RunL.x (h:RunL sub n S):RunX sub n S none:=by
 induction h with
 |last a b c d e f=>exact .last a b c d e f
 |cons a b _ I=>exact .cons a b I
def Zbn (K:Ph)(C TL:Addr):Sp:=λvs H Q E=>eX7 λ(HB:Hp)(kvs:List (List Aw×V))(L:Ml)(S:MS)(sub:List Nat->Option (Str×Dt))(n:Nat)(o:Option MS)=>vs=[.ref L.m]/\MAt K HB C kvs L H S/\FormsAt K H kvs sub/\RunX sub n S o/\(∀S',o=some S'->eX2 λ(th:List (Str×V))(x:Str×V)=>S'.things=th++[x]/\∀v H' t,SameM L H H'->MAt K HB C kvs (L.with t) H' { S' with things:=th }->ThAt K H' v x->Q v H')/\(o=none->∀H',Same HB H'->E (.ref TL) none H')
theorem Ze5:Bb ["self","place","around","parts_came"] ["self"] (A5 Mm):=by walk_at "sc"
theorem Zqv (F:Fun K "thing_at_the_end" "Machine.thing_at_the_end" Mm f fd)(T:Txt K mg)(O:Mc K C)(MC:Dj (B3 P w) P w K mg base 3 C "come_to" ["self","place","around"] (λvs H Q E=>Ze3 K C vs H Q E\/Zgl K C TL vs H Q E))(MG:Dj Aq P w K mg base 4 C "go_further" ["self","place","around"] (Zg4 K C)):FnOk P w K mg base (B3 P w) 5 f fd ["self"] (Zbn K C TL):=by
 refine F.okx Ze5 (λvs H Q E h=>?_) (λba A outer s H vs Q E hr h=>?_)
 ·obtain⟨HB,kvs,L,S,sub,n,oo,rfl,_⟩:=h;rfl
 ·obtain⟨HB,kvs,L,S,sub,n,oo,rfl,M,FA,R,qS,qN⟩:=h;refine⟨_,Ad (Zhn PassesOwn.leaving (Zbq K (Ck K Ab) (by intro _;rfl)) (Ad (Ek (Mf K Pu Tz T1 M9 (Ck K Ab)) (Ks K Ze5 1 2 3)) (A3 (Ax (Zbq K A9 (by intro _;rfl)) (A3 (Bx (Dy (k:=4) K Aq pA Ab hr.m D8 (Ah Ag Az)))) (A3 (Bx (Dy (k:=3) K (B3 P w) pA Ab hr.m (Jp (λ_ _ _ h=>h)) (Ah Ag Az))))))))
   (An (Mf K Pu Tz T1 M9 (Ck K Ab))),?_⟩
  have bg:=big;left;refine⟨λm as H'=>eX5 λv1 v2 v3 S1 t=>as=[some (.ref L.m),v1,v2,v3]/\MAt K HB C kvs (L.with t) H' S1/\RunX sub m S1 oo/\SameM L H H'/\(t=L.td\/H t=none),⟨n,none,none,none,S,L.td,rfl,M,R,SameM.refl _ _,.inl rfl⟩,?_⟩;rintro m as H1 ⟨v1,v2,v3,S1,t,rfl,M1,R1,e1,ht⟩;obtain⟨wv,ew,aw⟩:=M1.wait;have aq:=FA.same (M.t e1);left;refine⟨_,rfl,L.m,C,L.dx,_,_,rfl,M1.ins,O.cl,O.nw,Hw (L.with t) S1.steps,?_⟩;refine Zi7 (SqL.of ew) ?_;cases R1 with
  |nil hw =>
   have a4:wv=[]:=R5 (by rw[aw.1,hw];rfl);subst a4;refine iteF ?_;left;obtain⟨tv,et,ai⟩:=M1.things;obtain⟨th,x,hx,q⟩:=qS _ rfl;rw[hx]at ai;obtain⟨a6,v,a8,x',rfl,ag,a7,hv⟩:=ai.last (by intro z;rw[z]at ai;have:=ai.1;simp at this);obtain⟨rfl,e2⟩:=So ag rfl;cases e2;refine⟨_,rfl,L.m,C,L.dx,_,_,rfl,M1.ins,O.cl,O.nt,Hh (L.with t) S1.steps,?_⟩;refine B6 (SqL.of et) ?_;refine K8 et ?_;have Y:=M1.setThings a7;have e2:SameM (L.with t) H1 (upd H1 (L.with t).td (.lst a6)):=SameM.upd (.inr (.inr (.inr rfl)));refine q v _ t (e1.trans' (L':=L.with t) e2 rfl rfl rfl ht) Y (ThAt.same (M1.t e2) _ _ hv)
  | @last _ w0 xw wd d hs hw hc Z hg h5 =>
   rw[hw]at aw;obtain⟨ad,v,av,a3,rfl,ag,ao,am⟩:=aw.last (by intro z;rw[z]at aw;have:=aw.1;simp at this);obtain⟨rfl,e2⟩:=So ag rfl;cases e2;have ap:(!(ad++[v]).isEmpty)=true:=by simp
   rw[ap];refine iteT ?_;refine⟨λan H2=>∃m2,m2<0/\eX5 λv1 v2 v3 S1 t=>an=[some (.ref L.m),v1,v2,v3]/\MAt K HB C kvs (L.with t) H2 S1/\RunX sub m2 S1 none/\SameM L H H2/\(t=L.td\/H t=none),λ_ _ h=>h,?_⟩;left;refine⟨_,rfl,L.m,C,L.dx,_,_,rfl,M1.ins,O.cl,O.nw,Hw (L.with t) S1.steps,?_⟩;refine B6 (SqL.of ew) ?_;refine K8 ew ?_;have Y:=M1.setWait ao;have I:SameM (L.with t) H1 (upd H1 (L.with t).wd (.lst ad)):=SameM.upd (.inr (.inr (.inl rfl)));have ae:=WtAt.same (M1.a I) _ _ am;have U:=aq.same (M1.t I);revert Y I ae U;generalize upd H1 (L.with t).wd (.lst ad)=H2;intro Y I ae U;obtain⟨a,p,e,ev,rfl,qa,hp,he,aj,nA⟩:=ae;have ah:SameM L H H2:=e1.trans' (L':=L.with t) I rfl rfl rfl ht;left;refine Du qa rfl ?_;left;refine⟨xw.came,rfl,?_⟩;rw[hc];refine iteF ?_;left;obtain⟨ak,vv,ts,aa,af⟩:=U _ _ _ Z;refine⟨_,rfl,L.m,C,L.dx,_,_,rfl,Y.ins,(D4 (L.with t) S1.steps).2.2.2.1,MC,?_⟩;left;exact .inr ⟨p,e,xw.pl,ev,xw.ar,HB,kvs,L.with t,_,vv,wd,d,ts,rfl,Y,hp,he,aj,nA,aa,af,hg,h5,λH3 e3=>qN rfl _ (Y.outer e3)⟩
  | @cons m' _ S2 _ hs h1 h2 =>
   have ay:eX2 λw x=>S1.wait=w++[x]:=by
    cases h1 with
    |come hw=>exact⟨_,_,hw⟩
    |further hw=>exact⟨_,_,hw⟩
   obtain⟨wl,xw,al⟩:=ay;rw[al]at aw;obtain⟨ad,v,av,a3,rfl,ag,ao,am⟩:=aw.last (by intro z;rw[z]at aw;have:=aw.1;simp at this);obtain⟨rfl,e2⟩:=So ag rfl;cases e2;have ap:(!(ad++[v]).isEmpty)=true:=by simp
   rw[ap];refine iteT ?_;refine⟨λan H2=>∃m2,m2<m'+1/\eX5 λv1 v2 v3 S1 t=>an=[some (.ref L.m),v1,v2,v3]/\MAt K HB C kvs (L.with t) H2 S1/\RunX sub m2 S1 oo/\SameM L H H2/\(t=L.td\/H t=none),λ_ _ h=>h,?_⟩;left;refine⟨_,rfl,L.m,C,L.dx,_,_,rfl,M1.ins,O.cl,O.nw,Hw (L.with t) S1.steps,?_⟩;refine B6 (SqL.of ew) ?_;refine K8 ew ?_;have Y:=M1.setWait ao;have I:SameM (L.with t) H1 (upd H1 (L.with t).wd (.lst ad)):=SameM.upd (.inr (.inr (.inl rfl)));have ae:=WtAt.same (M1.a I) _ _ am;have U:=aq.same (M1.t I);revert Y I ae U;generalize upd H1 (L.with t).wd (.lst ad)=H2;intro Y I ae U;obtain⟨a,p,e,ev,rfl,qa,hp,he,aj,nA⟩:=ae;have ah:SameM L H H2:=e1.trans' (L':=L.with t) I rfl rfl rfl ht;left;refine Du qa rfl ?_;left;have au:wl.length<9000:=by have:=hs.w;rw[al,Pn]at this;lia
   refine⟨xw.came,rfl,?_⟩;cases h1 with
   | @come w2 x2 wd d hw hc Z hn h5 =>
    rw[al]at hw;obtain⟨rfl,e2⟩:=So hw rfl;cases e2;rw[hc];refine iteF ?_;left;obtain⟨ak,vv,ts,aa,af⟩:=U _ _ _ Z;refine⟨_,rfl,L.m,C,L.dx,_,_,rfl,Y.ins,(D4 (L.with t) S1.steps).2.2.2.1,MC,?_⟩;left;refine .inl ⟨p,e,xw.pl,ev,xw.ar,HB,kvs,L.with t,_,vv,wd,d,ts,rfl,Y,hp,he,aj,nA,aa,af,hn,ak,hs.r,au,hs.t,h5,λH3 e3 M3=>?_⟩;left;exact⟨m',by lia,_,_,_,_,t,rfl,M3,h2,ah.trans' (L':=L.with t) e3 rfl rfl rfl ht,ht⟩
   | @further _ w2 x2 wd d hw hc Z hf a5 =>
    rw[al]at hw;obtain⟨rfl,e2⟩:=So hw rfl;cases e2;rw[hc];refine iteT ?_;left;obtain⟨ak,vv,ts,aa,af⟩:=U _ _ _ Z;refine⟨_,rfl,L.m,C,L.dx,_,_,rfl,Y.ins,(D4 (L.with t) S1.steps).2.2.2.2.1,MG,?_⟩;left;refine⟨p,e,xw.pl,ev,xw.ar,HB,kvs,L.with t,_,_,vv,wd,d,ts,rfl,Y,hp,he,aj,nA,aa,af,sub,U,hf,hs.r,hs.t,au,ak,a5,λH3 t3 e3 M3 ac=>?_⟩;left;refine⟨m',by lia,_,_,_,_,t3,rfl,M3,h2,ah.trans' (L':=L.with t) e3 rfl rfl rfl ht,?_⟩;by_cases z:t3=L.td
    ·exact .inl z
    ·refine .inr ?_;cases hH:H t3 with
     |none=>rfl
     |some o =>
      exfalso;obtain⟨a9,ax,_⟩:=Y.rows;have n1:t3≠L.m:=λy=>by rw[y,show H2 L.m=_ from Y.ins]at ac;cases ac
      have n2:¬L.A t3:=by
       rintro(y|y|y)
       ·rw[y,show H2 L.rd=_ from ax]at ac;cases ac
       ·obtain⟨bb,a0,_⟩:=Y.wait;rw[y,show H2 L.wd=_ from a0]at ac;cases ac
       ·exact z y
      rw[ah _ _ n1 n2 hH]at ac;cases ac
def Zf7 (K:Ph)(C:Addr):Sp:=λvs H Q _=>eX14 λ(p e:Addr)(pl:List Nat)(ev:List V)(ar:List (Str×Str×V))(HB:Hp)(kvs:List (List Aw×V))(L:Ml)(S S':MS)(sub:List Nat->Option (Str×Dt))(n:Nat)(th:List (Str×V))(x:Str×V)=>vs=[.ref L.m,.ref p,.ref e]/\MAt K HB C kvs L H S/\H p=some (.tup (A2 pl))/\H e=some (.lst ev)/\Al (PrAt K H) ev ar/\¬L.A e/\FormsAt K H kvs sub/\S.wait.length<9000/\RunM sub n { S with wait:=S.wait++[⟨pl,ar,false⟩] } S'/\S'.things=th++[x] /\
 ∀v H' t,SameM L H H'->MAt K HB C kvs (L.with t) H' { S' with things:=th }->ThAt K H' v x->Q v H'
def Zfa (K:Ph)(C TL:Addr):Sp:=λvs H _ E=>eX11 λ(p e:Addr)(pl:List Nat)(ev:List V)(ar:List (Str×Str×V))(HB:Hp)(kvs:List (List Aw×V))(L:Ml)(S:MS)(sub:List Nat->Option (Str×Dt))(n:Nat)=>vs=[.ref L.m,.ref p,.ref e]/\MAt K HB C kvs L H S/\H p=some (.tup (A2 pl))/\H e=some (.lst ev)/\Al (PrAt K H) ev ar/\¬L.A e/\FormsAt K H kvs sub/\S.wait.length<9000/\RunL sub n { S with wait:=S.wait++[⟨pl,ar,false⟩] }/\∀H',Same HB H'->E (.ref TL) none H'
def Zkm (K:Ph)(C TL:Addr):Sp:=λvs H Q E=>eX12 λ(p e:Addr)(pl:List Nat)(ev:List V)(ar:List (Str×Str×V))(HB:Hp)(kvs:List (List Aw×V))(L:Ml)(S:MS)(sub:List Nat->Option (Str×Dt))(n:Nat)(oo:Option MS)=>vs=[.ref L.m,.ref p,.ref e]/\MAt K HB C kvs L H S/\H p=some (.tup (A2 pl))/\H e=some (.lst ev)/\Al (PrAt K H) ev ar/\¬L.A e/\FormsAt K H kvs sub/\S.wait.length<9000/\RunX sub n { S with wait:=S.wait++[⟨pl,ar,false⟩] } oo/\(∀S',oo=some S'->eX2 λ(th:List (Str×V))(x:Str×V)=>S'.things=th++[x]/\∀v H' t,SameM L H H'->MAt K HB C kvs (L.with t) H' { S' with things:=th }->ThAt K H' v x->Q v H')/\(oo=none->∀H',Same HB H'->E (.ref TL) none H')
theorem Zmc:Bb pA pA (A5 Mo):=by walk_at "sc"
theorem Zje (F:Fun K "thing_of_form" "Machine.thing_of_form" Mo f fd)(T:Txt K mg)(O:Mc K C)(ME:Dj (B3 P w) P w K mg base 5 C "thing_at_the_end" ["self"] (Zbn K C TL)):FnOk P w K mg base (B3 P w) 6 f fd pA (Zkm K C TL):=by
 refine F.okx Zmc (λvs H Q E h=>?_) (λae A outer s H vs Q E hr h=>?_)
 ·obtain⟨p,e,pl,ev,ar,HB,kvs,L,S,sub,n,oo,rfl,_⟩:=h;rfl
 ·obtain⟨p,e,pl,ev,ar,HB,kvs,L,S,sub,n,oo,rfl,M,hp,he,ad,nA,FA,ag,R,qS,qN⟩:=h;refine⟨_,Ad (Bx (Co K Pu Qd Qe C0 (Ck K Ab) (Av (Ak (Bc Ag Az Cy)))))
   (An (Zgd (k:=5) K (B3 P w) ["self"] Ab hr.m (Jp (λ_ _ _ h=>h)))),?_⟩
  have bg:=big;obtain⟨Y,ew,aw⟩:=M.wait;have af:=aw.1;left;refine⟨_,rfl,L.m,C,L.dx,_,_,rfl,M.ins,O.cl,O.nw,Hw L S.steps,?_⟩;refine B6 (SqL.of ew) ?_;left;refine⟨Br,λr ac=>?_⟩;obtain⟨H1,I,e1,z9⟩:=Dq ac (.tup [.ref p,.ref e,.bl false]);rw[z9];left;refine Cw (I _ _ ew) (by lia) ?_;have M1:=M.new I;have M2:=M1.setWait (wv:=Y++[.ref r]) (ws:=S.wait++[⟨pl,ar,false⟩]) ((aw.mono (WtAt.same I.a)).snoc ⟨r,p,e,ev,rfl,SqT.of e1,I _ _ hp,I _ _ he,ad.mono (PrAt.same I.t),nA⟩);have aa:SameM L H1 (upd H1 L.wd (.lst (Y++[.ref r]))):=SameM.upd (.inr (.inr (.inl rfl)));have U:SameM L H (upd H1 L.wd (.lst (Y++[.ref r]))):=(I.m L).trans aa;have Z:=FA.same (M.t U);left;refine⟨_,rfl,L.m,C,L.dx,_,_,rfl,M2.ins,(D4 L S.steps).2.2.2.2.2.2.1,ME,?_⟩;left;exact⟨HB,kvs,L,_,sub,n,oo,rfl,M2,Z,R,λS' z=>let ⟨th,x,hx,q⟩:=qS S' z;⟨th,x,hx,λv H' t e' M' t'=>q v H' t (U.trans e') M' t'⟩,qN⟩
theorem Zq1 (F:FnOk P w K mg base (B3 P w) k f fd pA (Zkm K C TL)):FnOk P w K mg base (B3 P w) k f fd pA (λvs H Q E=>Zf7 K C vs H Q E\/Zfa K C TL vs H Q E):=F.imp λvs H Q E h=>by
 rcases h with h|h
 ·obtain⟨p,e,pl,Y,ar,HB,kvs,L,S,S',sub,n,th,x,rfl,M,hp,U,I,nA,Z,O,R,hx,q⟩:=h;exact⟨p,e,pl,Y,ar,HB,kvs,L,S,sub,n,_,rfl,M,hp,U,I,nA,Z,O,R.x,λS2 z=>by cases z;exact⟨th,x,hx,q⟩,λz=>nomatch z⟩
 ·obtain⟨p,e,pl,Y,ar,HB,kvs,L,S,sub,n,rfl,M,hp,U,I,nA,Z,O,R,q⟩:=h;exact⟨p,e,pl,Y,ar,HB,kvs,L,S,sub,n,_,rfl,M,hp,U,I,nA,Z,O,R.x,λS2 z=>(nomatch z),λ_=>q⟩
def Zip (K:Ph)(C:Addr):Sp:=λvs H Q _=>eX17 λ(p o e:Addr)(pl:List Nat)(ov ev:List V)(ops:List (Str×V))(ar:List (Str×Str×V))(HB:Hp)(kvs:List (List Aw×V))(L:Ml)(S S':MS)(sub:List Nat->Option (Str×Dt))(n:Nat)(th:List (Str×V))(x:Str×V)=>vs=[.ref L.m,.ref p,.ref o,.ref e]/\MAt K HB C kvs L H S/\H p=some (.tup (A2 pl))/\H o=some (.lst ov)/\Al (ThAt K H) ov ops/\H e=some (.lst ev)/\Al (PrAt K H) ev ar/\¬L.A e/\FormsAt K H kvs sub/\S.wait.length<9000/\S.things.length+ops.length<9000/\RunM sub n { S with things:=S.things++ops,wait:=S.wait++[⟨pl,ar,true⟩] } S'/\S'.things=th++[x] /\
 ∀v H' t,SameM L H H'->MAt K HB C kvs (L.with t) H' { S' with things:=th }->ThAt K H' v x->Q v H'
def Zkj (K:Ph)(C TL:Addr):Sp:=λvs H _ E=>eX14 λ(p o e:Addr)(pl:List Nat)(ov ev:List V)(ops:List (Str×V))(ar:List (Str×Str×V))(HB:Hp)(kvs:List (List Aw×V))(L:Ml)(S:MS)(sub:List Nat->Option (Str×Dt))(n:Nat)=>vs=[.ref L.m,.ref p,.ref o,.ref e]/\MAt K HB C kvs L H S/\H p=some (.tup (A2 pl))/\H o=some (.lst ov)/\Al (ThAt K H) ov ops/\H e=some (.lst ev)/\Al (PrAt K H) ev ar/\¬L.A e/\FormsAt K H kvs sub/\S.wait.length<9000/\S.things.length+ops.length<9000/\RunL sub n { S with things:=S.things++ops,wait:=S.wait++[⟨pl,ar,true⟩] }/\∀H',Same HB H'->E (.ref TL) none H'
def Zil (K:Ph)(C TL:Addr):Sp:=λvs H Q E=>eX15 λ(p o e:Addr)(pl:List Nat)(ov ev:List V)(ops:List (Str×V))(ar:List (Str×Str×V))(HB:Hp)(kvs:List (List Aw×V))(L:Ml)(S:MS)(sub:List Nat->Option (Str×Dt))(n:Nat)(oo:Option MS)=>vs=[.ref L.m,.ref p,.ref o,.ref e]/\MAt K HB C kvs L H S/\H p=some (.tup (A2 pl))/\H o=some (.lst ov)/\Al (ThAt K H) ov ops/\H e=some (.lst ev)/\Al (PrAt K H) ev ar/\¬L.A e/\FormsAt K H kvs sub/\S.wait.length<9000/\S.things.length+ops.length<9000/\RunX sub n { S with things:=S.things++ops,wait:=S.wait++[⟨pl,ar,true⟩] } oo/\(∀S',oo=some S'->eX2 λ(th:List (Str×V))(x:Str×V)=>S'.things=th++[x]/\∀v H' t,SameM L H H'->MAt K HB C kvs (L.with t) H' { S' with things:=th }->ThAt K H' v x->Q v H')/\(oo=none->∀H',Same HB H'->E (.ref TL) none H')
theorem Zo9:Bb pG pG (A5 Nw):=by walk_at "sc"
theorem Zqm (F:Fun K "thing_of_parts" "Machine.thing_of_parts" Nw f fd)(T:Txt K mg)(O:Mc K C)(ME:Dj (B3 P w) P w K mg base 5 C "thing_at_the_end" ["self"] (Zbn K C TL)):FnOk P w K mg base (B3 P w) 6 f fd pG (Zil K C TL):=by
 refine F.okx Zo9 (λvs H Q E h=>?_) (λak A outer s H vs Q E hr h=>?_)
 ·obtain⟨p,o,e,pl,ov,ev,ops,ar,HB,kvs,L,S,sub,n,oo,rfl,_⟩:=h;rfl
 ·obtain⟨p,o,e,pl,ov,ev,ops,ar,HB,kvs,L,S,sub,n,oo,rfl,M,hp,ho,aa,he,ai,nA,FA,an,al,R,qS,qN⟩:=h;refine⟨_,Ad (Bx (Co K Pu Wd We Zcx (Ck K Ab) (Av Az)))
   (Ad (Bx (Co K Pu Qd Qe C0 (Ck K Ab) (Av (Ak (Bc Ag A9 Cy))))) (An (Zgd (k:=5) K (B3 P w) ["self"] Ab hr.m (Jp (λ_ _ _ h=>h))))),?_⟩
  have bg:=big;obtain⟨tv,et,ac⟩:=M.things;have ao:=ac.1;have am:=aa.1;left;refine⟨_,rfl,L.m,C,L.dx,_,_,rfl,M.ins,O.cl,O.nt,Hh L S.steps,?_⟩;refine B6 (SqL.of et) ?_;left;refine⟨L.td,o,_,ov,rfl,rfl,et,ho,by lia,?_⟩;have Z:=M.setThings (ac.append aa);have m0:SameM L H (upd H L.td (.lst (tv++ov))):=SameM.upd (.inr (.inr (.inr rfl)));revert Z m0;generalize upd H L.td (.lst (tv++ov))=H0;intro Z m0;have t0:=M.t m0;have af:=(t0 p).1 _ hp;have ag:=(M.a m0).2 _ _ nA he;have Y:Al (PrAt K H0) ev ar:=ai.mono (PrAt.same t0);obtain⟨wv,ew,aw⟩:=Z.wait;have aj:=aw.1;left;refine⟨_,rfl,L.m,C,L.dx,_,_,rfl,Z.ins,O.cl,O.nw,Hw L S.steps,?_⟩;refine B6 (SqL.of ew) ?_;left;refine⟨Br,λr ah=>?_⟩;obtain⟨H1,I,e1,z9⟩:=Dq ah (.tup [.ref p,.ref e,.bl true]);rw[z9];left;refine Cw (I _ _ ew) (by rw[aj];show S.wait.length+1<=_;lia) ?_;have M1:=Z.new I;have M2:=M1.setWait (wv:=wv++[.ref r]) (ws:=S.wait++[⟨pl,ar,true⟩]) ((aw.mono (WtAt.same I.a)).snoc ⟨r,p,e,ev,rfl,SqT.of e1,I _ _ af,I _ _ ag,Y.mono (PrAt.same I.t),nA⟩);have ae:SameM L H1 (upd H1 L.wd (.lst (wv++[.ref r]))):=SameM.upd (.inr (.inr (.inl rfl)));have U:SameM L H (upd H1 L.wd (.lst (wv++[.ref r]))):=m0.trans ((I.m L).trans ae);have ad:=FA.same (M.t U);left;refine⟨_,rfl,L.m,C,L.dx,_,_,rfl,M2.ins,(D4 L S.steps).2.2.2.2.2.2.1,ME,?_⟩;left;exact⟨HB,kvs,L,_,sub,n,oo,rfl,M2,ad,R,λS' z=>let ⟨th,x,hx,q⟩:=qS S' z;⟨th,x,hx,λv H' t e' M' t'=>q v H' t (U.trans e') M' t'⟩,qN⟩
theorem Znl (F:FnOk P w K mg base (B3 P w) k f fd pG (Zil K C TL)):FnOk P w K mg base (B3 P w) k f fd pG (λvs H Q E=>Zip K C vs H Q E\/Zkj K C TL vs H Q E):=F.imp λvs H Q E h=>by
 rcases h with h|h
 ·obtain⟨p,o,e,pl,ov,ev,ops,ar,HB,kvs,L,S,S',sub,n,th,x,rfl,M,hp,ho,U,Z,O,nA,FA,Y,I,R,hx,q⟩:=h;exact⟨p,o,e,pl,ov,ev,ops,ar,HB,kvs,L,S,sub,n,_,rfl,M,hp,ho,U,Z,O,nA,FA,Y,I,R.x,λS2 z=>by cases z;exact⟨th,x,hx,q⟩,λz=>nomatch z⟩
 ·obtain⟨p,o,e,pl,ov,ev,ops,ar,HB,kvs,L,S,sub,n,rfl,M,hp,ho,U,Z,O,nA,FA,Y,I,R,q⟩:=h;exact⟨p,o,e,pl,ov,ev,ops,ar,HB,kvs,L,S,sub,n,_,rfl,M,hp,ho,U,Z,O,nA,FA,Y,I,R.x,λS2 z=>(nomatch z),λ_=>q⟩
noncomputable def Bw (bc ops:List (Str×V)):List (Str×V):=ops.map (A7 bc)
noncomputable def A4 (bc:List (Str×V))(ar:List (Str×Str×V)):List (Str×Str×V):=ar.map λy=>(y.1,A7 bc y.2)
inductive RowG (sub:List Nat->Option (Str×Dt))(fl:List Nat)(bc:List (Str×V))(r:Rx)(S:MS):MS->Str×V->Prop where
 |fill {n:Nat} {S':MS} {th:List (Str×V)} {x:Str×V} (hp:r.pl=Ap fl) (R:RunM sub n { S with wait:=S.wait++[⟨fl,A4 bc r.ar,false⟩] } S') (hx:S'.things=th++[x]):RowG sub fl bc r S { S' with things:=th } x
 |parts {pl:List Nat} {n:Nat} {S':MS} {th:List (Str×V)} {x:Str×V} (hp:r.pl=Ap pl) (hn:r.pl≠Ap fl) (hw:(Bl r.wd).isSome=true) (R:RunM sub n { S with things:=S.things++Bw bc r.ops,wait:=S.wait++[⟨pl,A4 bc r.ar,true⟩] } S') (hx:S'.things=th++[x]):RowG sub fl bc r S { S' with things:=th } x
 |new {pl:List Nat} (hp:r.pl=Ap pl) (hn:r.pl≠Ap fl) (hw:(Bl r.wd).isSome=false):RowG sub fl bc r S { S with rows:=S.rows++[⟨r.wd,Ap pl,Bw bc r.ops,if r.wd∈WA then A4 bc r.ar else []⟩] } ("row",.int (S.rows.length:Nat))
structure Nc (n:Nat)(r:Rx):Prop where
 o:∀y∈r.ops,K6 n y
 a:∀y∈r.ar,K6 n y.2
 lo:r.ops.length<=1000
 la:r.ar.length<=2000
inductive Jm (sub:List Nat->Option (Str×Dt))(fl:List Nat)(bc:List (Str×V))(r:Rx)(S:MS):Option (MS×(Str×V))->Prop where
 |ok {S2:MS} {x:Str×V} (h:RowG sub fl bc r S S2 x):Jm sub fl bc r S (some (S2,x))
 |lateF {n:Nat} (hp:r.pl=Ap fl) (R:RunL sub n { S with wait:=S.wait++[⟨fl,A4 bc r.ar,false⟩] }):Jm sub fl bc r S none
 |lateP {pl:List Nat} {n:Nat} (hp:r.pl=Ap pl) (hn:r.pl≠Ap fl) (hw:(Bl r.wd).isSome=true) (R:RunL sub n { S with things:=S.things++Bw bc r.ops,wait:=S.wait++[⟨pl,A4 bc r.ar,true⟩] }):Jm sub fl bc r S none
def Zgz (K:Ph)(C TL:Addr):Sp:=λvs H Q E=>eX13 λ(a:V)(p b:Addr)(r:Rx)(fl:List Nat)(bv:List V)(bc:List (Str×V))(HB:Hp)(kvs:List (List Aw×V))(L:Ml)(S:MS)(sub:List Nat->Option (Str×Dt))(o:Option (MS×(Str×V)))=>vs=[.ref L.m,a,.ref p,.ref b]/\MAt K HB C kvs L H S/\RwX K (λ_=>False) HB a r/\SqT K HB p (A2 fl)/\HB b=some (.lst bv)/\Al (ThAt K H) bv bc/\Nc bc.length r/\FormsAt K H kvs sub/\S.rows.length<9000/\S.wait.length<8000/\S.things.length<8000/\Jm sub fl bc r S o /\
 (∀S2 x,o=some (S2,x)->∀v H' t,SameM L H H'->MAt K HB C kvs (L.with t) H' S2->ThAt K H' v x->Q v H')/\(o=none->∀H',Same HB H'->E (.ref TL) none H')
theorem Zht (L:Ml)(n:Int):(L.fs n).lookup ("thing_of_parts":Str)=none:=rfl
theorem Zu3:(["thing","became"]:List Str).Nodup:=by right
theorem Zhi:(["name","thing","became"]:List Str).Nodup:=by right
theorem sc_thing_of_row:Bb ["machine","row","filled","became","word","place","operands","around"] ["machine","row","filled","became"] (A5 Oc):=by walk_at "sc"
theorem Zn0 (F:Fun K "thing_of_row" "thing_of_row" Oc f fd)(T:Txt K mg)(O:Mc K C)(G_PARTS_AWAITED:F3 mg "PARTS_AWAITED" (.ref ap))(hpa:Ip P w K ap pk)(hpk:∀wd,(D6 pk wd).isSome=(Bl wd).isSome/\∀ns,Bl wd=some ns->∃b,D6 pk wd=some (.ref b)/\∀H,SqT K H b (ns.map V.int))(C_thing_now:Ba P w K mg base 1 "thing_now" ["thing","became"] (Zdp K))(MR:Dj Aq P w K mg base 1 C "new_row" ["self","word","place","operands","around"] (Lf K C))(MF:Dj (B3 P w) P w K mg base 6 C "thing_of_form" ["self","place","around"] (λvs H Q E=>Zf7 K C vs H Q E\/Zfa K C TL vs H Q E))(MP:Dj (B3 P w) P w K mg base 6 C "thing_of_parts" ["self","place","operands","around"] (λvs H Q E=>Zip K C vs H Q E\/Zkj K C TL vs H Q E)):FnOk P w K mg base (B3 P w) 7 f fd ["machine","row","filled","became"] (Zgz K C TL):=by
 refine F.okx sc_thing_of_row (λvs H Q E h=>?_) (λa6 A outer s H vs Q E hr h=>?_)
 ·obtain⟨a,p,b,r,fl,bv,bc,HB,kvs,L,S,sub,oo,rfl,_⟩:=h;rfl
 ·obtain⟨av,p,b,r,fl,bv,bc,HB,kvs,L,S,sub,oo,rfl,M,xr,hp,hb,au,ak,FA,z1,z2,z3,G,q,qL⟩:=h;refine⟨_,Ad (Ek (Eh (E3 K) Ag Fz (Ci Aa)) (Gj K sc_thing_of_row 4 5))
   (Ad (Of (i:=6) (N:=["thing","became"]) (σ0:=Fv 1 [3]) rfl (J2 rfl (by right) (by right) (by right)) (El K (Ai K Ag Aa)) (Jt rfl (by rfl)) (λ_ _ _ _=>Gr (i:=0) Zu3 rfl (Or.inl rfl)) (λ_ _ _ _=>Kv) (λ_ _ _ _=>Ay C_thing_now hr.m (Ah Ab Ag)) sc_thing_of_row.nd rfl (Or.inl rfl)) (Ad (Of (i:=7) (N:=["name","thing","became"]) (σ0:=Fv 2 [3]) rfl (J2 rfl (by right) (by right) (by right)) (El K (Ai K Ag Aa)) (Jt rfl (by rfl)) (λ_ _ _ _=>Ol K (n:=2) rfl (Hi (Gr (i:=0) Zhi rfl (Or.inl rfl)) (Hi (Gr (i:=1) Zhi rfl (Or.inl rfl)) Oo))) (λ_ _ _ _=>Kv) (λ_ _ _ _=>Ak (Ah Ab (Ay C_thing_now hr.m (Ah Ag Az)))) sc_thing_of_row.nd rfl (Or.inl rfl)) (Ad (Ax (Bp (Zkp K hr.u200) (qv 5) Az) (An (Dy (k:=6) K (B3 P w) pA Ab hr.m (Jp (λ_ _ _ h=>h)) (Ah (qv 5) (qv 7)))) A0) (Ad (Ax (Bp (Zco P w K) A6 (G8 G_PARTS_AWAITED)) (An (Dy (k:=6) K (B3 P w) pG Ab hr.m (Jp (λ_ _ _ h=>h)) (Bc (qv 5) (qv 6) (qv 7)))) A0) (An (Dy (k:=1) K Aq pB Ab hr.m D8 (Dh A6 (qv 5) (qv 6) (qv 7)))))))),?_⟩
  have bg:=big;have sB:=M.base;obtain⟨⟨a,p',o',e,ov,ev,rfl,qa,_,ho,as,he,aq,_,_⟩,a2,p2,o2,e2,ea,Ah,ag⟩:=RwX.same sB.a _ _ xr;cases ea;have aw:=sB _ _ hb;have lo:=ak.lo;have la:=ak.la;have a4:=as.1;have a3:=aq.1;left;refine .inr (.inr ⟨a,_,rfl,Ah,by show ¬(HT.sIx 4 0 none=0/\HT.sIx 4 4 (some 2)=4);decide,λk1 h1=>?_⟩);rw[show Bf [V.str r.wd,.ref p2,.ref o2,.ref e2] none (some 2)=[V.str r.wd,.ref p2] from rfl];obtain⟨H1,s1,e1,z9⟩:=Dq h1 (.tup [.str r.wd,.ref p2]);rw[z9];left;refine Du (SqT.of e1) rfl ?_;left;refine A1 (s1.tup qa) rfl ?_;refine .inl ⟨o',rfl,⟨_,SqL.of (s1 _ _ ho)⟩,λD hD=>?_⟩;refine Np (K:=K) (a:=o') (xs:=ov) (Pv:=λi ys ac H'=>∃kv,ac=[kv,some (.ref b)]/\Al (ThAt K H') ys ((r.ops.take i).map (A7 bc))/\Same H1 H') ⟨none,rfl,.nil,Same.upd hD⟩ (λi ys ac H' _ ⟨_,_,_,s'⟩=>SqL.of (s' _ _ (s1 _ _ ho))) ?_ ?_
  ·rintro i y ys ac H2 hy am ⟨kv,rfl,af,s2⟩;obtain⟨xo,ao,ay⟩:=as.get hy;have Z:=s1.trans s2;left;refine⟨y,b,bv,xo,bc,rfl,ThAt.same Z.t _ _ ay,SqL.of (Z _ _ aw),au.mono (ThAt.same Z.t),ak.o _ (Qs ao),λv tv=>?_⟩;have ax:ys.length<=1000:=by rw[af.1,Pp,Qp];lia
   refine⟨_,am,by lia,_,Ac,?_⟩;have sA:SameT H2 (upd H2 D (.lst (ys++[v]))):=SameT.set am;refine⟨_,rfl,?_,s2.over hD⟩;rw[Sa,ao,Vf,Qi,Wn];exact(af.mono (ThAt.same sA)).snoc (ThAt.same sA _ _ tv)
  ·rintro ys ac H2 am ⟨kv,rfl,af,s2⟩;rw[Rs (by lia)]at af;have af:Al (ThAt K H2) ys (Bw bc r.ops):=af;have Z:=s1.trans s2;left;refine A1 (Z.tup qa) rfl ?_;refine .inl ⟨e,rfl,⟨_,SqL.of (Z _ _ he)⟩,λD2 ad=>?_⟩;refine Np (K:=K) (a:=e) (xs:=ev) (Pv:=λi zs ac H'=>eX2 λk1 k2=>ac=[k1,k2,some (.ref b)]/\Al (PrAt K H') zs ((r.ar.take i).map λy=>(y.1,A7 bc y.2))/\Same H2 H') ⟨none,none,rfl,.nil,Same.upd ad⟩ (λi zs ac H' _ ⟨_,_,_,_,s'⟩=>SqL.of (s' _ _ (Z _ _ he))) ?_ ?_
   ·rintro i y zs ac H3 hy ae ⟨k1,k2,rfl,U,s3⟩;obtain⟨xa,an,pa,u,rfl,qp,tu⟩:=aq.get hy;have I:=Z.trans s3;left;refine Du (I.tup qp) rfl ?_;left;refine⟨u,b,bv,xa.2,bc,rfl,ThAt.same I.t _ _ tu,SqL.of (I _ _ aw),au.mono (ThAt.same I.t),ak.a _ (Qs an),λv tv=>?_⟩;left;refine⟨Bt,λk hk=>?_⟩;obtain⟨H4,s4,e4,z9⟩:=Dq hk (.tup [.str xa.1,v]);rw[z9];have ax:zs.length<=2000:=by rw[U.1,Pp,Qp];lia
    refine⟨_,s4 _ _ ae,by lia,_,Ac,?_⟩;have sA:SameT H4 (upd H4 D2 (.lst (zs++[.ref k]))):=SameT.set (s4 _ _ ae);refine⟨_,_,rfl,?_,(s3.trans s4).over ad⟩;rw[Sa,an,Vf,Qi,Wn];exact(U.mono (PrAt.same (s4.t.trans sA))).snoc ⟨k,v,rfl,sA.tup (SqT.of e4),ThAt.same (s4.t.trans sA) _ _ tv⟩
   ·rintro zs ac H3 ae ⟨k1,k2,rfl,U,s3⟩;rw[Rs (by lia)]at U;have U:Al (PrAt K H3) zs (A4 bc r.ar):=U;have I:=Z.trans s3;have M3:=M.new I;have al:=FA.same I.t;have ai:=s3 _ _ am;have ah:=af.mono (ThAt.same s3.t);have aj:¬L.A D2:=by
     have M2:=M.new Z;obtain⟨rv,er,_⟩:=M2.rows;obtain⟨a5,a0,_⟩:=M2.wait;obtain⟨tv,et,_⟩:=M2.things;rintro(y|y|y)
     ·rw[y,er]at ad;cases ad
     ·rw[y,a0]at ad;cases ad
     ·rw[y,et]at ad;cases ad
    left;refine Ze9 (xs:=r.pl) (ys:=Ap fl) (SqT.of (I _ _ ag)) (by rw[Fl];exact(sB.trans I).tup hp) ?_;left;cases G with
    |ok G =>
     cases G with
     | @fill n S' th x Y R hx =>
      rw[decide_eq_true Y];left;have aa:H3 p2=some (.tup (A2 fl)):=by rw[<- Fl,<- Y];exact I _ _ ag
      refine⟨_,rfl,L.m,C,L.dx,_,_,rfl,M3.ins,(D4 L S.steps).2.2.2.2.2.2.2,MF,?_⟩;left;exact Or.inl ⟨p2,D2,fl,zs,A4 bc r.ar,HB,kvs,L,S,S',sub,n,th,_,rfl,M3,aa,ae,U,aj,al,by lia,R,hx,λv H' t e' M' t'=>q _ _ rfl v H' t ((I.m L).trans e') M' t'⟩
     | @parts pl n S' th x Y hn hw R hx =>
      rw[decide_eq_false hn];left;have aa:H3 p2=some (.tup (A2 pl)):=by rw[<- Fl,<- Y];exact I _ _ ag
      refine⟨r.wd,ap,pk,rfl,rfl,hpa,?_⟩;rw[(hpk r.wd).1,hw];left;refine⟨_,rfl,L.m,C,L.dx,_,_,rfl,M3.ins,Zht L S.steps,MP,?_⟩;left;exact Or.inl ⟨p2,D,D2,pl,ys,zs,Bw bc r.ops,A4 bc r.ar,HB,kvs,L,S,S',sub,n,th,_,rfl,M3,aa,ai,ah,ae,U,aj,al,by lia,by unfold Bw;rw[Pp];lia,R,hx,λv H' t e' M' t'=>q _ _ rfl v H' t ((I.m L).trans e') M' t'⟩
     | @new pl Y hn hw =>
      rw[decide_eq_false hn];left;have aa:H3 p2=some (.tup (A2 pl)):=by rw[<- Fl,<- Y];exact I _ _ ag
      refine⟨r.wd,ap,pk,rfl,rfl,hpa,?_⟩;rw[(hpk r.wd).1,hw];left;refine⟨_,rfl,L.m,C,L.dx,_,_,rfl,M3.ins,(D4 L S.steps).2.1,MR,?_⟩;left;exact⟨r.wd,p2,D,D2,pl,ys,zs,Bw bc r.ops,A4 bc r.ar,HB,kvs,L,S,rfl,M3,aa,SqL.of ai,ah,SqL.of ae,U,by lia,λv H' e' M' t'=>q _ _ rfl v H' L.td ((I.m L).trans e') M' t'⟩
    | @lateF n Y R =>
     rw[decide_eq_true Y];left;have aa:H3 p2=some (.tup (A2 fl)):=by rw[<- Fl,<- Y];exact I _ _ ag
     refine⟨_,rfl,L.m,C,L.dx,_,_,rfl,M3.ins,(D4 L S.steps).2.2.2.2.2.2.2,MF,?_⟩;left;exact Or.inr ⟨p2,D2,fl,zs,A4 bc r.ar,HB,kvs,L,S,sub,n,rfl,M3,aa,ae,U,aj,al,by lia,R,qL rfl⟩
    | @lateP pl n Y hn hw R =>
     rw[decide_eq_false hn];left;have aa:H3 p2=some (.tup (A2 pl)):=by rw[<- Fl,<- Y];exact I _ _ ag
     refine⟨r.wd,ap,pk,rfl,rfl,hpa,?_⟩;rw[(hpk r.wd).1,hw];left;refine⟨_,rfl,L.m,C,L.dx,_,_,rfl,M3.ins,Zht L S.steps,MP,?_⟩;left;exact Or.inr ⟨p2,D,D2,pl,ys,zs,Bw bc r.ops,A4 bc r.ar,HB,kvs,L,S,sub,n,rfl,M3,aa,ai,ah,ae,U,aj,al,by lia,by unfold Bw;rw[Pp];lia,R,qL rfl⟩
def Zf3 (K:Ph):Sp:=λvs H Q _=>eX2 λ(v:V)(t:Tr)=>vs=[v]/\TrAt K H v t/\t.size<=2000/\∀(p:Addr)(rows:List V)(H':Hp),Same H H'->H p=none->H' p=some (.lst rows)->Al (RowT K H') rows (walk [] t)->Q (.ref p) H'
theorem Md:Bb ["tree","told","waiting","pair","number","part"] ["tree"] (A5 L9):=by walk_at "sc"
def PlJ (K:Ph)(H:Hp)(v:V)(t:Tr)(pt pw:Addr)(m:Nat)(σ:St)(H':Hp):Prop:=eX7 λ(v3 v4 v5:Option V)(tv wv:List V)(dn st:List (List Nat×Tr))=>σ=[some v,some (.ref pt),some (.ref pw),v3,v4,v5]/\H' pt=some (.lst tv)/\H' pw=some (.lst wv) /\
 Al (RowT K H') tv dn/\Al (RowT K H') wv st/\dn++Iw st=walk [] t/\m=F4 st/\Same H H'
theorem Ztp (F:Fun K "placed_forms" "placed_forms" L9 f fd)(T:Txt K mg):FnOk P w K mg base Aq 1 f fd ["tree"] (Zf3 K):=by
 refine F.okq Md (λvs H Q E h=>?_) (λcb A outer s H vs Q E hr h=>?_)
 ·obtain⟨v,t,rfl,_⟩:=h;rfl
 ·obtain⟨v,t,rfl,ht,hz,q⟩:=h;refine⟨_,Ad (Ao 1 Md (Bk Bh))
   (Ad (Ao 2 Md (Bk (Av (Ak (Ah (Ak Bh) Ab))))) (Ad (Zhn Qk (Zbq K Az (by intro _;rfl)) (Ad (Ao 3 Md (Mf K Pu Tz T1 M9 Az)) (Ad (Bx (Co K Pu Qd Qe C0 Ag (Av A9))) (A3 (Dw Qk rfl (Zjz K rfl T.reversed (Av (Zl8 K (by rfl) T.list (by rfl) T.enumerate (Av (Ai K (Ai K A9 Aa) Aa))))) (Gj K Md 4 5) (A3 (Bx (Co K Pu Qd Qe C0 Az (Av (Ak (Ah (Ae (Jo K) (Ai K A9 Aa) (Ak (Av A6))) (qv 5)))))))))))) (An Ag))),?_⟩
  have bg:=big;left;refine⟨Bg,λpt am=>?_⟩;left;refine⟨Bg,λp0 a8=>?_⟩;left;refine⟨Bt,λp1 aq=>?_⟩;left;refine⟨Dl,λY ak=>?_⟩;left;have s0:Same (upd H pt (.lst [])) _:=((Same.upd (o:=.tup []) a8).put (o:=.tup [.ref p0,v]) aq).put (o:=.lst [.ref p1]) ak;have s1:Same (upd (upd H pt (.lst [])) p0 (.tup [])) _:=(Same.upd (o:=.tup [.ref p0,v]) aq).put (o:=.lst [.ref p1]) ak;have s2:=Same.upd (o:=.lst [.ref p1]) ak;have sH:=(Same.upd (o:=.lst []) am).trans s0;have af:=s0 pt _ Ac;have bf:upd (upd (upd (upd H pt (.lst [])) p0 (.tup [])) p1 (.tup [.ref p0,v])) Y (.lst [.ref p1]) Y=some (.lst [.ref p1]):=Ac;have br:=s1 p0 _ Ac;have bv:=s2 p1 _ Ac;have au:pt≠Y:=λz=>by rw[z]at af;rw[Ac]at af;cases af
  have an:H Y=none:=((Same.upd (o:=.lst []) am).trans ((Same.upd (o:=.tup []) a8).put (o:=.tup [.ref p0,v]) aq)).free ak;refine⟨PlJ K H v t pt Y,⟨_,none,none,none,[],[.ref p1],[],[([],t)],rfl,af,bf,.nil,Al.nil.snoc ⟨p1,p0,v,rfl,SqT.of bv,br,ht.same sH⟩,by simp[Iw],rfl,sH⟩,?_⟩;rintro m cc H' ⟨v3,v4,v5,tv,wv,dn,st,rfl,et,ew,aj,a9,hw,rfl,sm⟩;have ca:dn.length+F4 st=t.size:=by
   have:=congrArg Sx hw;rw[Pn,K0]at this;exact this
  have b9:tv.length=dn.length:=aj.1;left;refine Zi7 (SqL.of ew) ?_;by_cases ba:wv=[]
  ·subst ba;have bh:st=[]:=R5 a9.1.symm;subst bh;refine iteF ?_;left;rw[Zme,Q0]at hw;rw[hw]at aj;exact q pt tv H' sm am et aj
  obtain⟨O,tp,I,x,rfl,rfl,bj,ay⟩:=a9.last ba;have b3:(!(O++[tp]).isEmpty)=true:=by simp
  rw[b3];refine iteT ?_;obtain⟨pl,tx⟩:=x;have hx:(pl,tx)∈walk [] t:=by rw[<- hw,Zcu];simp
  have b6:pl.length<=2000:=by have:=Zd6 [] t _ hx;simp at this;lia
  have ac:=Zqi I (pl,tx);have bx:=Zok (I++(C3 pl 0 tx.ps).reverse);refine⟨λbq H2=>∃m',m'<F4 (I++[(pl,tx)])/\PlJ K H v t pt Y m' bq H2,λ_ _ h=>h,?_⟩;left;refine B6 (SqL.of ew) ?_;refine K8 ew ?_;have t1:SameT H' (upd H' Y (.lst O)):=SameT.set ew;have ao:upd H' Y (.lst O) pt=some (.lst tv):=by rw[Af au];exact et
  left;refine B6 (SqL.of ao) ?_;left;refine Cw ao (by lia) ?_;have t2:SameT H' (upd (upd H' Y (.lst O)) pt (.lst (tv++[tp]))):=t1.trans (SameT.set ao);have ai:upd (upd H' Y (.lst O)) pt (.lst (tv++[tp])) pt=some (.lst (tv++[tp])):=Ac;have ah:upd (upd H' Y (.lst O)) pt (.lst (tv++[tp])) Y=some (.lst O):=by rw[Af au.symm,Ac]
  have as:Same H (upd (upd H' Y (.lst O)) pt (.lst (tv++[tp]))):=(sm.over an).over am;revert t2 ai ah as;generalize upd (upd H' Y (.lst O)) pt (.lst (tv++[tp]))=H3;intro t2 ai ah as;have aa:=RowT.same t2 _ _ ay;obtain⟨a,p,u,rfl,qa,qp,hu⟩:=id aa;cases hu with
  | @mk b pp wd nv n vs ts qb hn be hl b0 =>
  left;refine A1 qa rfl ?_;left;refine A1 qb rfl ?_;left;refine⟨pp,vs,rfl,be,λS ys H4 hS s4 ce al a7=>?_⟩;left;refine⟨S,ys,rfl,SqL.of a7,?_⟩;have bb:Y≠S:=C9 ah hS;have b5:pt≠S:=C9 ai hS;have bu:Al (RowT K H4) O I:=bj.mono (RowT.same (t2.trans s4.t));have a3:(C3 pl 0 ts).length=ys.length:=by rw[Zhh];lia
  refine Zh7 (K:=K) (a:=S) (xs:=ys) (λj ag H5=>eX3 λ(v4 v5:Option V)(U:List V)=>ag=[some v,some (.ref pt),some (.ref Y),some (.ref a),v4,v5]/\H5 pt=some (.lst (tv++[.ref a]))/\H5 Y=some (.lst U)/\H5 S=some (.lst ys)/\Al (RowT K H5) U (I++((C3 pl 0 ts).drop (ys.length-j)).reverse)/\SameT H4 H5/\Same H H5)
   ⟨_,_,O,rfl,s4 _ _ ai,s4 _ _ ah,a7,by rw[Ut,Sk (by lia)];simpa using bu,SameT.refl _,as.trans s4⟩ ?_ ?_ ?_
  ·rintro j ag H5 _ ⟨_,_,_,_,_,_,e,_⟩;exact SqL.of e
  ·rintro i y ag H5 hi hy ⟨bt,bn,U,rfl,ap,ae,a4,ad,t5,aw⟩;obtain⟨tt,xw,rfl,ax,bo⟩:=al _ _ hy;have a6:=(t5 tt).1 _ bo;left;refine Du (SqT.of a6) rfl ?_;left;refine B6 (SqL.of ae) ?_;left;have T5:SameT H3 H5:=s4.t.trans t5;refine A1 (T5.tup qa) rfl ?_;left;refine⟨Dl,λp6 h6=>?_⟩;refine Zbz (((T5.trans (SameT.new h6)) p).1 _ qp) Ac (by show(A2 pl).length+1<=sizeLine;unfold A2;rw[Pp];lia) λr H7 s7 q7=>?_;left;refine⟨Bt,λp7 h7=>?_⟩;left;have bw:Same H5 H7:=(Same.upd h6).trans s7;have Z:=bw.put (o:=.tup [.ref r,xw]) h7;have b7:U.length=I.length+((C3 pl 0 ts).drop (ys.length-i)).length:=by have:=ad.1;simp at this ⊢;lia
   have b8:(I++(C3 pl 0 ts).reverse).length=I.length+ys.length:=by rw[Pn,List.length_reverse,a3]
   have b4:(I++(C3 pl 0 ts).reverse).length<=2000:=by
    have h1:F4 (I++(C3 pl 0 (Tr.mk wd n ts).ps).reverse)<F4 (I++[(pl,Tr.mk wd n ts)]):=ac;have h2:(I++(C3 pl 0 (Tr.mk wd n ts).ps).reverse).length<=F4 (I++(C3 pl 0 (Tr.mk wd n ts).ps).reverse):=bx;have h3:(Tr.mk wd n ts).ps=ts:=rfl;rw[h3]at h1 h2;lia
   have cf:((C3 pl 0 ts).drop (ys.length-i)).length<=ys.length:=by rw[Sn];lia
   refine Cw (Z _ _ ae) (by lia) ?_;have av:=Z _ _ ae;have t9:SameT H5 (upd (upd H7 p7 (.tup [.ref r,xw])) Y (.lst (U++[.ref p7]))):=Z.t.trans (SameT.set av);obtain⟨tk,bp,bi⟩:∃tk,ts[ys.length-1-i]?=some tk/\TrAt K H3 xw tk:=by
    have hj:=(Ps.mp ax).1;have a0:ys.length-1-i<ts.length:=by lia
    exact⟨_,Pj a0,b0 _ _ _ ax (Pj a0)⟩
   have a5:(C3 pl 0 ts)[ys.length-1-i]?=some (pl++[ys.length-1-i],tk):=by
    rw[Zji,bp];simp
   refine⟨_,_,U++[.ref p7],rfl,?_,Ac,?_,?_,t5.trans t9,(aw.trans Z).over an⟩
   ·rw[Af au];exact Z _ _ ap
   ·rw[Af bb.symm];exact Z _ _ a4
   ·rw[Zsc a3 hi a5,<- Qf];refine(ad.mono (RowT.same t9)).snoc ⟨p7,r,xw,rfl,(SameT.set av).tup (SqT.of Ac),?_,bi.sameT (T5.trans t9)⟩;have q9:=(((SameT.new (o:=.tup [.ref r,xw]) h7).trans (SameT.set (o:=.lst (U++[.ref p7])) av)) r).1 _ q7;have e:A2 (pl++[ys.length-1-i])=A2 pl++[.int ((ys.length-1-i:Nat):Int)]:=by unfold A2;rw[Qi];rfl
    show upd _ _ _ r=some (.tup (A2 (pl++[ys.length-1-i])));rw[e];exact q9
  ·rintro ag H5 ⟨bt,bn,U,rfl,ap,ae,a4,ad,t5,aw⟩;rw[Q7,List.drop_zero]at ad;refine⟨_,ac,_,_,_,tv++[.ref a],U,dn++[(pl,.mk wd n ts)],_,rfl,ap,ae,?_,ad,?_,rfl,aw⟩
   ·exact(aj.mono (RowT.same (t2.trans (s4.t.trans t5)))).snoc (RowT.same (s4.t.trans t5) _ _ aa)
   ·rw[<- hw,Zcu,Qf];rfl
noncomputable def C6 (t:Tr)(pl:List Nat):Option (Str×Dt):=(C4 (walk [] t) pl).map λu=>(u.wd,Fw u)
theorem Ng (ha:H a=some (.ins C dx fs))(o:HO):SameT H (upd H a o):=λb=>⟨λxs h=>by
 have:b≠a:=λz=>by rw[z,ha]at h;cases h
 rw[Af this];exact h,λo u h=>by
 have:b≠a:=λz=>by rw[z,ha]at h;cases h
 rw[Af this];exact h⟩
def Zcj (K:Ph)(C:Addr):Sp:=λvs H Q _=>eX6 λ(m dx:Addr)(HB:Hp)(tv:V)(t:Tr)(n:Int)=>vs=[.ref m,tv,.int n]/\n<=500/\HB m=none/\HB dx=none/\dx≠m/\H=upd (upd HB dx (.own m)) m (.ins C dx [])/\TrAt K HB tv t/\t.size<=2000 /\
 ∀H' L kvs,L.m=m->MAt K HB C kvs L H' ⟨[],[],[],n⟩->FormsAt K H' kvs (C6 t)->Q .non H'
theorem Zqo:Bb pY pY (A5 Lg):=by walk_at "sc"
theorem Mg (h:tv σ H λy H1=>ta σ H1 λx H2=>eX4 λa C dx fs=>x=.ref a/\H2 a=some (.ins C dx fs)/\Cls K C/\NoAttr K C f/\fs.length<1000/\D.nx σ (upd H2 a (.ins C dx (Am f y fs)))):Zbe K ta tv f D σ H:=h
theorem Zqj (F:Fun K "__init__" "Machine.__init__" Lg f fd)(T:Txt K mg)(O:Mc K C)(C_placed_forms:Ba P w K mg base 1 "placed_forms" ["tree"] (Zf3 K))(MS_:Dj Aq P w K mg base 1 C "make_steps" ["self","many"] (Zdu K C)):FnOk P w K mg base Aq 2 f fd pY (Zcj K C):=by
 refine F.okq Zqo (λvs H Q E h=>?_) (λce A outer s H vs Q E hr h=>?_)
 ·obtain⟨m,dx,HB,tv,t,n,rfl,_⟩:=h;rfl
 ·obtain⟨m,dx,HB,tv,t,n,rfl,cg,bm,bd,b3,hH,ht,hz,q⟩:=h;refine⟨_,Ad (K5 K Ab (D5 (Zfv K hr.u200 rfl) T.dict (Av (Ay C_placed_forms hr.m (Av Ag)))))
   (Ad (K5 K Ab (Bk Bh)) (Ad (K5 K Ab (Bk Bh)) (Ad (K5 K Ab (Bk Bh)) (Ad (K5 K Ab Aa) (A3 (Bx (Dy (k:=1) K Aq pK Ab hr.m D8 (Av Az)))))))),?_⟩
  have bg:=big;have sB:Same HB H:=by
   rw[hH];exact(Same.upd bd).trans (Same.upd (by rw[Af (Pw b3)];exact bm))
  have im:H m=some (.ins C dx []):=by rw[hH];exact Ac
  clear hH;left;refine Mg ?_;left;refine⟨tv,t,rfl,ht.same sB,hz,λp rows H1 s1 cc e1 b6=>?_⟩;left;obtain⟨kvs,bn,look⟩:=Zpk (K:=K) (H:=H1) rows _ b6;refine⟨p,rows,rfl,SqL.of e1,.inr ⟨kvs,bn,λfd aw=>?_⟩⟩;have s2:Same H1 (upd H1 fd (.dT (Cg [] kvs))):=Same.upd aw;have e2:upd H1 fd (.dT (Cg [] kvs)) fd=some (.dT (Cg [] kvs)):=Ac;have ah:=s1.trans s2;have FA:FormsAt K (upd H1 fd (.dT (Cg [] kvs))) (Cg [] kvs) (C6 t):=by
   intro pl wd d hs;unfold C6 at hs;obtain⟨u,hu,e⟩:=Q3.mp hs;cases e;rcases look pl with⟨_,l2⟩|⟨v,u',l1,l2,tr⟩
   ·rw[hu]at l2;cases l2
   ·rw[hu]at l2;cases l2;have hm:=Zd6 [] t _ (Zm5 hu);simp only[Th,Sv]at hm;refine⟨by lia,v,u.ps,by rw[Zbs];exact l1,?_⟩;rw[<- Zgi];exact tr.same s2
  have Z:fd≠m:=λz=>by rw[z,s1 _ _ im]at aw;cases aw
  revert ah e2 FA;generalize upd H1 fd (.dT (Cg [] kvs))=H2;intro e2 ah FA;generalize hkv:Cg [] kvs=kv at *
  have bq:=sB.trans ah;have be:=ah _ _ im;refine⟨_,rfl,m,C,dx,_,rfl,be,O.cl,O.nf,by show 0<1000;decide,?_⟩;have a6:=FA.same (Ng be (.ins C dx (Am "forms" (.ref fd) [])));have ae:Same HB (upd H2 m (.ins C dx (Am "forms" (.ref fd) []))):=bq.over bm;have ak:upd H2 m (.ins C dx (Am "forms" (.ref fd) [])) m=some (.ins C dx (Am "forms" (.ref fd) [])):=Ac;have al:upd H2 m (.ins C dx (Am "forms" (.ref fd) [])) fd=some (.dT kv):=(Af Z).trans e2;revert a6 ae ak al;generalize upd H2 m (.ins C dx (Am "forms" (.ref fd) []))=H3;intro a6 ae ak al;left;refine Mg ?_;left;refine⟨Bg,λrd Y=>?_⟩;have s4:Same H3 (upd H3 rd (.lst [])):=Same.upd Y;have a8:upd H3 rd (.lst []) rd=some (.lst []):=Ac;have ad:rd≠m:=λz=>by rw[z,ak]at Y;cases Y
  have cf:fd≠rd:=λz=>by rw[<- z,al]at Y;cases Y
  have br:HB rd=none:=ae.free Y;revert s4 a8;generalize upd H3 rd (.lst [])=H4;intro s4 a8;have bp:=a6.same s4.t;have ca:=ae.trans s4;have bb:=s4 _ _ ak;have b0:=s4 _ _ al;refine⟨_,rfl,m,C,dx,_,rfl,bb,O.cl,O.nr,by show 1<1000;decide,?_⟩;have a7:=bp.same (Ng bb (.ins C dx (Am "rows" (.ref rd) (Am "forms" (.ref fd) []))));have am:Same HB (upd H4 m (.ins C dx (Am "rows" (.ref rd) (Am "forms" (.ref fd) [])))):=ca.over bm;have ai:upd H4 m (.ins C dx (Am "rows" (.ref rd) (Am "forms" (.ref fd) []))) m=some (.ins C dx (Am "rows" (.ref rd) (Am "forms" (.ref fd) []))):=Ac;have a9:upd H4 m (.ins C dx (Am "rows" (.ref rd) (Am "forms" (.ref fd) []))) fd=some (.dT kv):=(Af Z).trans b0;have ao:upd H4 m (.ins C dx (Am "rows" (.ref rd) (Am "forms" (.ref fd) []))) rd=some (.lst []):=(Af ad).trans a8;revert a7 am ai a9 ao;generalize upd H4 m (.ins C dx (Am "rows" (.ref rd) (Am "forms" (.ref fd) [])))=H5;intro a7 am ai a9 ao;left;refine Mg ?_;left;refine⟨Bg,λwd U=>?_⟩;have s6:Same H5 (upd H5 wd (.lst [])):=Same.upd U;have a0:upd H5 wd (.lst []) wd=some (.lst []):=Ac;have a5:wd≠m:=λz=>by rw[z,ai]at U;cases U
  have bo:rd≠wd:=λz=>by rw[<- z,ao]at U;cases U
  have bw:HB wd=none:=am.free U;revert s6 a0;generalize upd H5 wd (.lst [])=H6;intro s6 a0;have b5:=a7.same s6.t;have bv:=am.trans s6;have bf:=s6 _ _ ai;have bj:=s6 _ _ a9;have bi:=s6 _ _ ao;refine⟨_,rfl,m,C,dx,_,rfl,bf,O.cl,O.nw,by show 2<1000;decide,?_⟩;have av:=b5.same (Ng bf (.ins C dx (Am "waiting" (.ref wd) (Am "rows" (.ref rd) (Am "forms" (.ref fd) [])))));have aj:Same HB (upd H6 m (.ins C dx (Am "waiting" (.ref wd) (Am "rows" (.ref rd) (Am "forms" (.ref fd) []))))):=bv.over bm;have af:upd H6 m (.ins C dx (Am "waiting" (.ref wd) (Am "rows" (.ref rd) (Am "forms" (.ref fd) [])))) m=some (.ins C dx (Am "waiting" (.ref wd) (Am "rows" (.ref rd) (Am "forms" (.ref fd) [])))):=Ac;have a3:upd H6 m (.ins C dx (Am "waiting" (.ref wd) (Am "rows" (.ref rd) (Am "forms" (.ref fd) [])))) fd=some (.dT kv):=(Af Z).trans bj;have ag:upd H6 m (.ins C dx (Am "waiting" (.ref wd) (Am "rows" (.ref rd) (Am "forms" (.ref fd) [])))) rd=some (.lst []):=(Af ad).trans bi;have an:upd H6 m (.ins C dx (Am "waiting" (.ref wd) (Am "rows" (.ref rd) (Am "forms" (.ref fd) [])))) wd=some (.lst []):=(Af a5).trans a0;revert av aj af a3 ag an;generalize upd H6 m (.ins C dx (Am "waiting" (.ref wd) (Am "rows" (.ref rd) (Am "forms" (.ref fd) []))))=H7;intro av aj af a3 ag an;left;refine Mg ?_;left;refine⟨Bg,λtd I=>?_⟩;have s8:Same H7 (upd H7 td (.lst [])):=Same.upd I;have ap:upd H7 td (.lst []) td=some (.lst []):=Ac;have bh:td≠m:=λz=>by rw[z,af]at I;cases I
  have b7:rd≠td:=λz=>by rw[<- z,ag]at I;cases I
  have bu:wd≠td:=λz=>by rw[<- z,an]at I;cases I
  have bt:HB td=none:=aj.free I;revert s8 ap;generalize upd H7 td (.lst [])=H8;intro s8 ap;have b9:=av.same s8.t;have bx:=aj.trans s8;have ba:=s8 _ _ af;have b4:=s8 _ _ a3;have b8:=s8 _ _ ag;have cb:=s8 _ _ an;refine⟨_,rfl,m,C,dx,_,rfl,ba,O.cl,O.nt,by show 3<1000;decide,?_⟩;have au:=b9.same (Ng ba (.ins C dx (Am "things" (.ref td) (Am "waiting" (.ref wd) (Am "rows" (.ref rd) (Am "forms" (.ref fd) []))))));have as:Same HB (upd H8 m (.ins C dx (Am "things" (.ref td) (Am "waiting" (.ref wd) (Am "rows" (.ref rd) (Am "forms" (.ref fd) [])))))):=bx.over bm;have ac:upd H8 m (.ins C dx (Am "things" (.ref td) (Am "waiting" (.ref wd) (Am "rows" (.ref rd) (Am "forms" (.ref fd) []))))) m=some (.ins C dx (Am "things" (.ref td) (Am "waiting" (.ref wd) (Am "rows" (.ref rd) (Am "forms" (.ref fd) []))))):=Ac;have aq:upd H8 m (.ins C dx (Am "things" (.ref td) (Am "waiting" (.ref wd) (Am "rows" (.ref rd) (Am "forms" (.ref fd) []))))) fd=some (.dT kv):=(Af Z).trans b4;have ay:upd H8 m (.ins C dx (Am "things" (.ref td) (Am "waiting" (.ref wd) (Am "rows" (.ref rd) (Am "forms" (.ref fd) []))))) rd=some (.lst []):=(Af ad).trans b8;have ax:upd H8 m (.ins C dx (Am "things" (.ref td) (Am "waiting" (.ref wd) (Am "rows" (.ref rd) (Am "forms" (.ref fd) []))))) wd=some (.lst []):=(Af a5).trans cb;have a4:upd H8 m (.ins C dx (Am "things" (.ref td) (Am "waiting" (.ref wd) (Am "rows" (.ref rd) (Am "forms" (.ref fd) []))))) td=some (.lst []):=(Af bh).trans ap;revert au as ac aq ay ax a4;generalize upd H8 m (.ins C dx (Am "things" (.ref td) (Am "waiting" (.ref wd) (Am "rows" (.ref rd) (Am "forms" (.ref fd) [])))))=H9;intro au as ac aq ay ax a4;left;refine Mg ?_;left;refine⟨m,C,dx,_,rfl,ac,O.cl,O.ns,by show 4<1000;decide,?_⟩;obtain⟨L,hL⟩:∃L:Ml,L=⟨m,dx,fd,rd,wd,td⟩:=⟨_,rfl⟩;have M:MAt K HB C kv L (upd H9 m (.ins C dx (L.fs 0))) ⟨[],[],[],0⟩:=by
   subst hL;exact⟨as.over bm,bm,br,bw,bt,Ac,(Af Z).trans aq,bo,b7,bu,⟨[],(Af ad).trans ay,.nil,SepR.nil⟩,⟨[],(Af a5).trans ax,.nil⟩,⟨[],(Af bh).trans a4,.nil⟩⟩
  have aa:=au.same (Ng ac (.ins C dx (L.fs 0)));rw[show Am "steps" (.int 0) (Am "things" (.ref td) (Am "waiting" (.ref wd) (Am "rows" (.ref rd) (Am "forms" (.ref fd) []))))=L.fs 0 by subst hL;rfl];revert M aa;generalize upd H9 m (.ins C dx (L.fs 0))=ch;intro M aa;have hm:L.m=m:=by rw[hL]
  left;refine⟨_,rfl,m,C,L.dx,_,_,rfl,(by rw[<- hm];exact M.ins),(D4 L 0).1,MS_,?_⟩;left;refine⟨n,HB,kv,L,_,by rw[hm],M,by show(0:Int)+n<=500;lia,λH' e' M'=>?_⟩;left;have M':MAt K HB C kv L H' ⟨[],[],[],(0:Int)+n⟩:=M';rw[Sw]at M';exact q H' L kv hm M' (aa.same (M.t e'))
end
open K19
section
variable {P:Program}{w:World}{K:Ph}{mg:Str->Option Value}{base:Heap}
def Zjr:Sp:=λvs H Q _=>∃k:Int,vs=[.int k]/\Q (.bl true) H
theorem Zs9:Bb ["thing"] ["thing"] (A5 Me):=by walk_at "sc"
theorem Zmi (F:Fun K "is_whole" "is_whole" Me f fd)(T:Txt K mg):FnOk P w K mg base Aq 1 f fd ["thing"] Zjr:=by
 refine F.okq Zs9 (λvs H Q E h=>?_) (λI A outer s H vs Q E O h=>?_)
 ·obtain⟨k,rfl,_⟩:=h;rfl
 ·obtain⟨k,rfl,q⟩:=h;refine⟨_,An (Ga (B1 (B9 K "int") T.isinstance (Ah Ab (Ca (v:=.ty "int") (by rfl) T.int (by right) rfl))) (Gf (Zk9 (B1 (B9 K "bool") T.isinstance (Ah Ab (Ca (v:=.ty "bool") (by rfl) T.bool (by right) rfl)))))),?_⟩;left;refine B7 (.int _) Zt7 ?_;left;refine B7 (.int _) Zlo ?_;left;exact q
def Zjy (K:Ph):Sp:=λvs H Q _=>eX5 λ(v:V)(w:Str)(n:Dt)(ps:List Tr)(k:Nat)=>vs=[v,.int (k:Nat)]/\TrAt K H v (.mk w n ps)/\k<ps.length/\Q (.bl true) H
theorem Zpb:Bb pS pS (A5 Mb):=by walk_at "sc"
theorem Zoy (F:Fun K "has_part" "has_part" Mb f fd)(T:Txt K mg)(C_is_whole:Ba P w K mg base 1 "is_whole" ["thing"] Zjr):FnOk P w K mg base Aq 2 f fd pS (Zjy K):=by
 refine F.okq Zpb (λvs H Q E h=>?_) (λI A outer s H vs Q E hr h=>?_)
 ·obtain⟨v,w,n,ps,k,rfl,_⟩:=h;rfl
 ·obtain⟨v,w,n,ps,k,rfl,O,hk,q⟩:=h;refine⟨_,An (Ga (Ay C_is_whole hr.m (Av Ag)) (Gf (Zho Zgf Ey Aa Ag (Bz K T.len (Ai K Ab Aa))))),?_⟩;cases O with
  | @mk b pp _ nv _ Y _ U hn Z l aa =>
  left;refine⟨_,rfl,?_⟩;left;refine Be (λ_=>?_) (λc=>absurd (decide_eq_true (by lia)) c);left;refine A1 U rfl ?_;left;refine Ej Z ?_;left;have e:decide ((k:Int)<(Y.length:Int))=true:=decide_eq_true (by lia);rw[e];exact q
theorem Zit {α:Type}{xs:List α}{x:α}(h:xs[xs.length-1]?=some x):Cr xs (-1)=some x:=by
 have hl:=(Ps.mp h).1;unfold Cr F8;rw[if_neg (by lia),if_pos (by lia)];have e:((-1:Int)+(xs.length:Int)).toNat=xs.length-1:=by lia
 simpa [e] using h
theorem Zuo {α:Type}{xs:List α}{i:Int}{x:α}(j:Nat)(hj:(j:Int)=i)(h:xs[j]?=some x):Cr xs i=some x:=by
 have hl:=(Ps.mp h).1;subst hj;unfold Cr F8;rw[if_pos (by lia),if_pos (by lia)];simpa using h
theorem Zff {pl:List Nat}{i:Nat}{v:V}(h:(A2 pl)[i]?=some v):∃k,v=.int (k:Nat)/\pl[i]?=some k:=by
 unfold A2 at h;rw[Ql]at h;cases e:pl[i]? with
 |none=>rw[e]at h;cases h
 |some x=>rw[e]at h;exact⟨x,(Qg h).symm,rfl⟩
theorem Kf (pl:List Nat):(A2 pl).length=pl.length:=by unfold A2;simp
def Zdq (K:Ph):Sp:=λvs H Q _=>eX4 λ(v:V)(t:Tr)(p:Addr)(pl:List Nat)=>vs=[v,.ref p]/\TrAt K H v t/\SqT K H p (A2 pl)/\Sub t pl/\pl.length<=1000 /\
 ∀(q:Addr)(ws:List V)(H':Hp),H q=none->Same H H'->H' q=some (.lst ws)->Al (TrAt K H') ws (path t pl)->Q (.ref q) H'
theorem Zbw:Bb ["tree","place","passed","number"] pT (A5 M8):=by walk_at "sc"
theorem Zo5 (F:Fun K "forms_down_to" "forms_down_to" M8 f fd)(T:Txt K mg)(C_has_part:Ba P w K mg base 2 "has_part" ["form","number"] (Zjy K)):FnOk P w K mg base Aq 3 f fd pT (Zdq K):=by
 refine F.okq Zbw (λvs H Q E h=>?_) (λah A outer s H vs Q E hr h=>?_)
 ·obtain⟨v,t,p,pl,rfl,_⟩:=h;rfl
 ·obtain⟨v,t,p,pl,rfl,ht,hp,hs,hl,q⟩:=h;refine⟨_,Ad (Ao 2 Zbw (Bk (Av Ab)))
   (Ad (Dw Qk rfl (El K Ag) (Da 3 Zbw) (Ad (Ax (De (B0 (Ay C_has_part hr.m (Ah (Ai K Az (Ii Ir Aa)) A9)))) (A3 Zcw) A0) (A3 (Bx (Co K Pu Qd Qe C0 Az (Av (Ai K (Ai K (Ai K Az (Ii Ir Aa)) Aa) A9))))))) (An Az)),?_⟩
  have bg:=big;left;refine⟨Dl,λq0 Y=>?_⟩;obtain⟨H1,s1,e1,z9⟩:=Dq Y (.lst [v]);rw[z9];left;refine .inr (.inl ⟨p,rfl,⟨_,s1.tup hp⟩,?_⟩);have p0:(path t pl).take 1=[t]:=by
   have:=Zcv t pl;cases e:path t pl with
   |nil=>rw[e]at this;cases this
   |cons a r =>
    rw[e]at this;have h:a=t:=by simpa using this
    rw[h];rfl
  refine Zph (K:=K) (a:=p) (xs:=A2 pl) (λi O H'=>eX2 λw3 U=>O=[some v,some (.ref p),some (.ref q0),w3]/\H' q0=some (.lst U)/\Al (TrAt K H') U ((path t pl).take (i+1))/\Same H H') ⟨none,[v],rfl,e1,by rw[p0];exact Al.nil.snoc (ht.same s1),s1⟩ ?_ ?_ ?_
  ·rintro i O H' _ ⟨_,_,_,_,_,sm⟩;exact sm.tup hp
  ·rintro i x O H' hx ⟨w3,U,rfl,Z,al,sm⟩;obtain⟨k,rfl,hk⟩:=Zff hx;obtain⟨w',n',ps,u,a1,a2,a3⟩:=Zbr hs i k hk;have hi:=(Ps.mp hk).1;have ai:=Oa hs;have ag:U.length=i+1:=by rw[al.1,Qp];lia
   have af:((path t pl).take (i+1))[i]?=some (.mk w' n' ps):=by rw[List.getElem?_take,if_pos (by lia)];exact a1
   obtain⟨vi,ae,ad⟩:=al.get' af;have I:Cr U (-1)=some vi:=Zit (by rw[ag];exact ae);cases ad with
   | @mk b pp _ nv _ us _ qb hn qp l ac =>
   have aa:k<us.length:=by rw[l];exact(Ps.mp a2).1
   left;refine Bo (SqL.of Z) I ?_;left;refine⟨_,w',n',ps,k,rfl,.mk qb hn qp l ac,by lia,?_⟩;left;refine B6 (SqL.of Z) ?_;left;refine Bo (SqL.of Z) I ?_;left;refine A1 qb rfl ?_;left;refine A1 qp (Zuo k rfl (Pj aa)) ?_;left;refine Cw Z (by lia) ?_;left;have t3:SameT H' (upd H' q0 (.lst (U++[us[k]]))):=SameT.set Z;refine⟨_,U++[us[k]],rfl,Ac,?_,sm.over Y⟩;have e3:(path t pl).take (i+1+1)=(path t pl).take (i+1)++[u]:=by rw[Sa,a3];rfl
   rw[e3];exact(al.mono λ_ _ z=>z.sameT t3).snoc ((ac k _ u (Pj aa) a2).sameT t3)
  ·rintro O H' ⟨w3,U,rfl,Z,al,sm⟩;rw[Kf,Rs (by rw[Oa hs];lia)]at al;left;exact q q0 U H' Y sm Z al
def Zhm (K:Ph):Sp:=λvs H Q _=>eX7 λ(v u:V)(w:Str)(n:Dt)(ps:List Tr)(tu:Tr)(k:Nat)=>vs=[v,.int (k:Nat),u]/\TrAt K H v (.mk w n ps)/\TrAt K H u tu/\k<ps.length/\ps.length<=1000 /\
 ∀(v':V)(H':Hp),Same H H'->TrAt K H' v' (.mk w n (ps.set k tu))->Q v' H'
theorem Zmj {α:Type}{xs:List α}{k:Nat}{x:α}(h:k<xs.length):xs.take k++[x]++xs.drop (k+1)=xs.set k x:=by
 rw[List.set_eq_take_append_cons_drop,if_pos h,Qf];rfl
theorem Zi4:Bb ["form","number","part","parts"] ["form","number","part"] (A5 Zad):=by walk_at "sc"
theorem Zuv (F:Fun K "with_part" "with_part" Zad f fd)(T:Txt K mg):FnOk P w K mg base Aq 1 f fd ["form","number","part"] (Zhm K):=by
 refine F.okq Zi4 (λvs H Q E h=>?_) (λaa A outer s H vs Q E hr h=>?_)
 ·obtain⟨v,u,w,n,ps,tu,k,rfl,_⟩:=h;rfl
 ·obtain⟨v,u,w,n,ps,tu,k,rfl,ht,hu,hk,hl,q⟩:=h;refine⟨_,Ad (Ao 3 Zi4 (Ai K Ab Aa))
   (An (Ak (Bc (Ai K Ab Aa) (Ai K Ab Aa) (Ae (B5 K) (Ae (B5 K) (Eh (Zjf K) A9 Fz (Ci Ag)) (Ak (Av Az))) (Eh (Zjf K) A9 (Ci (Ae (B5 K) Ag Aa)) Fz))))),?_⟩
  have bg:=big;cases ht with
  | @mk b pp _ nv _ us _ U hn qp l Y =>
  left;refine A1 U rfl ?_;left;refine A1 U rfl ?_;left;refine A1 U rfl ?_;left;refine Zkt qp λr1 H1 s1 q1=>?_;rw[Zoc]at q1;left;refine⟨Dl,λp2 h2=>?_⟩;have s2:=Same.upd (o:=.tup [u]) h2;refine Zfg (s2.tup q1) (SqT.of Ac) (by rw[Qp];show _+1<=sizeLine;lia) λr3 H3 s3 q3=>?_;have I:=s1.trans (s2.trans s3);left;refine Zkt (I.tup qp) λr4 H4 s4 q4=>?_;have ek:(k:Int)+1=((k+1:Nat):Int):=by lia
  rw[ek,Zdz]at q4;refine Zfg (s4.tup q3) q4 (by rw[Pn,Qp,Sn];show _+1+_<=sizeLine;lia) λr5 H5 s5 Z=>?_;rw[Zmj (by lia)]at Z;left;refine⟨Br,λp6 h6=>?_⟩;have s6:=Same.upd (o:=.tup [.str w,nv,.ref r5]) h6;have O:=I.trans (s4.trans (s5.trans s6));refine q (.ref p6) _ O (.mk (SqT.of Ac) (hn.same O.t) (s6.tup Z) (by rw[Te,Te];exact l) λj x y g1 g2=>?_);by_cases e:k=j
  ·subst e;rw[Rr (by lia)]at g1 g2;cases g1;cases g2;exact hu.same O
  ·rw[T8 e]at g1 g2;exact(Y j x y g1 g2).same O
def Zh6 (K:Ph):Sp:=λvs H Q _=>eX6 λ(v u:V)(t tu:Tr)(p:Addr)(pl:List Nat)=>vs=[v,.ref p,u]/\TrAt K H v t/\SqT K H p (A2 pl)/\Sub t pl/\pl.length<=1000/\t.size<=1000/\TrAt K H u tu /\
 ∀(v':V)(H':Hp),Same H H'->TrAt K H' v' (withAt t pl tu)->Q v' H'
theorem Zv5 (s:Sub t pl):∀u∈path t pl,u.size<=t.size:=by
 induction s with
 |nil t=>intro u I;cases t;rw[path,P7]at I;rw[I];exact Pl _
 |cons O _ U =>
  intro u I;rw[Lu O]at I;rcases Pr.mp I with rfl|I
  ·exact Pl _
  ·have:=U u I;have:=K3 O;rw[Tr.size];lia
theorem Zat:Bb ["tree","place","form","made","number","above"] ["tree","place","form"] (A5 Ox):=by walk_at "sc"
theorem Zlu (F:Fun K "with_at" "with_at" Ox f fd)(T:Txt K mg)(C_forms_down_to:Ba P w K mg base 3 "forms_down_to" ["tree","place"] (Zdq K))(C_with_part:Ba P w K mg base 1 "with_part" ["form","number","part"] (Zhm K)):FnOk P w K mg base Aq 4 f fd ["tree","place","form"] (Zh6 K):=by
 refine F.okq Zat (λvs H Q E h=>?_) (λam A outer s H vs Q E hr h=>?_)
 ·obtain⟨v,u,t,tu,p,pl,rfl,_⟩:=h;rfl
 ·obtain⟨v,u,t,tu,p,pl,rfl,ht,hp,hs,hl,hz,hu,q⟩:=h;refine⟨_,Ad (Ao 3 Zat Az)
   (Ad (Dw Qk rfl (Zjz K rfl T.reversed (Av (Zv6 K (by rfl) T.list (by rfl) T.zip (Ah Ag (Ay C_forms_down_to hr.m (Ah Ab Ag)))))) (Gj K Zat 4 5) (A3 (Ao 3 Zat (Ay C_with_part hr.m (Bc (qv 5) A6 A9))))) (An A9)),?_⟩
  have af:=Oa hs;left;refine⟨v,t,p,pl,rfl,ht,hp,hs,hl,λq1 ws H1 ak s1 e1 al=>?_⟩;left;refine⟨p,q1,_,ws,rfl,s1.tup hp,SqL.of e1,λS zs H2 hS s2 O Y ac=>?_⟩;have O:zs.length=pl.length:=by rw[O,Kf,al.1,af];lia
  left;refine⟨S,zs,rfl,SqL.of ac,?_⟩;have ad:=s1.trans s2;have U:(path t pl)[pl.length]?=some ((path t pl)[pl.length]'(by lia)):=Pj (by lia);refine Zh7 (K:=K) (a:=S) (xs:=zs) (λj Z H'=>eX4 λw4 w5 m tm=>Z=[some v,some (.ref p),some u,some m,w4,w5]/\(path t pl)[pl.length-j]?=some tm/\TrAt K H' m (withAt tm (pl.drop (pl.length-j)) tu)/\Same H2 H') ⟨none,none,u,_,rfl,U,by rw[Ut,Sk (Pl _),with_nil];exact hu.same ad,Same.refl _⟩ ?_ ?_ ?_
  ·rintro j Z H' _ ⟨_,_,_,_,_,_,_,sm⟩;exact SqL.of (sm _ _ ac)
  ·rintro j z Z H' hj aj ⟨w4,w5,m,tm,rfl,I,hm,sm⟩;obtain⟨tt,x,y,rfl,hx,hy,ah⟩:=Y _ _ aj;obtain⟨k,rfl,hk⟩:=Zff hx;obtain⟨w',n',ps,u',a1,a2,a3⟩:=Zbr hs _ k hk;rw[O]at hk a1 a3 hy hj;obtain⟨ty,aa,ag⟩:=al.get hy;rw[a1]at aa;cases aa;have e2:pl.length-1-j+1=pl.length-j:=by lia
   rw[e2,I]at a3;cases a3;have ae:ps.length<=1000:=by
    have:=Zv5 hs _ (Qs a1);rw[Tr.size]at this;have:=Nz ps;lia
   left;refine Du (SqT.of (sm _ _ ah)) rfl ?_;left;refine⟨y,m,w',n',ps,_,k,rfl,ag.same (s2.trans sm),hm,(Ps.mp a2).1,ae,λv' H3 s3 ai=>?_⟩;left;have e3:pl.length-(j+1)=pl.length-1-j:=by lia
   refine⟨_,_,v',_,rfl,by rw[e3];exact a1,?_,sm.trans s3⟩;rw[e3,Zur hs _ k w' n' ps tm hk a1 (by rw[e2];exact I),e2];exact ai
  ·rintro Z H' ⟨w4,w5,m,tm,rfl,I,hm,sm⟩;rw[O,Q7]at I hm;rw[Zcv]at I;cases I;left;exact q m H' (ad.trans sm) hm
def Ze1 (K:Ph):Sp:=λvs H Q _=>eX5 λ(v:V)(t:Tr)(p:Addr)(pl:List Nat)(tx:Tr)=>vs=[v,.ref p]/\TrAt K H v t/\SqT K H p (A2 pl)/\Sub t pl/\pl.length<=1000/\(path t pl)[pl.length]?=some tx /\
 ∀(u:V)(H':Hp),Same H H'->TrAt K H' u tx->Q u H'
theorem Zp6:Bb pT pT (A5 Oy):=by walk_at "sc"
theorem Zsf (F:Fun K "form_at" "form_at" Oy f fd)(T:Txt K mg)(C_forms_down_to:Ba P w K mg base 3 "forms_down_to" ["tree","place"] (Zdq K)):FnOk P w K mg base Aq 4 f fd pT (Ze1 K):=by
 refine F.okq Zp6 (λvs H Q E h=>?_) (λaa A outer s H vs Q E hr h=>?_)
 ·obtain⟨v,t,p,pl,tx,rfl,_⟩:=h;rfl
 ·obtain⟨v,t,p,pl,tx,rfl,ht,hp,Y,hl,hx,q⟩:=h;refine⟨_,An (Ai K (Ay C_forms_down_to hr.m (Ah Ab Ag)) (Ii Ir Aa)),?_⟩;have I:=Oa Y;left;refine⟨v,t,p,pl,rfl,ht,hp,Y,hl,λq1 ws H1 ac s1 e1 Z=>?_⟩;obtain⟨u,hu,U⟩:=Z.get' hx;have O:ws.length-1=pl.length:=by rw[Z.1,I];lia
  left;refine Bo (SqL.of e1) (Zit (by rw[O];exact hu)) ?_;exact q u H1 s1 U
def Zh4 (K:Ph):Sp:=λvs H Q _=>eX3 λ(v:V)(d:Dt)(ts:List Tr)=>vs=[v]/\TrAt K H v (.mk "gap" d ts)/\Q .non H
theorem Zqf:Bb ["form"] ["form"] (A5 Zam):=by walk_at "sc"
theorem Zv1 (F:Fun K "refuse_no_gap" "refuse_no_gap" Zam f fd)(T:Txt K mg):FnOk P w K mg base Aq 1 f fd ["form"] (Zh4 K):=by
 refine F.okq Zqf (λvs H Q E h=>?_) (λI A outer s H vs Q E Z h=>?_)
 ·obtain⟨v,d,ts,rfl,_⟩:=h;rfl
 ·obtain⟨v,d,ts,rfl,O,q⟩:=h;refine⟨_,A3 (Ax (Bp (Fq K Z.u200) (Ai K Ab Aa) Aj) (A3 Zcw) A0),?_⟩;cases O with
  | @mk b pp _ nv _ us _ U hn qp l Y =>
  left;refine A1 U rfl ?_;left;rw[decide_eq_true (Eq.refl _)];left;exact q
open K19 in
inductive Gw (sub:List Nat->Option (Str×Dt))(fl:List Nat):List Rx->List (Str×V)->MS->Option (List (Str×V)×MS)->Prop where
 |nil {bc:List (Str×V)} {S:MS}:Gw sub fl [] bc S (some (bc,S))
 |cons {r:Rx} {rs:List Rx} {bc:List (Str×V)} {S S1:MS} {x:Str×V} {o:Option (List (Str×V)×MS)} (hs:S.rows.length<9000) (ht:S.things.length<8000) (ok:Nc bc.length r) (h1:RowG sub fl bc r S S1 x) (h2:Gw sub fl rs (bc++[x]) S1 o):Gw sub fl (r::rs) bc S o
 |late {r:Rx} {rs:List Rx} {bc:List (Str×V)} {S:MS} (hs:S.rows.length<9000) (ht:S.things.length<8000) (ok:Nc bc.length r) (h1:Jm sub fl bc r S none):Gw sub fl (r::rs) bc S none
theorem RunM.wait (h:RunM sub n S S'):S'.wait=[]:=by
 induction h with
 |nil h=>exact h
 |cons _ _ _ I=>exact I
theorem RowG.wait (h:RowG sub fl bc r S S' x)(hw:S.wait=[]):S'.wait=[]:=by
 cases h with
 |fill _ R _=>exact R.wait
 |parts _ _ _ R _=>exact R.wait
 |new _ _ _=>exact hw
theorem Jj (H:Hp)(b:Addr)(o o':HO):upd (upd H b o) b o'=upd H b o':=by
 funext c;by_cases e:c=b
 ·rw[e,Ac,Ac]
 ·rw[Af e,Af e,Af e]
theorem _root_.L2.MAt.re (M:MAt K HB C kvs L H S)(hb:H b=none\/∃ys,HB b=some (.lst ys))(hw:S.wait=[]):MAt K (upd HB b (.lst xs)) C kvs L (upd H b (.lst xs)) S:=by
 obtain⟨rv,Z,ar,sp⟩:=M.rows;obtain⟨wv,ew,aw⟩:=M.wait;obtain⟨tv,et,U⟩:=M.things;have O:wv=[]:=R5 (by rw[aw.1,hw];rfl);subst O;have n1:L.m≠b:=by
  rintro rfl;rcases hb with h|⟨ys,h⟩
  ·rw[M.ins]at h;cases h
  ·rw[M.nm]at h;cases h
 have n2:L.rd≠b:=by
  rintro rfl;rcases hb with h|⟨ys,h⟩
  ·rw[Z]at h;cases h
  ·rw[M.nr]at h;cases h
 have Y:L.wd≠b:=by
  rintro rfl;rcases hb with h|⟨ys,h⟩
  ·rw[ew]at h;cases h
  ·rw[M.nw]at h;cases h
 have n4:L.td≠b:=by
  rintro rfl;rcases hb with h|⟨ys,h⟩
  ·rw[et]at h;cases h
  ·rw[M.nt]at h;cases h
 have n5:L.fd≠b:=by
  rintro rfl;rcases hb with h|⟨ys,h⟩
  ·rw[M.frm]at h;cases h
  ·have:=M.frm;rw[M.base _ _ h]at this;cases this
 have I:SameA (λc=>L.A c\/upd HB b (.lst xs) c≠none) H (upd H b (.lst xs)):=by
  rcases hb with h|⟨ys,h⟩
  ·exact(Same.upd h).a
  ·exact SameA.set (M.base _ _ h) (.inr (by rw[Ac];simp))
 have mo:∀c,(L.A c\/upd HB b (.lst xs) c≠none)->H c≠none->(L.A c\/HB c≠none):=by
  intro c hc hn;rcases hc with z|z
  ·exact .inl z
  ·refine .inr ?_;by_cases e:c=b
   ·rcases hb with h|⟨ys,h⟩
    ·rw[e,h]at hn;exact absurd rfl hn
    ·rw[e,h];simp
   ·rw[Af e]at z;exact z
 refine⟨λc o h=>?_,(Af n1).trans M.nm,(Af n2).trans M.nr,(Af Y).trans M.nw,(Af n4).trans M.nt,(Af n1).trans M.ins,(Af n5).trans M.frm,M.rw,M.rt,M.wt,⟨rv,(Af n2).trans Z,(ar.mono (RwX.mono mo)).mono (RwX.same I),(sp.mono mo).same I⟩,⟨[],(Af Y).trans ew,by rw[hw];exact .nil⟩,⟨tv,(Af n4).trans et,U.mono (ThAt.same I.1)⟩⟩;by_cases e:c=b
 ·rw[e]at h ⊢;rw[Ac]at h ⊢;exact h
 ·rw[Af e]at h ⊢;exact M.base _ _ h
open K19 in
def Nq (K:Ph)(TL:Addr):Sp:=λvs H Q E=>eX16 λ(tv fv av:V)(t tf:Tr)(p q0 rd:Addr)(fl:List Nat)(d:Dt)(gs:List Tr)(n:Int)(rv:List V)(rs:List Rx)(xa:Str×V)(oo:Option (List (Str×V)×MS))=>vs=[tv,.ref q0,.ref p,fv]/\TrAt K H tv t/\t.size<=1000/\SqT K H p (A2 fl)/\Sub t fl/\fl.length<=1000/\(path t fl)[fl.length]?=some (.mk "gap" d gs)/\TrAt K H fv tf/\(withAt t fl tf).size<=2000/\SqT K H q0 [av,.ref rd,.int n]/\n<=500/\H rd=some (.lst rv)/\Al (RwX K (λb=>b=rd) H) rv rs/\rs.length<=9000/\ThAt K H av xa/\Gw (C6 (withAt t fl tf)) fl rs [] ⟨[],[],[],n⟩ oo /\
 (∀bc S',oo=some (bc,S')->K6 bc.length xa/\∀(r' rd':Addr)(av':V)(rv':List V)(H':Hp),Same H H'->SqT K H' r' [av',.ref rd',.int S'.steps]->ThAt K H' av' (A7 bc xa)->H' rd'=some (.lst rv')->Al (RwX K (λb=>b=rd'\/H b≠none) H') rv' S'.rows->SepR K (λb=>b=rd'\/H b≠none) H' rv' S'.rows->H rd'=none->Q (.ref r') H')/\(oo=none->∀H',Same H H'->E (.ref TL) none H')
theorem Nm:Bb ["tree","record","place","form","answer","rows","steps","machine","became","row"] qA (A5 Zau):=by walk_at "sc"
open K19 in
theorem Zte (F:Fun K "go_on" "go_on" Zau f fd)(T:Txt K mg)(O:Mc K C)(C_refuse_no_gap:Ba P w K mg base 1 "refuse_no_gap" ["form"] (Zh4 K))(C_form_at:Ba P w K mg base 4 "form_at" ["tree","place"] (Ze1 K))(C_with_at:Ba P w K mg base 4 "with_at" ["tree","place","form"] (Zh6 K))(C_thing_now:Ba P w K mg base 1 "thing_now" ["thing","became"] (Zdp K))(C_thing_of_row:Kq P w K mg base 7 "thing_of_row" ["machine","row","filled","became"] (Zgz K C TL))(MK_Machine:Zc4 Aq P w K mg base 2 "Machine" C pY (Zcj K C)):FnOk P w K mg base (B3 P w) 8 f fd qA (Nq K TL):=by
 refine F.okx Nm (λvs H Q E h=>?_) (λbf A outer s H vs Q E hr h=>?_)
 ·obtain⟨tv,fv,av,t,tf,p,q0,rd,fl,d,gs,n,rv,rs,xa,oo,rfl,_⟩:=h;rfl
 ·obtain⟨tv,fv,av,t,tf,p,q0,rd,fl,d,gs,n,rv,rs,xa,oo,rfl,ht,hz,hp,hs,hl,hg,hf,a9,hq,hn,aj,au,be,ay,G,q,qL⟩:=h;refine⟨_,Ad (Bx (Ay C_refuse_no_gap hr.m (Av (Ay C_form_at hr.m (Ah Ab Az)))))
   (Ad (Ek Ag (Ks K Nm 4 5 6)) (Ad (Ao 7 Nm (Zqw MK_Machine hr.m D8 (Ah (Ay C_with_at hr.m (Bc Ab Az A9)) (qv 6)))) (Ad (Ao 8 Nm (Bk Bh)) (Ad (Dw PassesOwn.leaving rfl (El K (qv 5)) (Da 9 Nm) (A3 (Bx (Co K Pu Qd Qe C0 (qv 8) (Av (Zqy C_thing_of_row hr.m (Jp (λ_ _ _ h=>h)) (Dh (qv 7) (qv 9) Az (qv 8)))))))) (An (Ak (Bc (Ay C_thing_now hr.m (Ah A6 (qv 8))) (Ck K (qv 7)) (Ck K (qv 7))))))))),?_⟩
  have bg:=big;left;refine⟨tv,t,p,fl,_,rfl,ht,hp,hs,hl,hg,λu H1 s1 tu=>?_⟩;left;refine⟨u,d,gs,rfl,tu,?_⟩;left;refine Du (s1.tup hq) rfl ?_;left;unfold tNew;left;refine⟨tv,fv,t,tf,p,fl,rfl,ht.same s1,s1.tup hp,hs,hl,hz,hf.same s1,λv' H2 s2 ba=>?_⟩;have U:=s1.trans s2;left;intro m dx h1 h2 h3;refine⟨m,dx,H2,v',_,n,rfl,hn,h1,h2,h3,rfl,ba,a9,λH3 L kvs hm M FA=>⟨rfl,?_⟩⟩;subst hm;left;refine⟨Bg,λb hb=>?_⟩;have M0:=M.re (xs:=[]) (.inl hb) rfl;have Y:H2 b=none:=by
   cases h:H2 b with
   |none=>rfl
   |some o=>rw[M.base _ _ h]at hb;cases hb
  have sB:Same H2 (upd H2 b (.lst [])):=Same.upd Y;have bb:=FA.same (Same.upd (o:=.lst []) hb).t;have a0:rd≠b:=λz=>by rw[<- z,U _ _ aj]at Y;cases Y
  have a3:=U.tup hp;have ac:=au.mono (RwX.same U.a);have ac:Al (RwX K (λ_=>False) H2) rv rs:=ac.mono (RwX.mono λb hb _=>hb.elim);have am:∀xs,Al (RwX K (λ_=>False) (upd H2 b (.lst xs))) rv rs:=λxs=>ac.mono (RwX.same (Same.upd Y).a);left;refine .inl ⟨rd,rfl,⟨_,SqL.of (((M.base.trans (Same.upd hb))) _ _ (U _ _ aj))⟩,?_⟩;refine Jz (K:=K) (a:=rd) (xs:=rv) (λi ae H'=>eX5 λv9 bv I Si t'=>ae=[some tv,some (.ref q0),some (.ref p),some fv,some av,some (.ref rd),some (.int n),some (.ref L.m),some (.ref b),v9]/\MAt K (upd H2 b (.lst bv)) C kvs (L.with t') H' Si/\Al (ThAt K H') bv I/\FormsAt K H' kvs (C6 (withAt t fl tf))/\Si.wait=[]/\I.length=i/\Gw (C6 (withAt t fl tf)) fl (rs.drop i) I Si oo) ⟨none,[],[],_,L.td,rfl,M0,.nil,bb,rfl,rfl,G⟩ ?_ ?_ ?_
  ·rintro i ae H' _ ⟨_,bv,_,_,_,_,M',_⟩;exact SqL.of (M'.base _ _ ((Af a0).trans (U _ _ aj)))
  ·rintro i y ae H4 hy ⟨v9,bv,I,Si,t',rfl,Mi,Z,af,ah,ak,Gi⟩;obtain⟨r,ai,a6⟩:=(am bv).get hy;have an:=(Ps.mp ai).1;have dr:rs.drop i=r::rs.drop (i+1):=by
    rw[Sj an]
    congr 1
    rw[Pj an]at ai;exact Qg ai
   rw[dr]at Gi;have bh:=Z.1;have ex:∃o,Jm (C6 (withAt t fl tf)) fl I r Si o/\Si.rows.length<9000/\Si.things.length<8000/\Nc I.length r/\(o=none->oo=none)/\∀S1 x,o=some (S1,x)->S1.wait=[]/\Gw (C6 (withAt t fl tf)) fl (rs.drop (i+1)) (I++[x]) S1 oo:=by
    cases Gi with
    | @cons _ _ _ _ S1 x _ aa ad ok G1 G2 =>
     refine⟨_,.ok G1,aa,ad,ok,⟨λz=>?_,λS2 x2 e=>?_⟩⟩
     ·cases z
     ·cases e;exact⟨G1.wait ah,G2⟩
    |late aa ad ok R1 =>
     refine⟨_,R1,aa,ad,ok,⟨λ_=>rfl,λS2 x2 e=>?_⟩⟩;cases e
   obtain⟨o,G1,aa,ad,ok,oN,oS⟩:=ex;left;refine B6 (SqL.of (Mi.base _ _ Ac)) ?_;left;refine⟨y,p,b,r,fl,bv,I,_,kvs,L.with t',Si,_,o,rfl,Mi,a6,(Same.upd Y).tup a3,Ac,Z,ok,af,aa,by rw[ah];decide,ad,G1,λS1 x eo v H5 t5 e5 M5 ag=>?_,λeo H' e'=>qL (oN eo) H' (U.trans ((Same.upd Y).trans e'))⟩;obtain⟨ao,G2⟩:=oS _ _ eo;left;refine Cw (M5.base _ _ Ac) (by lia) ?_;have M6:=M5.re (b:=b) (xs:=bv++[v]) (.inr ⟨bv,Ac⟩) ao;rw[Jj]at M6;have ap:SameT H5 (upd H5 b (.lst (bv++[v]))):=SameT.set (M5.base _ _ Ac);have as:=(Mi.t e5).trans ap;refine⟨_,bv++[v],I++[x],S1,t5,rfl,M6,(Z.mono (ThAt.same as)).snoc (ThAt.same ap _ _ ag),af.same as,ao,by rw[Pn,ak];rfl,G2⟩
  ·rintro ae H4 ⟨v9,bv,I,Si,t',rfl,Mi,Z,af,ah,ak,Gi⟩;rw[Sk (by rw[au.1];exact Pl _)]at Gi;cases Gi;obtain⟨ax,q⟩:=q _ _ rfl;have a5:Same H2 H4:=(Same.upd Y).trans Mi.base;have aq:=U.trans a5;left;refine⟨av,b,bv,xa,_,rfl,ThAt.same aq.t _ _ ay,SqL.of (Mi.base _ _ Ac),Z,ax,λv5 ag=>?_⟩;obtain⟨a8,a4,a7,al⟩:=Mi.rows;left;refine⟨_,rfl,L.m,C,L.dx,_,_,rfl,Mi.ins,O.cl,O.nr,Nb (L.with t') _,?_⟩;left;refine⟨_,rfl,L.m,C,L.dx,_,_,rfl,Mi.ins,O.cl,O.ns,Mq (L.with t') _,?_⟩;left;refine⟨Br,λr' aw=>?_⟩;have s5:Same H4 (upd H4 r' (.tup [v5,.ref L.rd,.int Si.steps])):=Same.upd aw;have mo:∀c,(c=L.rd\/H c≠none)->H4 c≠none->((L.with t').A c\/upd H2 b (.lst bv) c≠none):=by
    intro c hc _;rcases hc with z|z
    ·exact .inl (.inl z)
    ·refine .inr ?_;cases h:H c with
     |none=>exact absurd h z
     |some o=>rw[(U.trans (Same.upd Y)) _ _ h];simp
   refine q r' L.rd v5 a8 _ (aq.trans s5) (SqT.of Ac) (ThAt.same s5.t _ _ ag) (s5 _ _ a4) ((a7.mono (RwX.mono mo)).mono (RwX.same s5.a)) ((al.mono mo).same s5.a) ?_;cases h:H L.rd with
   |none=>rfl
   |some o=>have:=(U.trans (Same.upd (o:=.lst bv) Y)) _ _ h;rw[show upd H2 b (.lst bv) L.rd=none from Mi.nr]at this;cases this
end
noncomputable abbrev Ar:=List (Str×Str×V)
noncomputable def Cq (wd:Str):Int:=if wd="gap" then 0 else 1
noncomputable def C7 (l:List Int):List Nat:=l.map Int.toNat
theorem Fi (pl:List Nat):C7 (Ap pl)=pl:=by
 unfold C7 Ap;rw[Uu];exact(Ub λ_ _=>by simp).trans (List.map_id _)
noncomputable def TWO:List Str:=["plus","minus","less","call"]
noncomputable def Ef (wd:Str)(pl:List Nat)(rs:List Rx)(x y:Str×V):(Str×V)×List Rx :=
 if wd∈Ho/\x.1="num"/\y.1="num" then (E4 wd (Ez x.2) (Ez y.2),rs) else ((("row":Str),.int (rs.length:Nat)),rs++[⟨wd,Ap pl,[x,y],[]⟩])
noncomputable def Nf (sub:List Nat->Option (Str×Dt))(rs:List Rx)(x y:Str×V):Option (List Nat×Ar):=match x.2 with
 |.int k=>(rs[k.toNat]?).bind λr=>(sub (C7 r.pl)).map λf=>(C7 r.pl++[0],r.ar++Cd (Dc f.1 f.2 0) (if r.wd="rec" then [x,y] else [y]))
 |_=>none
noncomputable def Ct (wd:Str)(d:Dt)(pl:List Nat)(ar:Ar)(rs:List Rx):(Str×V)×List Rx:=((Db ⟨rs,[],[],0⟩ wd (Es d) pl ar).1,(Db ⟨rs,[],[],0⟩ wd (Es d) pl ar).2.rows)
noncomputable abbrev Er:=(Str×V)×List Rx×Int
def TOk (n:Nat)(x:Str×V):Prop:=(x.1="num" /\ ∃i,x.2=.int i)\/(x.1="truth" /\ ∃b,x.2=.bl b)\/(x.1="row" /\ ∃k:Nat,x.2=.int (k:Nat)/\k<n)
def AOk (n:Nat)(ar:Ar):Prop:=∀y∈ar,TOk n y.2
theorem TOk.up (h:TOk n x)(e:n<=m):TOk m x:=by
 rcases h with h|h|⟨h,k,h1,h2⟩
 ·exact .inl h
 ·exact .inr (.inl h)
 ·exact .inr (.inr ⟨h,k,h1,by lia⟩)
theorem AOk.up (h:AOk n ar)(e:n<=m):AOk m ar:=λy I=>(h y I).up e
structure Shp (sub:List Nat->Option (Str×Dt))(r:Rx):Prop where
 s:∃d,sub (C7 r.pl)=some (r.wd,d)
 p:r.pl=Ap (C7 r.pl)
 t:r.wd∈TWO->eX2 λx y=>r.ops=[x,y]
 i:r.wd="if" -> ∃x,r.ops=[x]
 l:r.wd≠"let"
theorem Shp.mk1 (hs:sub pl=some (wd,d))(t:wd∈TWO->eX2 λx y=>ops=[x,y])(i:wd="if" -> ∃x,ops=[x])(l:wd≠"let"):Shp sub ⟨wd,Ap pl,ops,ar⟩:=⟨⟨d,by show sub (C7 (Ap pl))=_;rw[Fi];exact hs⟩,by show Ap pl=Ap (C7 (Ap pl));rw[Fi],t,i,l⟩
def RsOk (sub:List Nat->Option (Str×Dt))(rs:List Rx)(st:Int):Prop:=∀(k:Nat)(r:Rx),rs[k]?=some r->(AOk k r.ar/\∀x∈r.ops,TOk k x)/\(r.pl.length<=5000/\r.ops.length<=2/\(r.ar.length:Int)<=2*st+200)/\(r.wd∈(["fn","rec"]:List Str)->(r.ar.length:Int)+2<=2*st+200)/\Shp sub r
def RLt (rs:List Rx):Prop:=∀(k:Nat)(r:Rx),rs[k]?=some r->AOk k r.ar/\∀x∈r.ops,TOk k x
structure SubOk (sub:List Nat->Option (Str×Dt)):Prop where
 ln:∀{pl:List Nat}{x:Str×Dt},sub pl=some x->pl.length<=5000
 nt:∀{pl:List Nat}{wd:Str}{d:Dt},sub pl=some (wd,d)->(wd="num" -> ∃i,d=.flat (.int i))/\(wd="truth" -> ∃b,d=.flat (.bl b))/\(wd="name" -> ∃z,d=.flat (.str z))/\Gb wd d
 p0:∀{pl:List Nat}{wd:Str}{d:Dt},sub pl=some (wd,d)->wd∈(["plus","minus","less","call","let","if","fn","rec"]:List Str)->∃x,sub (pl++[0])=some x
 p1:∀{pl:List Nat}{wd:Str}{d:Dt},sub pl=some (wd,d)->wd∈(["plus","minus","less","call","let","if"]:List Str)->∃x,sub (pl++[1])=some x
 p2:∀{pl:List Nat}{wd:Str}{d:Dt},sub pl=some (wd,d)->wd="if" -> ∃x,sub (pl++[2])=some x
structure EOk (sub:List Nat->Option (Str×Dt))(ar:Ar)(rs:List Rx)(st:Int):Prop where
 a:AOk rs.length ar
 l:(ar.length:Int)<=2*st+200
 r:RsOk sub rs st
 z:0<=st
theorem RsOk.up (h:RsOk sub rs st)(e:st<=st'):RsOk sub rs st':=λk r U=>by
 obtain⟨h1,h0,h2,I⟩:=h k r U;exact⟨h1,⟨h0.1,h0.2.1,by have:=h0.2.2;lia⟩,λO=>by have:=h2 O;lia,I⟩
theorem RsOk.snoc (h:RsOk sub rs st)(h1:AOk rs.length r.ar)(h9:∀x∈r.ops,TOk rs.length x)(h0:r.pl.length<=5000/\r.ops.length<=2/\(r.ar.length:Int)<=2*st+200)(h2:r.wd∈(["fn","rec"]:List Str)->(r.ar.length:Int)+2<=2*st+200)(h3:Shp sub r):RsOk sub (rs++[r]) st:=λk x I=>by
 by_cases e:k<rs.length
 ·rw[Qj e]at I;exact h k x I
 ·rw[Qr (by lia)]at I;have:k-rs.length=0:=by
   by_cases z:k-rs.length=0
   ·exact z
   ·rw[List.getElem?_eq_none (by simp;lia)]at I;cases I
  rw[this]at I;cases I;have:k=rs.length:=by lia
  subst this;exact⟨⟨h1,h9⟩,h0,h2,h3⟩
theorem RsOk.cut (h:RsOk sub (rs++m) st):RsOk sub rs st:=λk r I=>h k r ((Qj (Ps.mp I).1).trans I)
structure F9 (sub:List Nat->Option (Str×Dt))(rs:List Rx)(st:Int)(x:Str×V)(q:List Rx)(st':Int):Prop where
 s:st<=st'
 t:TOk q.length x
 r:RsOk sub q st'
 l:rs.length<=q.length
 m:(q.length:Int)<=rs.length+4*(st'-st)+1
theorem Zk2 (h:Dk ar z=some y):∃s,(s,y)∈ar:=by
 unfold Dk at h;obtain⟨x,I,rfl⟩:=Q3.mp h;exact⟨x.1,Wx.mp (List.mem_of_find?_eq_some I)⟩
theorem Zn4 (h:y∈Cd ns xs):y.2∈xs:=(Vp (show(y.1,y.2)∈List.zip ns xs from h)).2
theorem AOk.zip (h:AOk n ar)(hx:∀x∈xs,TOk n x):AOk n (ar++Cd ns xs):=λy I=>by
 rcases Q4.mp I with I|I
 ·exact h y I
 ·exact hx _ (Zn4 I)
theorem Zft (ns:List Str)(xs:List (Str×V)):(Cd ns xs).length<=xs.length:=by unfold Cd;rw[List.length_zip];lia
theorem Zpp (n:Nat):TOk (n+1) (("row":Str),.int (n:Nat)):=.inr (.inr ⟨rfl,n,rfl,by lia⟩)
theorem EOk.up (h:EOk sub ar rs st):EOk sub ar rs (st+1):=⟨h.a,by have:=h.l;lia,h.r.up (by lia),by have:=h.z;lia⟩
theorem EOk.on {sub:List Nat->Option (Str×Dt)}{ar:Ar}{rs r:List Rx}{st st':Int}{x:Str×V}(h:EOk sub ar rs st)(t:F9 sub rs st x r st'):EOk sub ar r st':=⟨h.a.up t.l,by have:=h.l;have:=t.s;lia,t.r,by have:=h.z;have:=t.s;lia⟩
theorem EOk.put (h:EOk sub ar rs st)(hx:TOk rs.length x)(hl:(ar.length:Int)+1<=2*st+200)(ns:List Str):EOk sub (ar++Cd ns [x]) rs st :=
 ⟨h.a.zip (λy I=>by rw[P7.mp I];exact hx),by have:=Zft ns [x];rw[Pn];rw[Py]at this;lia,h.r,h.z⟩
theorem Na (h:C5 rs x=true)(hx:TOk rs.length x):eX2 λ(k:Nat)(r:Rx)=>x=(("row":Str),V.int (k:Nat))/\rs[k]?=some r/\r.wd∈(["fn","rec"]:List Str):=by
 obtain⟨w,v⟩:=x;unfold C5 at h;split at h
 ·rename_i Y k e;injection e with e1 e2;subst e1 e2;rw[Rw]at h;obtain⟨h1,h2⟩:=h;have h1:=of_decide_eq_true h1;subst h1;rcases hx with⟨z,_⟩|⟨z,_⟩|⟨_,I,e,U⟩
  ·exact absurd (show("row":Str)="num" from z) (by right)
  ·exact absurd (show("row":Str)="truth" from z) (by right)
  ·have e:V.int k=.int (I:Nat):=e;injection e with e;subst e;rw[Qx]at h2;have O:rs[I]?=some rs[I]:=Pj U;rw[O]at h2;exact⟨I,_,rfl,O,of_decide_eq_true h2⟩
 ·cases h
theorem Nd {sub:List Nat->Option (Str×Dt)}{rs:List Rx}{st:Int}{k:Nat}{r:Rx}{y:Str×V}(hr:rs[k]?=some r)(hf:r.wd∈(["fn","rec"]:List Str))(R:RsOk sub rs st):∃d,sub (C7 r.pl)=some (r.wd,d)/\r.pl=Ap (C7 r.pl)/\Nf sub rs (("row":Str),V.int (k:Nat)) y=some (C7 r.pl++[0],r.ar++Cd (Dc r.wd d 0) (if r.wd="rec" then [(("row":Str),V.int (k:Nat)),y] else [y])):=by
 obtain⟨_,_,_,H⟩:=R k r hr;obtain⟨d,h5⟩:=H.s;refine⟨d,h5,H.p,?_⟩;show(rs[((k:Nat):Int).toNat]?).bind _=_;rw[Qx,hr,Rz,h5];rfl
theorem N6 {sub:List Nat->Option (Str×Dt)}{ar:Ar}{rs:List Rx}{st:Int}{k:Nat}{r:Rx}{y:Str×V}{d:Dt}(E:EOk sub ar rs st)(hr:rs[k]?=some r)(hf:r.wd∈(["fn","rec"]:List Str))(hy:TOk rs.length y):EOk sub (r.ar++Cd (Dc r.wd d 0) (if r.wd="rec" then [(("row":Str),V.int (k:Nat)),y] else [y])) rs st:=by
 obtain⟨⟨h1,_⟩,_,h2,_⟩:=E.r k r hr;have Y:=h2 hf;have O:=(Ps.mp hr).1;have h1:=h1.up (Uq O);have U:TOk rs.length (("row":Str),V.int (k:Nat)):=.inr (.inr ⟨rfl,k,rfl,(Ps.mp hr).1⟩);refine⟨h1.zip λx I=>?_,?_,E.r,E.z⟩
 ·split at I
  ·simp only[Pr,Pz,or_false]at I;rcases I with rfl|rfl
   ·exact U
   ·exact hy
  ·rw[P7.mp I];exact hy
 ·rw[Pn];have:(Cd (Dc r.wd d 0) (if r.wd="rec" then [(("row":Str),V.int (k:Nat)),y] else [y])).length<=2:=by
   refine Qb (Zft _ _) ?_;split <;> simp
  lia
theorem O5 (hR:RsOk sub R st)(h:st<=st')(ha:AOk R.length r.ar)(ho:∀x∈r.ops,TOk R.length x)(lp:r.pl.length<=5000)(lo:r.ops.length<=2)(la:(r.ar.length:Int)<=2*st'+200)(lf:r.wd∈(["fn","rec"]:List Str)->(r.ar.length:Int)+2<=2*st'+200)(sh:Shp sub r):F9 sub R st (("row":Str),.int (R.length:Nat)) (R++[r]) st':=by
 have hl:(R++[r]).length=R.length+1:=by simp
 exact⟨h,by rw[hl];exact Zpp _,(hR.up h).snoc ha ho ⟨lp,lo,la⟩ lf sh,by lia,by lia⟩
theorem Zd0 (pl:List Nat):(Ap pl).length=pl.length:=by unfold Ap;rw[Pp]
theorem Zvb (S:SubOk sub)(hs:sub pl=some (wd,d))(hw:wd∈TWO)(h0:0<=st)(R:RsOk sub rs st)(ho:∀z∈[x,y],TOk rs.length z):F9 sub rs st (Ef wd pl rs x y).1 (Ef wd pl rs x y).2 st:=by
 unfold Ef;by_cases h:wd∈Ho/\x.1="num"/\y.1="num"
 ·rw[if_pos h];show F9 sub rs st (E4 wd (Ez x.2) (Ez y.2)) rs st;refine⟨Qy _,?_,R,Pl _,by lia⟩;unfold E4;split
  ·exact .inl ⟨rfl,_,rfl⟩
  split
  ·exact .inl ⟨rfl,_,rfl⟩
  ·exact .inr (.inl ⟨rfl,_,rfl⟩)
 ·rw[if_neg h];have no:∀{z:Str},¬z∈TWO->wd=z->False:=λh e=>h (by rw[<- e];exact hw);refine O5 R (Qy _) (λy O=>nomatch O) ho (by rw[Zd0];exact S.ln hs) (Pl _) (by show(0:Int)<=2*st+200;lia) (λI=>?_) (.mk1 hs (λ_=>⟨_,_,rfl⟩) (λe=>(no (by right) e).elim) (λe=>no (by right) e));exfalso;have I:wd∈(["fn","rec"]:List Str):=I;simp only[Pr,Pz,or_false]at I;rcases I with e|e
  ·exact no (by right) e
  ·exact no (by right) e
theorem Zed (h:wd∈(["num","truth"]:List Str)):Ct wd d pl ar rs=((wd,Es d),rs):=by
 unfold Ct Db;rw[if_pos h]
theorem Zdi (hd:d=.flat (.str z))(h:Dk ar z=some y):Ct "name" d pl ar rs=(y,rs):=by
 subst hd;unfold Ct Db;rw[if_neg (by right)];simp only[Es,if_true,h]
theorem O8 (h:¬wd∈(["num","truth"]:List Str))(h2:wd="name" -> ∀z,d=.flat (.str z)->Dk ar z=none)(h3:wd="name" -> ∃z,d=.flat (.str z)):Ct wd d pl ar rs=((("row":Str),V.int (rs.length:Nat)),rs++[⟨wd,Ap pl,[],if wd∈WA then ar else []⟩]):=by
 unfold Ct Db;rw[if_neg h];by_cases hn:wd="name"
 ·obtain⟨z,rfl⟩:=h3 hn;simp only[Es,if_pos hn,h2 hn z rfl]
 ·cases Es d with
  |str z=>simp only[if_neg hn]
  |_=>rfl
theorem Zh9 {wd:Str}{d:Dt}(n3:wd="name" -> ∃z,d=.flat (.str z))(ar:Ar):wd∈(["num","truth"]:List Str)\/(eX2 λz y=>wd="name"/\d=.flat (.str z)/\Dk ar z=some y)\/(¬wd∈(["num","truth"]:List Str)/\∀z,wd="name" -> d=.flat (.str z)->Dk ar z=none):=by
 by_cases h1:wd∈(["num","truth"]:List Str)
 ·exact .inl h1
 by_cases h2:eX2 λz y=>wd="name"/\d=.flat (.str z)/\Dk ar z=some y
 ·exact .inr (.inl h2)
 refine .inr (.inr ⟨h1,λz I O=>?_⟩);cases hl:Dk ar z with
 |none=>rfl
 |some y=>exact absurd ⟨z,y,I,O,hl⟩ h2
theorem Lx (wd:Str):0<=Cq wd/\Cq wd<=1:=by unfold Cq;split <;> decide
theorem Zre (S:SubOk sub)(hs:sub pl=some (wd,d))(g2:¬wd∈TWO)(g3:¬wd="let")(g4:¬wd="if")(E:EOk sub ar rs st):F9 sub rs st (Ct wd d pl ar rs).1 (Ct wd d pl ar rs).2 (st+Cq wd):=by
 have aa:=Lx wd;have hl:=E.l;have h0:=E.z;obtain⟨n1,n2,Y,_⟩:=S.nt hs;have I:∀{t:Str×V},TOk rs.length t->F9 sub rs st t rs (st+Cq wd):=λht=>⟨by lia,ht,E.r.up (by lia),Pl _,by lia⟩;rcases Zh9 Y ar with h1|⟨z,y,rfl,e2,Z⟩|⟨h1,h2⟩
 ·rw[Zed h1];refine I ?_;simp only[Pr,Pz,or_false]at h1;rcases h1 with h|h
  ·obtain⟨i,rfl⟩:=n1 h;exact .inl ⟨h,i,rfl⟩
  ·obtain⟨i,rfl⟩:=n2 h;exact .inr (.inl ⟨h,i,rfl⟩)
 ·obtain⟨s,hm⟩:=Zk2 Z;rw[Zdi e2 Z];exact I (E.a _ hm)
 ·rw[O8 h1 (λe z hz=>h2 z e hz) Y];have U:AOk rs.length (if wd∈WA then ar else [])/\((if wd∈WA then ar else []).length:Int)<=ar.length:=by
   split
   ·exact⟨E.a,Qy _⟩
   ·exact⟨(λy hy=>nomatch hy),by simp⟩
  refine O5 E.r (by lia) U.1 (λx hx=>nomatch hx) (by rw[Zd0];exact S.ln hs) (Qn _) (by show((if wd∈WA then ar else []).length:Int)<=2*(st+Cq wd)+200;have:=U.2;lia) (λO=>?_) (.mk1 hs (λe=>absurd e g2) (λe=>absurd e g4) g3);have O:wd∈(["fn","rec"]:List Str):=O;have ac:Cq wd=1:=by
   simp only[Pr,Pz,or_false]at O;unfold Cq;rw[if_neg];rcases O with rfl|rfl <;> right
  have:=U.2;show((if wd∈WA then ar else []).length:Int)+2<=2*(st+Cq wd)+200;lia
theorem Zes (h:wd∈TWO\/wd="let"\/wd="if"):Cq wd=1:=by
 unfold Cq;rw[if_neg];intro e;subst e;revert h;right
theorem Zb8 (h:wd∈TWO):Bl wd=some [1,0]/\wd≠"gap":=⟨by unfold Bl;exact if_pos h,λe=>by subst e;revert h;right⟩
theorem Zq3 {wd:Str}(h:wd="let"\/wd="if"):Bl wd=some [0]/\wd≠"gap":=by rcases h with rfl|rfl <;> exact⟨by right,by right⟩
theorem Zdm (h1:¬wd∈TWO)(h2:¬wd="let")(h3:¬wd="if"):Bl wd=none:=by
 unfold Bl;unfold TWO at h1;rw[if_neg h1,if_neg];simp only[Pr,Pz,or_false,not_or];exact⟨h3,h2⟩
theorem Zl0 (h:wd∈TWO):Gv ⟨rs,w,th,st⟩ wd d pl ar=⟨rs,(w++[⟨pl,ar,true⟩]++[⟨pl++[1],ar,false⟩])++[⟨pl++[0],ar,false⟩],th,st+1⟩:=by
 obtain⟨h1,h2⟩:=Zb8 h;unfold Gv;simp only[h1,if_neg h2];simp
theorem Zjv {wd:Str}{d:Dt}{pl:List Nat}{ar:Ar}{rs:List Rx}{w:List Wt}{th:List (Str×V)}{st:Int}(h:wd="let"\/wd="if"):Gv ⟨rs,w,th,st⟩ wd d pl ar=⟨rs,(w++[⟨pl,ar,true⟩])++[⟨pl++[0],ar,false⟩],th,st+1⟩:=by
 obtain⟨h1,h2⟩:=Zq3 h;unfold Gv;simp only[h1,if_neg h2];simp
theorem Zn6 (S:MS)(wd:Str)(d:Dt)(pl:List Nat)(ar:Ar):Db S wd (Es d) pl ar=((Ct wd d pl ar S.rows).1,{ S with rows:=(Ct wd d pl ar S.rows).2 }):=by
 unfold Ct Db;by_cases h1:wd∈(["num","truth"]:List Str)
 ·simp only[if_pos h1]
 ·simp only[if_neg h1];split <;> rfl
theorem Zoe (h:Bl wd=none):Gv ⟨rs,w,th,st⟩ wd d pl ar=⟨(Ct wd d pl ar rs).2,w,th++[(Ct wd d pl ar rs).1],st+Cq wd⟩:=by
 unfold Gv;simp only[h,Zn6];by_cases g:wd="gap"
 ·simp only[if_pos g,Cq,Q8]
 ·simp only[if_neg g,Cq]
theorem TOk.row (h:TOk rs.length x):Mn rs x:=λe=>by
 rcases h with⟨h,_⟩|⟨h,_⟩|⟨_,k,h1,h2⟩
 ·rw[e]at h;exact absurd h (by right)
 ·rw[e]at h;exact absurd h (by right)
 ·exact⟨k,h1,h2⟩
theorem TOk.num (h:TOk n x):Zds x:=λe=>by
 rcases h with⟨_,h⟩|⟨h,_⟩|⟨h,_⟩
 ·exact h
 ·rw[e]at h;exact absurd h (by right)
 ·rw[e]at h;exact absurd h (by right)
structure Sm (rs:List Rx)(w:List Wt)(th:List (Str×V))(st:Int):Prop where
 r:(rs.length:Int)+4*(500-st)<=5000
 w:(w.length:Int)+3*(500-st)<=5000
 t:(th.length:Int)+2*(500-st)<=5000
 s:st<=500
theorem Sm.small {rs:List Rx}{w:List Wt}{th:List (Str×V)}{st:Int}(h:Sm rs w th st)(x:Wt):Hy ⟨rs,w++[x],th,st⟩:=by
 have:=h.r;have:=h.w;have:=h.t;have:=h.s;exact⟨by show rs.length<9000;lia,by show(w++[x]).length<9000;rw[Pn,Py];lia,by show th.length<9000;lia⟩
def Goes (sub:List Nat->Option (Str×Dt))(S S':MS):Prop:=∀m r,RunX sub m S' r->∃m',RunX sub m' S r
theorem Goes.step (hs:Hy S)(h:Gs sub S S'):Goes sub S S':=λm r R=>⟨m+1,.cons hs h R⟩
theorem Goes.trans (h:Goes sub S S')(h':Goes sub S' S2):Goes sub S S2:=λm r R=>by
 obtain⟨m1,R1⟩:=h' m r R;exact h m1 r R1
theorem SubOk.note (S:SubOk sub)(h:sub pl=some (wd,d)):O1 wd d:=by
 obtain⟨n1,n2,O,_⟩:=S.nt h;refine⟨λI=>?_,O⟩;simp only[Pr,Pz,or_false]at I;rcases I with e|e
 ·obtain⟨i,rfl⟩:=n1 e;exact⟨_,rfl⟩
 ·obtain⟨i,rfl⟩:=n2 e;exact⟨_,rfl⟩
theorem Zp3:Hk ⟨rs,w,th++[x]++[y],st⟩ wd pl th x y=⟨(Ef wd pl rs x y).2,w,th++[(Ef wd pl rs x y).1],st⟩:=by
 unfold Hk Ef;split <;> rfl
theorem Zrb:(E4 wd i j).1≠"row":=by
 unfold E4;split
 ·show("num":Str)≠"row";right
 split
 ·show("num":Str)≠"row";right
 ·show("truth":Str)≠"row";right
inductive Jb
 |fm (pl:List Nat) (ar:Ar)
 |fu (wd:Str) (pl:List Nat) (ar:Ar) (ops:List (Str×V))
inductive Xj (sub:List Nat->Option (Str×Dt)):Jb->List Rx->Str×V->List Rx->Int->Prop
 |two {pl:List Nat} {ar:Ar} {rs r1 r2 r3:List Rx} {wd:Str} {d:Dt} {a b x:Str×V} {k1 k2 k3:Int} (hs:sub pl=some (wd,d)) (hw:wd∈TWO) (ha:Xj sub (.fm (pl++[0]) ar) rs a r1 k1) (hb:Xj sub (.fm (pl++[1]) ar) r1 b r2 k2) (hf:Xj sub (.fu wd pl ar [a,b]) r2 x r3 k3):Xj sub (.fm pl ar) rs x r3 (1+(k1+(k2+k3)))
 |lets {pl:List Nat} {ar:Ar} {rs r1 r2:List Rx} {d:Dt} {a b:Str×V} {k1 k2:Int} (hs:sub pl=some (("let":Str),d)) (ha:Xj sub (.fm (pl++[0]) ar) rs a r1 k1) (hb:Xj sub (.fm (pl++[1]) (ar++Cd (Dc "let" d 1) [a])) r1 b r2 k2):Xj sub (.fm pl ar) rs b r2 (1+(k1+k2))
 |ifs {pl:List Nat} {ar:Ar} {rs r1 r2:List Rx} {d:Dt} {a x:Str×V} {k1 k2:Int} (hs:sub pl=some (("if":Str),d)) (ha:Xj sub (.fm (pl++[0]) ar) rs a r1 k1) (hf:Xj sub (.fu "if" pl ar [a]) r1 x r2 k2):Xj sub (.fm pl ar) rs x r2 (1+(k1+k2))
 |leaf {pl:List Nat} {ar:Ar} {rs:List Rx} {wd:Str} {d:Dt} (hs:sub pl=some (wd,d)) (h2:¬wd∈TWO) (h3:¬wd="let") (h4:¬wd="if"):Xj sub (.fm pl ar) rs (Ct wd d pl ar rs).1 (Ct wd d pl ar rs).2 (Cq wd)
 |call {pl:List Nat} {ar:Ar} {rs r:List Rx} {a b x:Str×V} {k:Int} {c:List Nat×Ar} (hf:C5 rs a=true) (hc:Nf sub rs a b=some c) (he:Xj sub (.fm c.1 c.2) rs x r k):Xj sub (.fu "call" pl ar [a,b]) rs x r k
 |join {pl:List Nat} {ar:Ar} {rs:List Rx} {wd:Str} {a b:Str×V} (hw:wd∈TWO) (hf:¬(wd="call"/\C5 rs a=true)):Xj sub (.fu wd pl ar [a,b]) rs (Ef wd pl rs a b).1 (Ef wd pl rs a b).2 0
 |ifT {pl:List Nat} {ar:Ar} {rs r:List Rx} {a x:Str×V} {k:Int} (ht:a.1="truth") (hb:Xj sub (.fm (pl++[if a.2=.bl true then 1 else 2]) ar) rs x r k):Xj sub (.fu "if" pl ar [a]) rs x r k
 |ifN {pl:List Nat} {ar:Ar} {rs:List Rx} {a:Str×V} (ht:¬a.1="truth"):Xj sub (.fu "if" pl ar [a]) rs (("row":Str),.int (rs.length:Nat)) (rs++[⟨"if",Ap pl,[a],ar⟩]) 0
noncomputable abbrev Ex (sub:List Nat->Option (Str×Dt))(pl:List Nat)(ar:Ar):=Xj sub (.fm pl ar)
noncomputable abbrev Fx (sub:List Nat->Option (Str×Dt))(wd:Str)(pl:List Nat)(ar:Ar)(ops:List (Str×V)):=Xj sub (.fu wd pl ar ops)
section
variable {sub:List Nat->Option (Str×Dt)}{pl:List Nat}{ar:Ar}{rs r:List Rx}{x a b:Str×V}{k:Int}{wd:Str}{d:Dt}{j:Jb}
theorem C2 (h:Xj sub j rs x r k):0<=k:=by
 induction h with
 |leaf I _ _ _=>exact(Lx _).1
 |_=>lia
theorem Zvy (wd:Str)(pl:List Nat)(rs:List Rx)(x y:Str×V):∃m,(Ef wd pl rs x y).2=rs++m:=by
 unfold Ef;split
 ·exact⟨[],by simp⟩
 ·exact⟨_,rfl⟩
theorem Zts (wd:Str)(d:Dt)(pl:List Nat)(ar:Ar)(rs:List Rx):∃m,(Ct wd d pl ar rs).2=rs++m:=by
 unfold Ct Db;split
 ·exact⟨[],by simp⟩
 split
 ·exact⟨[],by simp⟩
 ·exact⟨_,rfl⟩
theorem F7 (h:Xj sub j rs x r k):∃m,r=rs++m:=by
 induction h with
 |two _ _ _ _ _ i1 i2 I =>
  obtain⟨_,rfl⟩:=i1;obtain⟨_,rfl⟩:=i2;obtain⟨_,rfl⟩:=I;exact⟨_,by rw[Qf,Qf]⟩
 |lets _ _ _ i1 i2 =>
  obtain⟨_,rfl⟩:=i1;obtain⟨_,rfl⟩:=i2;exact⟨_,by rw[Qf]⟩
 |ifs _ _ _ i1 i2 =>
  obtain⟨_,rfl⟩:=i1;obtain⟨_,rfl⟩:=i2;exact⟨_,by rw[Qf]⟩
 |leaf=>exact Zts _ _ _ _ _
 |call _ _ _ i=>exact i
 |join=>exact Zvy _ _ _ _ _
 |ifT _ _ i=>exact i
 |ifN=>exact⟨_,rfl⟩
theorem Mu (hs:sub pl=some (wd,d))(h:Ex sub pl ar rs x r k):(wd∈TWO/\∃k',(eX4 λa r1 k1 k2=>Ex sub (pl++[0]) ar rs a r1 k1/\(eX4 λb r2 k3 k4=>Ex sub (pl++[1]) ar r1 b r2 k3/\Fx sub wd pl ar [a,b] r2 x r k4/\k2=k3+k4)/\k'=k1+k2)/\k=1+k')\/(wd="let" /\ ∃k',(eX4 λa r1 k1 k2=>Ex sub (pl++[0]) ar rs a r1 k1/\Ex sub (pl++[1]) (ar++Cd (Dc "let" d 1) [a]) r1 x r k2/\k'=k1+k2)/\k=1+k')\/(wd="if" /\ ∃k',(eX4 λa r1 k1 k2=>Ex sub (pl++[0]) ar rs a r1 k1/\Fx sub "if" pl ar [a] r1 x r k2/\k'=k1+k2)/\k=1+k')\/((¬wd∈TWO/\¬wd="let"/\¬wd="if")/\x=(Ct wd d pl ar rs).1/\r=(Ct wd d pl ar rs).2/\k=Cq wd):=by
 cases h with
 |two I hw O hb U=>cases hs.symm.trans I;exact .inl ⟨hw,_,⟨_,_,_,_,O,⟨_,_,_,_,hb,U,rfl⟩,rfl⟩,rfl⟩
 |lets I O hb=>cases hs.symm.trans I;exact .inr (.inl ⟨rfl,_,⟨_,_,_,_,O,hb,rfl⟩,rfl⟩)
 |ifs I O U=>cases hs.symm.trans I;exact .inr (.inr (.inl ⟨rfl,_,⟨_,_,_,_,O,U,rfl⟩,rfl⟩))
 |leaf I h2 Z Y=>cases hs.symm.trans I;exact .inr (.inr (.inr ⟨⟨h2,Z,Y⟩,rfl,rfl,rfl⟩))
theorem two_no (h:wd∈TWO):¬wd="let"/\¬wd="if"/\wd≠"gap":=⟨λe=>by subst e;revert h;right,λe=>by subst e;revert h;right,λe=>by subst e;revert h;right⟩
theorem two_iff (hs:sub pl=some (wd,d))(hw:wd∈TWO):Ex sub pl ar rs x r k↔∃k',(eX4 λa r1 k1 k2=>Ex sub (pl++[0]) ar rs a r1 k1/\(eX4 λb r2 k3 k4=>Ex sub (pl++[1]) ar r1 b r2 k3/\Fx sub wd pl ar [a,b] r2 x r k4/\k2=k3+k4)/\k'=k1+k2)/\k=1+k':=by
 refine⟨λh=>?_,?_⟩
 ·rcases Mu hs h with h|h|h|h
  ·exact h.2
  ·exact absurd h.1 (two_no hw).1
  ·exact absurd h.1 (two_no hw).2.1
  ·exact absurd hw h.1.1
 ·rintro⟨_,⟨a,r1,k1,k2,I,⟨b,r2,k3,k4,hb,O,rfl⟩,rfl⟩,rfl⟩;exact .two hs hw I hb O
theorem Zda (hs:sub pl=some (("let":Str),d)):Ex sub pl ar rs x r k↔∃k',(eX4 λa r1 k1 k2=>Ex sub (pl++[0]) ar rs a r1 k1/\Ex sub (pl++[1]) (ar++Cd (Dc "let" d 1) [a]) r1 x r k2/\k'=k1+k2)/\k=1+k':=by
 refine⟨λh=>?_,?_⟩
 ·rcases Mu hs h with h|h|h|h
  ·exact absurd rfl (two_no h.1).1
  ·exact h.2
  ·exact absurd h.1 (by right)
  ·exact absurd rfl h.1.2.1
 ·rintro⟨_,⟨a,r1,k1,k2,I,hb,rfl⟩,rfl⟩;exact .lets hs I hb
theorem Zcg (hs:sub pl=some (("if":Str),d)):Ex sub pl ar rs x r k↔∃k',(eX4 λa r1 k1 k2=>Ex sub (pl++[0]) ar rs a r1 k1/\Fx sub "if" pl ar [a] r1 x r k2/\k'=k1+k2)/\k=1+k':=by
 refine⟨λh=>?_,?_⟩
 ·rcases Mu hs h with h|h|h|h
  ·exact absurd rfl (two_no h.1).2.1
  ·exact absurd h.1 (by right)
  ·exact h.2
  ·exact absurd rfl h.1.2.2
 ·rintro⟨_,⟨a,r1,k1,k2,I,O,rfl⟩,rfl⟩;exact .ifs hs I O
theorem Zjp (hs:sub pl=some (wd,d))(h2:¬wd∈TWO)(h3:¬wd="let")(h4:¬wd="if")(h:Ex sub pl ar rs x r k):x=(Ct wd d pl ar rs).1/\r=(Ct wd d pl ar rs).2/\k=Cq wd:=by
 rcases Mu hs h with h|h|h|h
 ·exact absurd h.1 h2
 ·exact absurd h.1 h3
 ·exact absurd h.1 h4
 ·exact h.2
theorem Zcm (h:wd="call"/\C5 rs a=true)(hc:Nf sub rs a b=some c):Fx sub wd pl ar [a,b] rs x r k↔Ex sub c.1 c.2 rs x r k:=by
 obtain⟨rfl,h⟩:=h;refine⟨λg=>?_,λg=>.call h hc g⟩;cases g with
 |call _ I O=>cases hc.symm.trans I;exact O
 |join _ U=>exact absurd ⟨rfl,h⟩ U
theorem Zj6 (hw:wd∈TWO)(hf:¬(wd="call"/\C5 rs a=true)):Fx sub wd pl ar [a,b] rs x r k↔x=(Ef wd pl rs a b).1/\r=(Ef wd pl rs a b).2/\k=0:=by
 refine⟨λg=>?_,?_⟩
 ·cases g with
  |call h _ _=>exact absurd ⟨rfl,h⟩ hf
  |join=>exact⟨rfl,rfl,rfl⟩
 ·rintro⟨rfl,rfl,rfl⟩;exact .join hw hf
theorem Zec (ht:a.1="truth"):Fx sub "if" pl ar [a] rs x r k↔Ex sub (pl++[if a.2=.bl true then 1 else 2]) ar rs x r k:=by
 refine⟨λg=>?_,.ifT ht⟩;cases g with
 |ifT _ h=>exact h
 |ifN h=>exact absurd ht h
theorem fu_N (ht:¬a.1="truth"):Fx sub "if" pl ar [a] rs x r k↔x=(("row":Str),.int (rs.length:Nat))/\r=rs++[⟨"if",Ap pl,[a],ar⟩]/\k=0:=by
 refine⟨λg=>?_,?_⟩
 ·cases g with
  |ifT h _=>exact absurd h ht
  |ifN=>exact⟨rfl,rfl,rfl⟩
 ·rintro⟨rfl,rfl,rfl⟩;exact .ifN ht
theorem Zeh (h:Xj sub j rs x r k):∀{x':Str×V}{r':List Rx}{k':Int},Xj sub j rs x' r' k'->x=x'/\r=r'/\k=k':=by
 induction h with
 |two I Z _ _ _ i1 i2 i3 =>
  intro _ _ _ h;obtain⟨_,⟨a,r1,k1,k2,O,⟨b,r2,k3,k4,hb,U,rfl⟩,rfl⟩,rfl⟩:=(two_iff I Z).mp h;obtain⟨rfl,rfl,rfl⟩:=i1 O;obtain⟨rfl,rfl,rfl⟩:=i2 hb;obtain⟨rfl,rfl,rfl⟩:=i3 U;exact⟨rfl,rfl,rfl⟩
 |lets I _ _ i1 i2 =>
  intro _ _ _ h;obtain⟨_,⟨a,r1,k1,k2,O,hb,rfl⟩,rfl⟩:=(Zda I).mp h;obtain⟨rfl,rfl,rfl⟩:=i1 O;obtain⟨rfl,rfl,rfl⟩:=i2 hb;exact⟨rfl,rfl,rfl⟩
 |ifs I _ _ i1 i2 =>
  intro _ _ _ h;obtain⟨_,⟨a,r1,k1,k2,O,hb,rfl⟩,rfl⟩:=(Zcg I).mp h;obtain⟨rfl,rfl,rfl⟩:=i1 O;obtain⟨rfl,rfl,rfl⟩:=i2 hb;exact⟨rfl,rfl,rfl⟩
 |leaf I h2 h3 h4 =>
  intro _ _ _ h;obtain⟨rfl,rfl,rfl⟩:=Zjp I h2 h3 h4 h;exact⟨rfl,rfl,rfl⟩
 |call U hc _ i=>exact λh=>i ((Zcm ⟨rfl,U⟩ hc).mp h)
 |join Z U =>
  intro _ _ _ h;obtain⟨rfl,rfl,rfl⟩:=(Zj6 Z U).mp h;exact⟨rfl,rfl,rfl⟩
 |ifT Y _ i=>exact λh=>i ((Zec Y).mp h)
 |ifN Y =>
  intro _ _ _ h;obtain⟨rfl,rfl,rfl⟩:=(fu_N Y).mp h;exact⟨rfl,rfl,rfl⟩
def Gp (sub:List Nat->Option (Str×Dt))(j:Jb)(rs:List Rx)(st:Int):Prop:=match j with
 |.fm _ ar=>EOk sub ar rs st
 |.fu wd pl ar ops=>EOk sub ar rs st/\(∀x∈ops,TOk rs.length x)/\∃d,sub pl=some (wd,d)
theorem two_mem (ha:TOk n a)(hb:TOk n b):∀x∈[a,b],TOk n x:=λx I=>by
 simp only[Pr,Pz,or_false]at I;rcases I with rfl|rfl
 ·exact ha
 ·exact hb
theorem Ow (ha:TOk n a):∀x∈[a],TOk n x:=λx I=>by rw[P7.mp I];exact ha
theorem Fu (S:SubOk sub)(h:Xj sub j rs x r k):∀{st:Int},Gp sub j rs st->F9 sub rs st x r (st+k):=by
 induction h with
 | @two pl ar rs r1 r2 r3 wd d a b x k1 k2 k3 I U _ _ _ i1 i2 i3 =>
  intro st E;have E:EOk sub ar rs st:=E;have ta:=i1 E.up;have Ea:=E.up.on ta;have tb:=i2 Ea;have tc:=i3 ⟨Ea.on tb,two_mem (ta.t.up tb.l) tb.t,d,I⟩;have:=ta.s;have:=tb.s;have:=tc.s;have:=ta.l;have:=tb.l;have:=tc.l;have:=ta.m;have:=tb.m;have:=tc.m;rw[show st+(1+(k1+(k2+k3)))=st+1+k1+k2+k3 by lia];exact⟨by lia,tc.t,tc.r,by lia,by lia⟩
 | @lets pl ar rs r1 r2 d a b k1 k2 I _ _ i1 i2 =>
  intro st E;have E:EOk sub ar rs st:=E;have ta:=i1 E.up;have tb:=i2 ((E.up.on ta).put ta.t (by have:=E.l;have:=ta.s;lia) _);have:=ta.s;have:=tb.s;have:=ta.l;have:=tb.l;have:=ta.m;have:=tb.m;rw[show st+(1+(k1+k2))=st+1+k1+k2 by lia];exact⟨by lia,tb.t,tb.r,by lia,by lia⟩
 | @ifs pl ar rs r1 r2 d a x k1 k2 I _ _ i1 i2 =>
  intro st E;have E:EOk sub ar rs st:=E;have ta:=i1 E.up;have tb:=i2 ⟨E.up.on ta,Ow ta.t,d,I⟩;have:=ta.s;have:=tb.s;have:=ta.l;have:=tb.l;have:=ta.m;have:=tb.m;rw[show st+(1+(k1+k2))=st+1+k1+k2 by lia];exact⟨by lia,tb.t,tb.r,by lia,by lia⟩
 |leaf I h2 h3 h4=>exact λE=>Zre S I h2 h3 h4 E
 | @call pl ar rs r a b x k c Y hc _ i =>
  intro st E;obtain⟨E,O,_⟩:=E;obtain⟨m,q,rfl,hr,U⟩:=Na Y (O a (by simp));obtain⟨d',_,_,Z⟩:=Nd (y:=b) hr U E.r;cases hc.symm.trans Z;exact i (N6 E hr U (O b (by simp)))
 |join U Y =>
  intro st E;obtain⟨E,O,d,I⟩:=E;rw[Q8];exact Zvb S I U E.z E.r O
 |ifT _ _ i=>exact λE=>i E.1
 |ifN ht =>
  intro st E;obtain⟨E,O,d,I⟩:=E;rw[Q8];exact O5 E.r (Qy _) E.a O (by rw[Zd0];exact S.ln I) (by show 1<=2;decide) E.l (λY=>absurd (show("if":Str)∈(["fn","rec"]:List Str) from Y) (by right)) (.mk1 I (λe=>absurd e (by right)) (λ_=>⟨_,rfl⟩) (by right))
end
theorem Cv {t:TS}{X:St->Hp->Prop}{rt:VK}{bk ct:St->Hp->Prop}{σ:St}{H:Hp}(R:St->Hp->Prop)(h2:∀σ' H',R σ' H'->X σ' H')(h1:∀Y:St->Hp->Prop,(∀σ' H',R σ' H'->Y σ' H')->t ⟨Y,rt,bk,ct⟩ σ H):t ⟨X,rt,bk,ct⟩ σ H:=h1 X h2
def PrW (K:Ph)(H:Hp)(v:V)(x:Str×Str):Prop:=∃a,v=.ref a/\SqT K H a [.str x.1,.str x.2]
theorem PrW.same (s:SameT H H')(v:V)(x:Str×Str)(h:PrW K H v x):PrW K H' v x:=let ⟨a,e,q⟩:=h;⟨a,e,s.tup q⟩
def BdAt (K:Ph)(H:Hp)(b:Addr)(n:Nat):Prop:=eX2 λbs zs=>H b=some (.lst bs)/\Al (PrW K H) bs zs/\bs.length<=n
theorem BdAt.same (h:BdAt K H b n)(s:Same H H'):BdAt K H' b n:=let ⟨bs,zs,e,al,l⟩:=h;⟨bs,zs,s _ _ e,al.mono (PrW.same s.t),l⟩
noncomputable def Ha (w:Str):Option Nat:=if w∈(["gap","odd","num","truth","name"]:List Str) then some 0 else if w∈(["plus","minus","less","call","let"]:List Str) then some 2 else if w∈(["fn","rec"]:List Str) then some 1 else if w="if" then some 3 else none
structure Dg (w:Str)(n:Dt)(k:Nat):Prop where
 p:Ha w=some k
 i:w="num" -> ∃i,n=.flat (.int i)
 t:w="truth" -> ∃b,n=.flat (.bl b)
 z:w="name" -> ∃z,n=.flat (.str z)
 b:Gb w n
inductive Tf:Tr->Prop
 |mk {w:Str} {n:Dt} {ps:List Tr} (h:Dg w n ps.length) (hs:∀t,t∈ps->Tf t):Tf (.mk w n ps)
theorem bk {wd:Str}{d:Dt}(h:wd≠"fn"/\wd≠"let"/\wd≠"rec"):Gb wd d:=⟨λz=>z.elim (λz=>absurd z h.1) (λz=>absurd z h.2.1),λz=>absurd z h.2.2⟩
theorem Hv (hp:Ha wd=some k)(h:wd≠"num"/\wd≠"truth"/\wd≠"name")(hb:Gb wd d):Dg wd d k:=⟨hp,λz=>absurd z h.1,λz=>absurd z h.2.1,λz=>absurd z h.2.2,hb⟩
theorem Zko:Dg "gap" (.flat .non) 0:=Hv (by right) (by right) (bk (by right))
theorem Zha:Dg "odd" (.flat v) 0:=Hv (by right) (by right) (bk (by right))
theorem Zkn:Dg "num" (.flat (.int i)) 0:=⟨by right,λ_=>⟨i,rfl⟩,λz=>absurd z (by right),λz=>absurd z (by right),bk (by right)⟩
theorem Zhk:Dg "truth" (.flat (.bl b)) 0:=⟨by right,λz=>absurd z (by right),λ_=>⟨b,rfl⟩,λz=>absurd z (by right),bk (by right)⟩
theorem Om:Dg "name" (.flat (.str x)) 0:=⟨by right,λz=>absurd z (by right),λz=>absurd z (by right),λ_=>⟨x,rfl⟩,bk (by right)⟩
theorem w_fn:Dg "fn" (.flat (.str x)) 1:=Hv (by right) (by right) ⟨λ_=>⟨x,rfl⟩,λz=>absurd z (by right)⟩
theorem Zk8:Dg "let" (.flat (.str x)) 2:=Hv (by right) (by right) ⟨λ_=>⟨x,rfl⟩,λz=>absurd z (by right)⟩
theorem Zfd:Dg "rec" (.tup [.flat (.str y),.flat (.str x)]) 1:=Hv (by right) (by right) ⟨λz=>absurd z (by right),λ_=>⟨y,x,rfl⟩⟩
theorem w_if:Dg "if" (.flat .non) 3:=Hv (by right) (by right) (bk (by right))
theorem Zel (h:wd∈TWO):Dg wd (.flat .non) 2:=by
 unfold TWO at h;simp only[Pr,Pz,or_false]at h;rcases h with rfl|rfl|rfl|rfl <;> exact Hv (by right) (by right) (bk (by right))
theorem Pe (h:Dg wd (.flat nv) 0):Tf (.mk wd (.flat nv) []):=.mk h (λt I=>nomatch I)
def SameR (r:Addr)(H H':Hp):Prop:=∀b o,b≠r->H b=some o->H' b=some o
structure FR (a:Addr)(H H':Hp):Prop where
 r:SameR a H H'
 e:∃cs:List Int,H' a=some (.lst (cs.map V.int))/\cs.length<=63
theorem FR.trans (x:FR a H H1)(y:FR a H1 H2):FR a H H2:=⟨λb o n h=>y.r b o n (x.r b o n h),y.e⟩
theorem FR.put (x:FR a H H1)(s:Same H1 H2):FR a H H2:=⟨λb o n h=>s b o (x.r b o n h),let ⟨cs,e,l⟩:=x.e;⟨cs,s _ _ e,l⟩⟩
structure FS (K:Ph)(H:Hp)(a ar pn:Addr)(ts:List Str)(m:Nat):Prop where
 e:∃cs:List Int,H a=some (.lst (cs.map V.int))/\cs.length<=63
 bd:BdAt K H ar m
 na:ar≠a
 hp:H pn=some (.lst (ts.map V.str))
 np:pn≠a
 lt:ts.length=5
theorem FR.refl (S:FS K H a ar pn ts m):FR a H H:=⟨λ_ _ _ h=>h,S.e⟩
theorem FR.t (x:FR a H H')(h:∃cs:List Int,H a=some (.lst (cs.map V.int))/\cs.length<=63):SameT H H':=λb=>by
 obtain⟨cs,e,_⟩:=h;exact⟨λxs hb=>x.r b _ (λz=>by rw[z,e]at hb;cases hb) hb,λo u hb=>x.r b _ (λz=>by rw[z,e]at hb;cases hb) hb⟩
theorem FS.step (S:FS K H a ar pn ts m)(x:FR a H H'):FS K H' a ar pn ts m:=by
 obtain⟨bs,zs,b1,b2,I⟩:=S.bd;exact⟨x.e,⟨bs,zs,x.r _ _ S.na b1,b2.mono (PrW.same (x.t S.e)),I⟩,S.na,x.r _ _ S.np S.hp,S.np,S.lt⟩
theorem FS.nm (S:FS K H a ar pn ts m)(h0:0<=i)(h1:i<5):∃x:Str,Cr (ts.map V.str) i=some (.str x):=by
 obtain⟨v,I,O⟩:=Kj (xs:=ts.map V.str) h0 (by rw[Pp,S.lt];exact h1);obtain⟨x,_,rfl⟩:=Ro.mp O;exact⟨x,I⟩
theorem FS.more (S:FS K H a ar pn ts m)(b1:H ar=some (.lst bs))(b2:Al (PrW K H) bs zs)(b3:bs.length<=m)(al:Al (PrW K H) ms ws)(lm:ms.length=k)(hp:H p=none):FS K (upd H p (.lst (bs++ms))) a p pn ts (m+k):=by
 have s:Same H (upd H p (.lst (bs++ms))):=Same.upd hp;obtain⟨I,e,l⟩:=S.e;exact⟨⟨I,s _ _ e,l⟩,⟨bs++ms,zs++ws,Ac,(b2.append al).mono (PrW.same s.t),by rw[Pn];lia⟩,(λz=>by rw[z,e]at hp;cases hp),s _ _ S.hp,S.np,S.lt⟩
def Js (K:Ph)(n:Nat):Sp:=λvs H Q _=>eX7 λ(a ar pn:Addr)(ts:List Str)(m room:Nat)(so:Str)=>vs=[.ref a,.ref ar,.ref pn,.int (room:Nat),.str so]/\FS K H a ar pn ts m/\m+2*room<=500/\1<=room/\room<=n/\∀v t H',FR a H H'->TrAt K H' v t->Tf t->t.size+1<=3*room->Q v H'
theorem Zb2 (h1:H b=some (.tup [.str wd,nv,.ref p]))(hn:IsN K H nv n)(h2:H p=some (.tup us))(al:Al (TrAt K H) us ts):TrAt K H (.ref b) (.mk wd n ts):=.mk (SqT.of h1) hn (SqT.of h2) al.1 λj v t I O=>al.2 j v t I O
theorem laid (r:FR a H0 H)(hn:IsN K H nv n)(al:Al (TrAt K H) us ts)(h1:H p=none)(h2:upd H p (.tup us) b=none):FR a H0 (upd (upd H p (.tup us)) b (.tup [.str wd,nv,.ref p]))/\TrAt K (upd (upd H p (.tup us)) b (.tup [.str wd,nv,.ref p])) (.ref b) (.mk wd n ts):=by
 have O:=Same.upd (o:=.tup us) h1;have I:=Same.upd (o:=.tup [.str wd,nv,.ref p]) h2;have s:=O.trans I;exact⟨r.put s,Zb2 Ac (hn.same s.t) (I _ _ Ac) (al.mono λv t h=>h.same s)⟩
theorem tf_1 (hb:Dg wd n 1)(h1:Tf t1):Tf (.mk wd n [t1]):=.mk hb λt h=>by rw[P7.mp h];exact h1
theorem N8 (hb:Dg wd n 2)(h1:Tf t1)(h2:Tf t2):Tf (.mk wd n [t1,t2]):=.mk hb λt h=>by
 rcases Pr.mp h with rfl|h
 ·exact h1
 ·rw[P7.mp h];exact h2
theorem tf_3 (hb:Dg wd n 3)(h1:Tf t1)(h2:Tf t2)(h3:Tf t3):Tf (.mk wd n [t1,t2,t3]):=.mk hb λt h=>by
 rcases Pr.mp h with rfl|h
 ·exact h1
 ·rcases Pr.mp h with rfl|h
  ·exact h2
  ·rw[P7.mp h];exact h3
theorem sz_1:(Tr.mk wd n [t1]).size=1+t1.size:=by simp[Tr.size,Bs]
theorem Zbp:(Tr.mk wd n [t1,t2]).size=1+(t1.size+t2.size):=by simp[Tr.size,Bs]
theorem sz_3:(Tr.mk wd n [t1,t2,t3]).size=1+(t1.size+(t2.size+t3.size)):=by simp[Tr.size,Bs]
mutual
theorem Zb4:∀(pl:List Nat)(t:Tr)(x:List Nat×Tr),x∈walk pl t->∃q,x.1=pl++q
 |pl,.mk w n ps,x,h=>by
  rw[walk]at h;rcases Pr.mp h with rfl|h
  ·exact⟨[],by simp⟩
  ·exact Zex pl 0 ps x h
theorem Zex:∀(pl:List Nat)(i:Nat)(ts:List Tr)(x:List Nat×Tr),x∈Bm pl i ts->∃q,x.1=pl++q
 |_,_,[],x,h=>by rw[Bm]at h;exact nomatch h
 |pl,i,t::r,x,h=>by
  rw[Bm]at h;rcases Q4.mp h with h|h
  ·obtain⟨q,e⟩:=Zb4 (pl++[i]) t x h;exact⟨[i]++q,by rw[e,Qf]⟩
  ·exact Zex pl (i+1) r x h
end
theorem Zfk (x:List Nat×Tr)(l:List (List Nat×Tr))(pl:List Nat):C4 (x::l) pl=(C4 l pl).or (if x.1=pl then some x.2 else none):=by
 unfold C4;rw[Wu,List.find?_append];cases h:l.reverse.find? λx=>decide (x.1=pl) with
 |some y=>simp
 |none =>
  by_cases e:x.1=pl
  ·simp[e]
  ·simp[e]
theorem Zic (h:∀x∈ws,x.1≠pl):C4 ws pl=none:=by
 unfold C4;rw[List.find?_eq_none.mpr]
 ·rfl
 ·intro x I;rw[decide_eq_true_iff];exact h x (Wx.mp I)
noncomputable def Ce:Tr->List Nat->Option Tr
 |t,[]=>some t
 |.mk _ _ ts,i::r=>match ts[i]? with
  |some t=>Ce t r
  |none=>none
termination_by structural _ pl=>pl
theorem Go (t:Tr):Ce t []=some t:=by rw[Ce]
theorem Fa (w:Str)(n:Dt)(ts:List Tr)(i:Nat)(r:List Nat):Ce (.mk w n ts) (i::r)=(ts[i]?).bind λt=>Ce t r:=by
 rw[Ce];cases ts[i]? <;> rfl
theorem Zm2 (a b:List (List Nat×Tr))(pl:List Nat):C4 (a++b) pl=(C4 b pl).or (C4 a pl):=by
 unfold C4;rw[Tc,List.find?_append];cases b.reverse.find? λx=>decide (x.1=pl) <;> simp
theorem Zix:∀(pl:List Nat)(i:Nat)(ts:List Tr)(x:List Nat×Tr),x∈Bm pl i ts->eX2 λk q=>i<=k/\x.1=pl++k::q
 |_,_,[],x,h=>by rw[Bm]at h;exact nomatch h
 |pl,i,t::r,x,h=>by
  rw[Bm]at h;rcases Q4.mp h with h|h
  ·obtain⟨q,e⟩:=Zb4 (pl++[i]) t x h;exact⟨i,q,Pl _,by rw[e,Qf];rfl⟩
  ·obtain⟨k,q,I,e⟩:=Zix pl (i+1) r x h;exact⟨k,q,by lia,e⟩
mutual
theorem Zfb:∀(p:List Nat)(t:Tr)(q:List Nat),C4 (walk p t) (p++q)=Ce t q
 |p,.mk w n ps,[]=>by
  rw[walk,Zfk,Zic,Go,if_pos (by simp)]
  ·rfl
  ·intro x I;obtain⟨k,q,_,e⟩:=Zix p 0 ps x I;rw[e];intro z;have:=congrArg Sx z;simp at this
 |p,.mk w n ps,k::r=>by
  rw[walk,Zfk,Zh2 p 0 ps k r,if_pos (Qn _),Fa,if_neg (λz=>by have:=congrArg Sx z;simp at this),Option.or_none,Ut]
theorem Zh2:∀(p:List Nat)(i:Nat)(ts:List Tr)(k:Nat)(r:List Nat),C4 (Bm p i ts) (p++k::r)=if i<=k then (ts[k-i]?).bind (λt=>Ce t r) else none
 |p,i,[],k,r=>by
  rw[Bm];split <;> simp[C4]
 |p,i,t::ts,k,r=>by
  rw[Bm,Zm2,Zh2 p (i+1) ts k r];by_cases O:k=i
  ·subst O;rw[if_neg (by lia),if_pos (Pl _),Q7,Option.none_or];have:=Zfb (p++[k]) t r;rw[Qf]at this;rw[show p++k::r=p++([k]++r) from rfl,this];rfl
  ·have e:C4 (walk (p++[i]) t) (p++k::r)=none:=Zic λx U z=>by
    obtain⟨q,e⟩:=Zb4 _ _ _ U;rw[e,Qf]at z;have:=Rh z;simp at this;exact O this.1.symm
   rw[e,Option.or_none];by_cases I:i<=k
   ·rw[if_pos (by lia),if_pos I,show k-i=(k-(i+1))+1 by lia];rfl
   ·rw[if_neg (by lia),if_neg I]
end
theorem Kc (t:Tr)(pl:List Nat):C6 t pl=(Ce t pl).map λu=>(u.wd,Fw u):=by
 unfold C6;rw[<- Zfb [] t pl];rfl
theorem Ztj (t:Tr)(p q:List Nat):Ce t (p++q)=(Ce t p).bind λu=>Ce u q:=by
 induction p generalizing t with
 |nil=>rw[Sf,Go];rfl
 |cons i r I =>
  cases t with
  |mk w n ts =>
   rw[Ry,Fa,Fa];cases ts[i]? with
   |none=>rfl
   |some u=>exact I u
theorem J9:∀{pl:List Nat},Tf t->Ce t pl=some u->Tf u/\pl.length+u.size<=t.size:=by
 intro pl
 induction pl generalizing t with
 |nil=>intro h e;rw[Go]at e;cases e;exact⟨h,by simp⟩
 |cons i r U =>
  intro h e;cases t with
  |mk w n ts =>
   rw[Fa]at e;obtain⟨x,I,e⟩:=Wf.mp e;cases h with
   |mk Y O =>
    obtain⟨h1,h2⟩:=U (O x (Qs I)) e;have:=K3 I;rw[Tr.size,Qa];exact⟨h1,by lia⟩
theorem Kg (h:C6 t pl=some x):∃u,Ce t pl=some u/\x=(u.wd,Fw u):=by
 rw[Kc]at h;obtain⟨u,h1,h2⟩:=Q3.mp h;exact⟨u,h1,h2.symm⟩
theorem Zdw (h:Ce t pl=some u)(hj:j<u.ps.length):∃x,C6 t (pl++[j])=some x:=by
 rw[Kc,Ztj,h,Rz];cases u with
 |mk w n ts =>
  have hj:j<ts.length:=hj;rw[Fa,Pj hj,Rz,Go];exact⟨_,rfl⟩
theorem Kk (h:Tf u):Dg u.wd (Fw u) u.ps.length:=by cases h with|mk hw _=>exact hw
theorem Zbm (h:Dg w n k):(w∈(["plus","minus","less","call","let"]:List Str)->k=2)/\(w="if" -> k=3)/\(w∈(["fn","rec"]:List Str)->k=1):=by
 have hp:=h.p;refine⟨λI=>?_,λI=>?_,λI=>?_⟩
 ·simp only[Pr,Pz,or_false]at I;rcases I with rfl|rfl|rfl|rfl|rfl <;> (rw[show Ha _=some 2 by right]at hp;exact(Qg hp).symm)
 ·subst I;rw[show Ha "if"=some 3 by right]at hp;exact(Qg hp).symm
 ·simp only[Pr,Pz,or_false]at I;rcases I with rfl|rfl <;> (rw[show Ha _=some 1 by right]at hp;exact(Qg hp).symm)
theorem Zkf (h:Tf t)(hz:t.size<=5000):SubOk (C6 t):=by
 refine⟨λI=>?_,λI=>?_,λ{pl wd d} I U=>?_,λ{pl wd d} I U=>?_,λ{pl wd d} I U=>?_⟩
 ·obtain⟨u,h1,_⟩:=Kg I;have:=(J9 h h1).2;lia
 ·obtain⟨u,h1,e⟩:=Kg I;have Y:=Kk (J9 h h1).1;cases e;exact⟨Y.i,Y.t,Y.z,Y.b⟩
 ·obtain⟨u,h1,e⟩:=Kg I;obtain⟨p1,p2,O⟩:=Zbm (Kk (J9 h h1).1);cases e;refine Zdw h1 ?_;simp only[Pr,Pz,or_false]at U p1 O;rcases U with e|e|e|e|e|e|e|e
  all_goals first|(have:=p2 e;lia)|(have:=O (.inl e);lia)|(have:=O (.inr e);lia)|(have:=p1 (.inl e);lia)|(have:=p1 (.inr (.inl e));lia)|(have:=p1 (.inr (.inr (.inl e)));lia)|(have:=p1 (.inr (.inr (.inr (.inl e))));lia)|(have:=p1 (.inr (.inr (.inr (.inr e))));lia)
 ·obtain⟨u,h1,e⟩:=Kg I;obtain⟨p1,p2,O⟩:=Zbm (Kk (J9 h h1).1);cases e;refine Zdw h1 ?_;simp only[Pr,Pz,or_false]at U p1 O;rcases U with e|e|e|e|e|e
  all_goals first|(have:=p2 e;lia)|(have:=O (.inl e);lia)|(have:=O (.inr e);lia)|(have:=p1 (.inl e);lia)|(have:=p1 (.inr (.inl e));lia)|(have:=p1 (.inr (.inr (.inl e)));lia)|(have:=p1 (.inr (.inr (.inr (.inl e))));lia)|(have:=p1 (.inr (.inr (.inr (.inr e))));lia)
 ·obtain⟨u,h1,e⟩:=Kg I;obtain⟨p1,p2,O⟩:=Zbm (Kk (J9 h h1).1);cases e;refine Zdw h1 ?_;have:=p2 U;lia
def Cb (sub:List Nat->Option (Str×Dt))(p:List (List Int))(bc:List (Str×V))(R:List Rx)(r:Rx)(x:Str×V)(R1:List Rx)(k:Int):Prop :=
 if r.pl∈p then Ex sub (C7 r.pl) (A4 bc r.ar) R x R1 k else if (Bl r.wd).isSome=true then Fx sub r.wd (C7 r.pl) (A4 bc r.ar) (Bw bc r.ops) R x R1 k
 else x=(("row":Str),.int (R.length:Nat))/\R1=R++[⟨r.wd,r.pl,Bw bc r.ops,if r.wd∈WA then A4 bc r.ar else []⟩]/\k=0
inductive Gx (sub:List Nat->Option (Str×Dt))(p:List (List Int)):List Rx->List (Str×V)->List Rx->List (Str×V)->List Rx->Int->Prop
 |nil {bc:List (Str×V)} {R:List Rx}:Gx sub p [] bc R bc R 0
 |cons {bc bc':List (Str×V)} {R R1 R':List Rx} {r:Rx} {l:List Rx} {x:Str×V} {k1 k2:Int} (h:Cb sub p bc R r x R1 k1) (t:Gx sub p l (bc++[x]) R1 bc' R' k2):Gx sub p (r::l) bc R bc' R' (k1+k2)
section
variable {sub:List Nat->Option (Str×Dt)}{p:List (List Int)}
theorem Li (h:Cb sub p bc R r x R1 k):(∃m,R1=R++m)/\0<=k:=by
 unfold Cb at h;split at h
 ·exact⟨F7 h,C2 h⟩
 split at h
 ·exact⟨F7 h,C2 h⟩
 ·obtain⟨_,rfl,rfl⟩:=h;exact⟨⟨_,rfl⟩,by lia⟩
theorem Zfj {bc:List (Str×V)}{R R1 R2:List Rx}{r:Rx}{x y:Str×V}{k j:Int}(h:Cb sub p bc R r x R1 k)(h':Cb sub p bc R r y R2 j):x=y/\R1=R2/\k=j:=by
 unfold Cb at h h';split at h
 ·rename_i I;rw[if_pos I]at h';exact Zeh h h'
 rename_i I;rw[if_neg I]at h';split at h
 ·rename_i hd;rw[if_pos hd]at h';exact Zeh h h'
 ·rename_i hd;rw[if_neg hd]at h';exact⟨h.1.trans h'.1.symm,h.2.1.trans h'.2.1.symm,h.2.2.trans h'.2.2.symm⟩
theorem Mw (h:Gx sub p l bc R bc' R' k):0<=k/\(∃m,R'=R++m)/\∃g,bc'=bc++g/\g.length=l.length:=by
 induction h with
 |nil=>exact⟨by lia,⟨[],by simp⟩,[],by simp,rfl⟩
 |cons h _ O =>
  obtain⟨⟨m,rfl⟩,h0⟩:=Li h;obtain⟨h1,⟨U,rfl⟩,g,rfl,I⟩:=O;exact⟨by lia,⟨_,by rw[Qf]⟩,_,by rw[Qf],by simp[I]⟩
theorem Znq {l:List Rx}{bc b1 b2:List (Str×V)}{R R1 R2:List Rx}{k j:Int}(h:Gx sub p l bc R b1 R1 k)(h':Gx sub p l bc R b2 R2 j):b1=b2/\R1=R2/\k=j:=by
 induction h generalizing b2 R2 j with
 |nil=>cases h';exact⟨rfl,rfl,rfl⟩
 |cons h _ I =>
  cases h' with
  |cons g t =>
   obtain⟨rfl,rfl,rfl⟩:=Zfj h g;obtain⟨rfl,rfl,rfl⟩:=I t;exact⟨rfl,rfl,rfl⟩
theorem Zfu {l m:List Rx}{bc b1 b2:List (Str×V)}{R R1 R2:List Rx}{k j:Int}(h:Gx sub p l bc R b1 R1 k)(h':Gx sub p m b1 R1 b2 R2 j):Gx sub p (l++m) bc R b2 R2 (k+j):=by
 induction h with
 |nil=>rw[Sw];exact h'
 |cons h _ I =>
  have:=Gx.cons h (I h');rw[Tp];exact this
theorem Zef:∀{l m:List Rx}{bc b2:List (Str×V)}{R R2:List Rx}{k:Int},Gx sub p (l++m) bc R b2 R2 k->eX4 λb1 R1 k1 k2=>Gx sub p l bc R b1 R1 k1/\Gx sub p m b1 R1 b2 R2 k2/\k=k1+k2
 |[],_,_,_,_,_,_,h=>⟨_,_,0,_,.nil,h,by lia⟩
 |_::l,m,_,_,_,_,_,h=>by
  cases h with
  |cons h t =>
   obtain⟨b1,R1,k1,k2,g1,g2,rfl⟩:=Zef t;exact⟨b1,R1,_,k2,.cons h g1,g2,by lia⟩
theorem Zux (h:Cb sub p bc R r x R1 k):Gx sub p [r] bc R (bc++[x]) R1 k:=by
 have:=Gx.cons h .nil;rw[Q8]at this;exact this
end
theorem Em {bc:List (Str×V)}{x:Str×V}(h:x.1≠"row"):A7 bc x=x:=by unfold A7;rw[if_neg h]
theorem Jk (h:bc[i]?=some y):A7 bc (("row":Str),V.int (i:Nat))=y:=by
 unfold A7;rw[if_pos rfl];show(bc[((i:Nat):Int).toNat]?).getD _=y;rw[Qx,h];rfl
theorem Zh8 (h:TOk bc.length x):A7 (bc++g) x=A7 bc x:=by
 rcases h with⟨h,_⟩|⟨h,_⟩|⟨h,k,e,I⟩
 ·rw[Em (by rw[h];right),Em (by rw[h];right)]
 ·rw[Em (by rw[h];right),Em (by rw[h];right)]
 ·have ex:x=(("row":Str),V.int (k:Nat)):=by rw[<- h,<- e]
  rw[ex,Jk (Pj I),Jk ((Qj I).trans (Pj I))]
theorem Zdr (h:AOk bc.length ar):A4 (bc++g) ar=A4 bc ar:=by
 unfold A4;exact Ub λy I=>by rw[Zh8 (h y I)]
theorem N5:∀(ns:List Str)(xs:List (Str×V)),A4 bc (Cd ns xs)=Cd ns (xs.map (A7 bc))
 |[],xs=>by unfold A4 Cd;simp
 |_::_,[]=>by unfold A4 Cd;simp
 |a::ns,x::xs=>by
  have:=N5 (bc:=bc) ns xs;unfold A4 Cd at this ⊢;rw[Qq,List.zip_cons_cons,List.zip_cons_cons,Qq,this]
theorem Zd4 (l m:Ar):A4 bc (l++m)=A4 bc l++A4 bc m:=by unfold A4;rw[Qi]
theorem Zh1:Dk (A4 bc ar) z=(Dk ar z).map (A7 bc):=by
 unfold Dk A4;rw[<- List.map_reverse,List.find?_map,Option.map_map,Option.map_map];rfl
structure Inv (rs:List Rx)(bc:List (Str×V))(R:List Rx):Prop where
 len:bc.length=rs.length
 fn:∀(i:Nat)(r:Rx),rs[i]?=some r->r.wd∈(["fn","rec"]:List Str)->eX2 λ(m:Nat)(r':Rx)=>bc[i]?=some (("row":Str),V.int (m:Nat))/\R[m]?=some r'/\r'.wd=r.wd/\r'.pl=r.pl/\r'.ar=A4 bc r.ar
structure Fil (sub sub':List Nat->Option (Str×Dt))(p:List Nat):Prop where
 g:∃d,sub p=some (("gap":Str),d)
 o:∀pl x,sub pl=some x->pl≠p->sub' pl=some x
theorem Fil.ne (F:Fil sub sub' p)(hs:sub pl=some (wd,d))(hw:wd≠"gap"):pl≠p:=λe=>by
 obtain⟨I,h⟩:=F.g;rw[e,h]at hs;injection hs with hs;injection hs with h1 _;exact hw h1.symm
theorem Zap (h:Ap a=Ap b):a=b:=by rw[<- Fi a,h,Fi]
theorem Zlf (F:Fil sub sub' p)(I:Inv rs bc R)(hl:RsOk sub (rs++[r]) st)(h:Cb sub' [Ap p] bc R r x R1 k):Inv (rs++[r]) (bc++[x]) R1:=by
 obtain⟨⟨m,hm⟩,_⟩:=Li h;refine⟨by rw[Pn,Pn,I.len];rfl,λi q U Y=>?_⟩;obtain⟨⟨hA,_⟩,_,_,H⟩:=hl i q U;by_cases hi:i<rs.length
 ·have O:=U;rw[Qj hi]at O;obtain⟨j,r',h1,h2,h3,h4,h5⟩:=I.fn i q O Y;refine⟨j,r',by rw[Qj (by rw[I.len];exact hi)];exact h1,?_,h3,h4,?_⟩
  ·rw[hm];exact(Qj (Ps.mp h2).1).trans h2
  ·rw[h5,Zdr (hA.up (by rw[I.len];lia))]
 ·have aa:i=rs.length:=by
   have:=(Ps.mp U).1;rw[Pn,Py]at this;lia
  subst aa;have O:=U;rw[Qr (Pl _),Q7]at O;cases O;obtain⟨d,e2⟩:=H.s;have Z:r.wd≠"gap"/\(Bl r.wd).isSome=false/\r.wd∈WA:=by
   simp only[Pr,Pz,or_false]at Y;rcases Y with e|e <;> rw[e] <;> exact⟨by right,by right,by right⟩
  have hp:¬r.pl∈[Ap p]:=λe=>F.ne e2 Z.1 (by rw[P7.mp e,Fi]);unfold Cb at h;rw[if_neg hp,if_neg (by rw[Z.2.1];decide)]at h;obtain⟨rfl,rfl,rfl⟩:=h;refine⟨R.length,⟨r.wd,r.pl,Bw bc r.ops,if r.wd∈WA then A4 bc r.ar else []⟩,by rw[<- I.len,Qr (Pl _),Q7];rfl,by rw[Qr (Pl _),Q7];rfl,rfl,rfl,?_⟩;show(if r.wd∈WA then A4 bc r.ar else [])=_;rw[if_pos Z.2.2,Zdr (by rw[I.len];exact hA)]
theorem Jx (F:Fil sub sub' p):∀{l rs R R':List Rx}{bc bc':List (Str×V)}{k:Int},Inv rs bc R->RsOk sub (rs++l) st->Gx sub' [Ap p] l bc R bc' R' k->Inv (rs++l) bc' R'
 |[],rs,R,R',bc,bc',k,I,_,h=>by
  cases h;rw[Q0];exact I
 |r::l,rs,R,R',bc,bc',k,I,hl,h=>by
  cases h with
  |cons h t =>
   have e:rs++r::l=rs++[r]++l:=by rw[Qf];rfl
   rw[e]at hl ⊢;exact Jx F (Zlf F I hl.cut h) hl t
theorem Ie (g:Gx sub p l b R b1 R1 k):(∀{ar:Ar},AOk b.length ar->A4 b1 ar=A4 b ar)/\∀{x:Str×V},TOk b.length x->A7 b1 x=A7 b x:=by
 obtain⟨_,_,q,rfl,_⟩:=Mw g;exact⟨Zdr,Zh8⟩
def Sm2 (sub:List Nat->Option (Str×Dt))(p:List (List Int))(X:List Rx->Str×V->List Rx->Int->Prop)(x:Str×V)(c:Int)(m:List Rx)(bc:List (Str×V))(R:List Rx):Prop :=
 (∀bc' R' k,Gx sub p m bc R bc' R' k->X R (A7 bc' x) R' (c+k))/\(∀y R' k,X R y R' k->eX2 λbc' k'=>Gx sub p m bc R bc' R' k'/\y=A7 bc' x/\k=c+k')
section
variable {sub:List Nat->Option (Str×Dt)}{p:List (List Int)}{bc:List (Str×V)}{R:List Rx}
theorem Sm2.bind {X:List Rx->Str×V->List Rx->Int->Prop}{Y:Str×V->List Rx->Str×V->List Rx->Int->Prop}{a x:Str×V}{c1 c2:Int}{m1 m2:List Rx}(h1:Sm2 sub p X a c1 m1 bc R)(h2:∀b1 R1 k1,Gx sub p m1 bc R b1 R1 k1->Sm2 sub p (Y (A7 b1 a)) x c2 m2 b1 R1):Sm2 sub p (λR y R' k=>eX4 λa' R1 k1 k2=>X R a' R1 k1/\Y a' R1 y R' k2/\k=k1+k2) x (c1+c2) (m1++m2) bc R:=by
 constructor
 ·intro O R' k g;obtain⟨b1,R1,k1,k2,g1,g2,rfl⟩:=Zef g;exact⟨_,R1,_,_,h1.1 _ _ _ g1,(h2 _ _ _ g1).1 _ _ _ g2,by lia⟩
 ·rintro y R' k ⟨a',R1,k1,k2,U,e2,rfl⟩;obtain⟨b1,Z,g1,rfl,rfl⟩:=h1.2 _ _ _ U;obtain⟨b2,I,g2,rfl,rfl⟩:=(h2 _ _ _ g1).2 _ _ _ e2;exact⟨b2,Z+I,Zfu g1 g2,rfl,by lia⟩
theorem Sm2.one (h:Sm2 sub p X x c m bc R)(e:∀y R' k,Y R y R' k↔∃k',X R y R' k'/\k=1+k')(hc:c'=1+c)(hm:m'=m):Sm2 sub p Y x c' m' bc R:=by
 subst hc hm;constructor
 ·intro I R' k g;exact(e _ _ _).mpr ⟨_,h.1 _ _ _ g,by lia⟩
 ·intro y R' k O;obtain⟨k',U,rfl⟩:=(e _ _ _).mp O;obtain⟨b,j,g,rfl,rfl⟩:=h.2 _ _ _ U;exact⟨b,j,g,rfl,by lia⟩
theorem Sm2.none (h:X R (A7 bc x) R c)(det:∀y R' k,X R y R' k->y=A7 bc x/\R'=R/\k=c):Sm2 sub p X x c [] bc R:=by
 constructor
 ·intro I R' k g;cases g;rw[Q8];exact h
 ·intro y R' k O;obtain⟨rfl,rfl,rfl⟩:=det _ _ _ O;exact⟨bc,0,.nil,rfl,by lia⟩
theorem Sm2.row (hn:bc.length=n)(e:∀y R' k,X R y R' (c+k)↔Cb sub p bc R r y R' k):Sm2 sub p X (("row":Str),V.int (n:Nat)) c [r] bc R:=by
 have nw:∀x,A7 (bc++[x]) (("row":Str),V.int (n:Nat))=x:=λx=>Jk (by rw[<- hn,Qr (Pl _),Q7];rfl);constructor
 ·intro O R' k g;cases g with
  |cons h t =>
   cases t;rw[nw,Q8];exact(e _ _ _).mpr h
 ·intro y R' k I;have I:X R y R' (c+(k-c)):=by rw[show c+(k-c)=k by lia];exact I
  exact⟨_,k-c,Zux ((e _ _ _).mp I),(nw y).symm,by lia⟩
end
theorem Sm2.iff (h:Sm2 sub p X x c m bc R)(e:∀y R' k,Y R y R' k↔X R y R' k):Sm2 sub p Y x c m bc R:=⟨λI R' k g=>(e _ _ _).mpr (h.1 _ _ _ g),λy R' k O=>h.2 _ _ _ ((e _ _ _).mp O)⟩
theorem Zcz {sub':List Nat->Option (Str×Dt)}{rs R:List Rx}{bc:List (Str×V)}(I:Inv rs bc R){k:Nat}{r:Rx}{d:Dt}(hr:rs[k]?=some r)(hf:r.wd∈(["fn","rec"]:List Str))(hs:sub' (C7 r.pl)=some (r.wd,d))(y:Str×V):C5 R (A7 bc (("row":Str),V.int (k:Nat)))=true/\Nf sub' R (A7 bc (("row":Str),V.int (k:Nat))) y=some (C7 r.pl++[0],A4 bc r.ar++Cd (Dc r.wd d 0) (if r.wd="rec" then [A7 bc (("row":Str),V.int (k:Nat)),y] else [y])):=by
 obtain⟨m,Y,h1,h2,O,U,h5⟩:=I.fn k r hr hf;rw[Jk h1];constructor
 ·unfold C5;simp only[Qx];rw[h2];simp only;rw[O,decide_eq_true hf];rfl
 ·unfold Nf;simp only[Qx];rw[h2];simp only[Rz];rw[U,hs,O,h5];rfl
theorem two_gap (h:wd∈TWO):wd≠"gap"/\(Bl wd).isSome=true:=⟨(Zb8 h).2,by rw[(Zb8 h).1];rfl⟩
noncomputable def D0 (b:List (Str×V)):Jb->Jb
 |.fm pl ar=>.fm pl (A4 b ar)
 |.fu wd pl ar ops=>.fu wd pl (A4 b ar) (Bw b ops)
theorem Zhw {b:List (Str×V)}{k:Nat}{r:Rx}{d:Dt}{y:Str×V}:A4 b (r.ar++Cd (Dc r.wd d 0) (if r.wd="rec" then [(("row":Str),V.int (k:Nat)),y] else [y]))=A4 b r.ar++Cd (Dc r.wd d 0) (if r.wd="rec" then [A7 b (("row":Str),V.int (k:Nat)),A7 b y] else [A7 b y]):=by
 rw[Zd4,N5];split <;> rfl
section
variable {sub sub':List Nat->Option (Str×Dt)}{p:List Nat}(S:SubOk sub)(F:Fil sub sub' p)
include S F
theorem sim {j:Jb}{rs r:List Rx}{x:Str×V}{k:Int}(h:Xj sub j rs x r k):∀{st:Int},Gp sub j rs st->∀{b:List (Str×V)}{R:List Rx},Inv rs b R->∀{m:List Rx},r=rs++m->Sm2 sub' [Ap p] (Xj sub' (D0 b j)) x k m b R:=by
 induction h with
 | @two pl ar rs r1 r2 r3 wd d u v x k1 k2 k3 U hw ha hb hf i1 i2 i3 =>
  intro st E b R I m O;have E:EOk sub ar rs st:=E;have ta:=Fu S ha E.up;have Ea:=E.up.on ta;have tb:=Fu S hb Ea;have Eb:=Ea.on tb;obtain⟨m1,rfl⟩:=F7 ha;obtain⟨m2,rfl⟩:=F7 hb;obtain⟨m3,rfl⟩:=F7 hf;rw[Qf,Qf]at O;cases Rh O;have Z:=F.o _ _ U (F.ne U (two_gap hw).1);have hA:AOk b.length ar:=by rw[I.len];exact E.a
  refine((i1 E.up I rfl).bind (Y:=λa' R y R' k=>eX4 λb' R2 k3 k4=>Ex sub' (pl++[1]) (A4 b ar) R b' R2 k3/\Fx sub' wd pl (A4 b ar) [a',b'] R2 y R' k4/\k=k3+k4) λb1 R1 _ g1=>?_).one (λy R' k=>two_iff Z hw) rfl rfl;have Ia:=Jx F I Ea.r g1;have s2:=i2 Ea Ia rfl;dsimp only[D0]at s2;rw[(Ie g1).1 hA]at s2;refine s2.bind (Y:=λb'=>Fx sub' wd pl (A4 b ar) [A7 b1 u,b']) λb2 R2 _ g2=>?_;have s3:=i3 ⟨Eb,two_mem (ta.t.up tb.l) tb.t,d,U⟩ (Jx F Ia Eb.r g2) rfl;dsimp only[D0,Bw,R4]at s3;rw[(Ie g2).1 (by rw[Ia.len];exact Ea.a),(Ie g1).1 hA]at s3;rw[(Ie g2).2 (by rw[Ia.len];exact ta.t)]at s3;exact s3
 | @lets pl ar rs r1 r2 d u x k1 k2 U ha hb i1 i2 =>
  intro st E b R I m O;have E:EOk sub ar rs st:=E;have ta:=Fu S ha E.up;have Ea:=E.up.on ta;obtain⟨m1,rfl⟩:=F7 ha;obtain⟨m2,rfl⟩:=F7 hb;rw[Qf]at O;cases Rh O;have Z:=F.o _ _ U (F.ne U (by right));refine((i1 E.up I rfl).bind (Y:=λa'=>Ex sub' (pl++[1]) (A4 b ar++Cd (Dc "let" d 1) [a'])) λb1 R1 _ g1=>?_).one (λy R' k=>Zda Z) rfl rfl;have s2:=i2 (Ea.put ta.t (by have:=E.l;have:=ta.s;lia) _) (Jx F I Ea.r g1) rfl;dsimp only[D0]at s2;rw[Zd4,(Ie g1).1 (by rw[I.len];exact E.a),N5]at s2;exact s2
 | @ifs pl ar rs r1 r2 d u x k1 k2 U ha hf i1 i2 =>
  intro st E b R I m O;have E:EOk sub ar rs st:=E;have ta:=Fu S ha E.up;have Ea:=E.up.on ta;obtain⟨m1,rfl⟩:=F7 ha;obtain⟨m2,rfl⟩:=F7 hf;rw[Qf]at O;cases Rh O;have Z:=F.o _ _ U (F.ne U (by right));refine((i1 E.up I rfl).bind (Y:=λa'=>Fx sub' "if" pl (A4 b ar) [a']) λb1 R1 _ g1=>?_).one (λy R' k=>Zcg Z) rfl rfl;have s2:=i2 ⟨Ea,Ow ta.t,d,U⟩ (Jx F I Ea.r g1) rfl;dsimp only[D0,Bw,R4]at s2;rw[(Ie g1).1 (by rw[I.len];exact E.a)]at s2;exact s2
 | @leaf pl ar rs wd d U h2 h3 h4 =>
  intro st E b R I m O;by_cases hp:pl=p
  ·subst hp;obtain⟨d',hg⟩:=F.g;cases U.symm.trans hg;rw[O8 (by right) (λe=>absurd e (by right)) (λe=>absurd e (by right))]at O ⊢;cases Rh O;refine Sm2.row I.len λy R' k=>?_;unfold Cb;rw[if_pos (P7.mpr rfl),Fi,show Cq "gap"=0 by right,Sw,if_pos (show("gap":Str)∈WA by right)];exact Iff.rfl
  have Z:=F.o _ _ U hp;have lf:∀{y R' k},Xj sub' (D0 b (.fm pl ar)) R y R' k↔y=(Ct wd d pl (A4 b ar) R).1/\R'=(Ct wd d pl (A4 b ar) R).2/\k=Cq wd:=λ{y R' k}=>⟨Zjp Z h2 h3 h4,by rintro⟨rfl,rfl,rfl⟩;exact .leaf Z h2 h3 h4⟩;have nn:∀{y z:Str×V},Ct wd d pl ar rs=(y,rs)->Ct wd d pl (A4 b ar) R=(z,R)->A7 b y=z->Sm2 sub' [Ap p] (Xj sub' (D0 b (.fm pl ar))) (Ct wd d pl ar rs).1 (Cq wd) m b R:=λ{y z} e1 e2 e3=>by
   rw[e1]at O ⊢;have O:m=[]:=by simpa using O
   subst O;refine Sm2.none (lf.mpr ?_) λy' R' k hy=>?_
   ·rw[e2,e3];exact⟨rfl,rfl,rfl⟩
   ·have hy:=lf.mp hy;rw[e2]at hy;rw[e3];exact hy
  obtain⟨_,_,n3,_⟩:=S.nt U;rcases Zh9 n3 ar with g1|⟨z,y,rfl,e2,e3⟩|⟨g1,l1⟩
  ·refine nn (Zed g1) (Zed g1) (Em λe=>?_);have e:wd="row":=e;rw[e]at g1;revert g1;right
  ·exact nn (Zdi e2 e3) (Zdi e2 (by rw[Zh1,e3];rfl)) rfl
  ·rw[O8 g1 (λe z hz=>l1 z e hz) n3]at O ⊢;cases Rh O;refine Sm2.row I.len λy R' k=>?_;rw[lf,O8 g1 (λe z hz=>by rw[Zh1,l1 z e hz];rfl) n3];unfold Cb;rw[if_neg (λe=>hp (Zap (P7.mp e))),if_neg (show ¬(Bl wd).isSome=true by rw[Zdm h2 h3 h4];decide)];have ew:(if wd∈WA then A4 b (if wd∈WA then ar else []) else [])=if wd∈WA then A4 b ar else []:=by split <;> rfl
   show _↔y=_/\R'=R++[Rx.mk wd (Ap pl) [] (if wd∈WA then A4 b (if wd∈WA then ar else []) else [])]/\k=0;rw[ew,show Cq wd+k=Cq wd↔k=0 by lia]
 | @call pl ar rs r u v x k c hf hc he i =>
  intro st E b R I m O;obtain⟨E,ho,_⟩:=E;obtain⟨n,q,rfl,hr,hw⟩:=Na hf (ho u (by simp));obtain⟨d',aa,_,ac⟩:=Nd (y:=v) hr hw E.r;cases hc.symm.trans ac;obtain⟨f1,f2⟩:=Zcz I hr hw (F.o _ _ aa (F.ne aa λe=>by rw[e]at hw;revert hw;right)) (A7 b v);refine(i (N6 E hr hw (ho v (by simp))) I O).iff λy R' k'=>?_;dsimp only[D0,Bw,R4];rw[Zhw];exact Zcm ⟨rfl,f1⟩ f2
 | @join pl ar rs wd u v hw hf =>
  intro st E b R I m O;obtain⟨E,ho,d,U⟩:=E;dsimp only[D0,Bw,R4];by_cases h4:wd∈Ho/\u.1="num"/\v.1="num"
  ·have ej:∀q,Ef wd pl q u v=(E4 wd (Ez u.2) (Ez v.2),q):=λq=>by unfold Ef;rw[if_pos h4]
   rw[ej]at O ⊢;have O:m=[]:=by simpa using O
   subst O;rw[Em (bc:=b) (x:=u) (by rw[h4.2.1];right),Em (bc:=b) (x:=v) (by rw[h4.2.2];right)];have ef:=λ{y R' k}=>Zj6 (sub:=sub') (pl:=pl) (ar:=A4 b ar) (rs:=R) (a:=u) (b:=v) (x:=y) (r:=R') (k:=k) hw (λz=>by rw[z.1]at h4;exact absurd h4.1 (by right));rw[ej]at ef;have nr:A7 b (E4 wd (Ez u.2) (Ez v.2))=E4 wd (Ez u.2) (Ez v.2):=Em Zrb;refine Sm2.none (ef.mpr ⟨nr,rfl,rfl⟩) λy R' k hy=>?_;show y=A7 b (E4 wd (Ez u.2) (Ez v.2))/\_;rw[nr];exact ef.mp hy
  ·have ej:Ef wd pl rs u v=((("row":Str),V.int (rs.length:Nat)),rs++[⟨wd,Ap pl,[u,v],[]⟩]):=by unfold Ef;rw[if_neg h4]
   rw[ej]at O ⊢;cases Rh O;refine Sm2.row I.len λy R' k=>?_;unfold Cb;rw[if_neg (λe=>F.ne U (two_gap hw).1 (Zap (P7.mp e))),if_pos (two_gap hw).2,Fi,Sw];have na:∀a1 a2:Ar,Fx sub' wd pl a1 ([u,v].map (A7 b)) R y R' k->Fx sub' wd pl a2 ([u,v].map (A7 b)) R y R' k:=λa1 a2 h=>by
    dsimp only[R4]at h ⊢;cases h with
    |call h1 h2 h3=>exact .call h1 h2 h3
    |join h1 h2=>exact .join h1 h2
   exact⟨na _ _,na _ _⟩
 | @ifT pl ar rs r u x k ht _ i =>
  intro st E b R I m O;refine(i E.1 I O).iff λy R' k=>?_;dsimp only[D0,Bw,R4];rw[Em (bc:=b) (x:=u) (by rw[ht];right)];exact Zec ht
 | @ifN pl ar rs u ht =>
  intro st E b R I m O;obtain⟨E,ho,d,U⟩:=E;cases Rh O;refine Sm2.row I.len λy R' k=>?_;unfold Cb;rw[if_neg (λe=>F.ne U (by right) (Zap (P7.mp e))),if_pos (show(Bl "if").isSome=true by right),Fi,Sw];exact Iff.rfl
end
def SHP (wd:Str)(ops:List (Str×V)):Prop:=(wd∈TWO/\eX2 λx y=>ops=[x,y])\/wd="if" /\ ∃x,ops=[x]
def Jd (sub:List Nat->Option (Str×Dt))(j:Jb):Prop:=match j with
 |.fm pl _=>(sub pl).isSome=true
 |.fu wd _ _ ops=>SHP wd ops
theorem two_ps (h:wd∈TWO):wd∈(["plus","minus","less","call","let","if","fn","rec"]:List Str)/\wd∈(["plus","minus","less","call","let","if"]:List Str):=by
 unfold TWO at h;simp only[Pr,Pz,or_false]at h;rcases h with rfl|rfl|rfl|rfl <;> exact⟨by right,by right⟩
theorem E9 {α:Type}{o:Option α}(h:∃x,o=some x):o.isSome=true:=by obtain⟨x,rfl⟩:=h;rfl
theorem SubOk.b (S:SubOk sub)(hs:sub pl=some (("if":Str),d))(v:V):(sub (pl++[if v=.bl true then 1 else 2])).isSome=true:=by
 split
 ·exact E9 (S.p1 hs (by right))
 ·exact E9 (S.p2 hs rfl)
theorem SubOk.f (S:SubOk sub)(hs:sub pl=some (wd,d))(hw:wd∈(["fn","rec"]:List Str)):(sub (pl++[0])).isSome=true:=by
 refine E9 (S.p0 hs ?_);simp only[Pr,Pz,or_false]at hw;rcases hw with h|h <;> rw[h] <;> right
section
variable {sub sub':List Nat->Option (Str×Dt)}{p:List Nat}(S:SubOk sub)(F:Fil sub sub' p)
include S F
theorem Za9 {j:Jb}{rs r R R':List Rx}{st k k':Int}{x y:Str×V}{b:List (Str×V)}(E:Gp sub j rs st)(I:Inv rs b R)(h:Xj sub j rs x r k)(h':Xj sub' (D0 b j) R y R' k'):F9 sub rs st x r (st+k)/\∃b1,Inv r b1 R'/\y=A7 b1 x/\(∀{ar:Ar},AOk rs.length ar->A4 b1 ar=A4 b ar)/\∀{z:Str×V},TOk rs.length z->A7 b1 z=A7 b z:=by
 have t:=Fu S h E;obtain⟨m,rfl⟩:=F7 h;obtain⟨b1,k1,g,e,_⟩:=(sim S F h E I rfl).2 _ _ _ h';refine⟨t,b1,Jx F I t.r g,e,?_⟩;rw[<- I.len];exact Ie g
theorem old {j':Jb}{R R1:List Rx}{y:Str×V}{k':Int}(h:Xj sub' j' R y R1 k'):∀{j:Jb}{rs:List Rx}{st:Int}{b:List (Str×V)},j'=D0 b j->Gp sub j rs st->Jd sub j->Inv rs b R->eX3 λx r k=>Xj sub j rs x r k/\k<=k':=by
 have ac:∀{pl ar rs}{k':Int},pl=p->0<=k'->eX3 λx r k=>Xj sub (.fm pl ar) rs x r k/\k<=k':=λe h0=>by
  subst e;obtain⟨d,hg⟩:=F.g;exact⟨_,_,_,.leaf hg (by right) (by right) (by right),by rw[show Cq "gap"=0 by right];exact h0⟩
 have ad:∀{pl:List Nat}{x},pl≠p->(sub pl).isSome=true->sub' pl=some x->sub pl=some x:=λh1 h2 h3=>by
  obtain⟨y,hy⟩:=R6.mp h2;rw[hy,<- h3,F.o _ _ hy h1]
 induction h with
 | @two pl Y R r1 r2 r3 wd d a b' y k1 k2 k3 O U ha hb hf i1 i2 i3 =>
  intro j rs st b e E D I;have n1:=C2 ha;have n2:=C2 hb;have n3:=C2 hf;cases j with
  |fu=>cases e
  |fm Z ar =>
  cases e;have E:EOk sub ar rs st:=E;by_cases hp:pl=p
  ·exact ac hp (by lia)
  have O:=ad hp D O;obtain⟨u,q1,c1,xa,l1⟩:=i1 (j:=.fm (pl++[0]) ar) rfl E.up (E9 (S.p0 O (two_ps U).1)) I;obtain⟨ta,b1,Ia,rfl,e1,_⟩:=Za9 S F (j:=.fm (pl++[0]) ar) E.up I xa ha;have Ea:=E.up.on ta;rw[<- e1 E.a]at hb;obtain⟨v,q2,c2,xb,l2⟩:=i2 (j:=.fm (pl++[1]) ar) (b:=b1) (by dsimp only[D0];rw[e1 E.a]) Ea (E9 (S.p1 O (two_ps U).2)) Ia;obtain⟨tb,b2,Ib,rfl,e2,e3⟩:=Za9 S F (j:=.fm (pl++[1]) ar) Ea Ia xb hb;obtain⟨x,q3,c3,xc,l3⟩:=i3 (j:=.fu wd pl ar [u,v]) (b:=b2) (by dsimp only[D0,Bw,R4];rw[e2 Ea.a,e1 E.a,e3 ta.t]) ⟨Ea.on tb,two_mem (ta.t.up tb.l) tb.t,d,O⟩ (.inl ⟨U,_,_,rfl⟩) Ib;exact⟨x,q3,_,.two O U xa xb xc,by lia⟩
 | @lets pl Y R r1 r2 d a y k1 k2 O ha hb i1 i2 =>
  intro j rs st b e E D I;have n1:=C2 ha;have n2:=C2 hb;cases j with
  |fu=>cases e
  |fm Z ar =>
  cases e;have E:EOk sub ar rs st:=E;by_cases hp:pl=p
  ·exact ac hp (by lia)
  have O:=ad hp D O;obtain⟨u,q1,c1,xa,l1⟩:=i1 (j:=.fm (pl++[0]) ar) rfl E.up (E9 (S.p0 O (by right))) I;obtain⟨ta,b1,Ia,rfl,e1,_⟩:=Za9 S F (j:=.fm (pl++[0]) ar) E.up I xa ha;obtain⟨v,q2,c2,xb,l2⟩:=i2 (j:=.fm (pl++[1]) (ar++Cd (Dc "let" d 1) [u])) (b:=b1) (by dsimp only[D0];rw[Zd4,e1 E.a,N5];rfl) ((E.up.on ta).put ta.t (by have:=E.l;have:=ta.s;lia) _) (E9 (S.p1 O (by right))) Ia;exact⟨v,q2,_,.lets O xa xb,by lia⟩
 | @ifs pl Y R r1 r2 d a y k1 k2 O ha hf i1 i2 =>
  intro j rs st b e E D I;have n1:=C2 ha;have n2:=C2 hf;cases j with
  |fu=>cases e
  |fm Z ar =>
  cases e;have E:EOk sub ar rs st:=E;by_cases hp:pl=p
  ·exact ac hp (by lia)
  have O:=ad hp D O;obtain⟨u,q1,c1,xa,l1⟩:=i1 (j:=.fm (pl++[0]) ar) rfl E.up (E9 (S.p0 O (by right))) I;obtain⟨ta,b1,Ia,rfl,e1,_⟩:=Za9 S F (j:=.fm (pl++[0]) ar) E.up I xa ha;obtain⟨v,q2,c2,xb,l2⟩:=i2 (j:=.fu "if" pl ar [u]) (b:=b1) (by dsimp only[D0,Bw,R4];rw[e1 E.a]) ⟨E.up.on ta,Ow ta.t,d,O⟩ (.inr ⟨rfl,_,rfl⟩) Ia;exact⟨v,q2,_,.ifs O xa xb,by lia⟩
 | @leaf pl Y R wd d O h2 h3 h4 =>
  intro j rs st b e E D I;cases j with
  |fu=>cases e
  |fm Z ar =>
  cases e;by_cases hp:pl=p
  ·exact ac hp (Lx _).1
  exact⟨_,_,_,.leaf (ad hp D O) h2 h3 h4,Qy _⟩
 | @call pl Y R r a b' y k c hf hc he i =>
  intro j rs st b e E D I;cases j with
  |fm=>cases e
  |fu wd Z ar ops =>
  obtain⟨U,u,v,rfl⟩|⟨rfl,u,rfl⟩:=D
  ·cases e;obtain⟨E,ho,d,O⟩:=E;by_cases h3:C5 rs u=true
   ·obtain⟨n,q,rfl,hr,U⟩:=Na h3 (ho u (by simp));obtain⟨d',aa,_,ae⟩:=Nd (y:=v) hr U E.r;obtain⟨f1,f2⟩:=Zcz I hr U (F.o _ _ aa (F.ne aa λe=>by rw[e]at U;revert U;right)) (A7 b v);cases hc.symm.trans f2;obtain⟨x,r,k,hx,hk⟩:=i (j:=.fm _ _) (by dsimp only[D0];rw[Zhw]) (N6 E hr U (ho v (by simp))) (S.f aa U) I;exact⟨x,r,k,.call h3 ae hx,hk⟩
   ·exact⟨_,_,0,.join U (λz=>h3 z.2),C2 he⟩
  ·cases e
 | @join pl Y R af a b' U hf =>
  intro j rs st b e E D I;cases j with
  |fm=>cases e
  |fu wd Z ar ops =>
  obtain⟨U,u,v,rfl⟩|⟨rfl,u,rfl⟩:=D
  ·cases e;obtain⟨E,ho,d,O⟩:=E;refine⟨_,_,0,.join U λz=>hf ⟨z.1,?_⟩,Qy _⟩;obtain⟨n,q,rfl,hr,U⟩:=Na z.2 (ho u (by simp));obtain⟨d',aa,_,_⟩:=Nd (y:=v) hr U E.r;exact(Zcz I hr U (F.o _ _ aa (F.ne aa λe=>by rw[e]at U;revert U;right)) (A7 b v)).1
  ·cases e
 | @ifT pl Y R r a y k ht he i =>
  intro j rs st b e E D I;cases j with
  |fm=>cases e
  |fu wd Z ar ops =>
  obtain⟨U,u,v,rfl⟩|⟨rfl,u,rfl⟩:=D
  ·cases e
  ·cases e;obtain⟨E,ho,d,O⟩:=E;by_cases h5:u.1="truth"
   ·rw[Em (bc:=b) (x:=u) (by rw[h5];right)]at i;obtain⟨x,r,k,hx,hk⟩:=i (j:=.fm _ ar) rfl E (S.b O _) I;exact⟨x,r,k,.ifT h5 hx,hk⟩
   ·exact⟨_,_,0,.ifN h5,C2 he⟩
 | @ifN pl Y R a ht =>
  intro j rs st b e E D I;cases j with
  |fm=>cases e
  |fu wd Z ar ops =>
  obtain⟨U,u,v,rfl⟩|⟨rfl,u,rfl⟩:=D
  ·cases e
  ·cases e;by_cases h5:u.1="truth"
   ·rw[Em (bc:=b) (x:=u) (by rw[h5];right)]at ht;exact absurd h5 ht
   ·exact⟨_,_,0,.ifN h5,Qy _⟩
end
theorem Inv0:Inv [] [] []:=⟨rfl,λi r h=>by simp at h⟩
theorem RunX.m (h:RunX sub n S o):∀S',o=some S'->RunM sub n S S':=by
 induction h with
 |nil h=>intro S' e;cases e;exact .nil h
 |last=>intro S' e;cases e
 |cons a b _ I=>exact λS' e=>.cons a b (I S' e)
theorem RunX.l (h:RunX sub n S o):o=none->RunL sub n S:=by
 induction h with
 |nil h=>intro e;cases e
 |last a b c d e f=>intro _;exact .last a b c d e f
 |cons a b _ I=>exact λe=>.cons a b (I e)
def Ends (sub:List Nat->Option (Str×Dt))(w:List Wt)(th:List (Str×V))(R:List Rx)(st:Int)(S:MS)(X:List Rx->Str×V->List Rx->Int->Prop):Prop :=
 (eX3 λx R1 k=>X R x R1 k/\st+k<=500/\Goes sub S ⟨R1,w,th++[x],st+k⟩)\/((∃m,RunX sub m S none)/\∀x R1 k,X R x R1 k->500<st+k)
section
variable {sub:List Nat->Option (Str×Dt)}{w w1:List Wt}{th th1:List (Str×V)}{R:List Rx}{st:Int}{S1 S2:MS}
theorem Ends.go (h:Ends sub w th R st S2 X)(g:Goes sub S1 S2)(e:∀x R1 k,Y R x R1 k↔X R x R1 k):Ends sub w th R st S1 Y:=by
 rcases h with⟨x,R1,k,h1,h2,I⟩|⟨⟨m,h1⟩,h2⟩
 ·exact .inl ⟨x,R1,k,(e _ _ _).mpr h1,h2,g.trans I⟩
 ·exact .inr ⟨g _ _ h1,λx R1 k h=>h2 x R1 k ((e _ _ _).mp h)⟩
theorem Ends.one (h:Ends sub w th R (st+1) S2 X)(g:Goes sub S1 S2)(e:∀x R1 k,Y R x R1 k↔∃k',X R x R1 k'/\k=1+k'):Ends sub w th R st S1 Y:=by
 rcases h with⟨x,R1,k,h1,h2,I⟩|⟨⟨m,h1⟩,h2⟩
 ·refine .inl ⟨x,R1,1+k,(e _ _ _).mpr ⟨_,h1,rfl⟩,by lia,?_⟩;rw[<- Tp];exact g.trans I
 ·refine .inr ⟨g _ _ h1,λx R1 k h=>?_⟩;obtain⟨k',h',rfl⟩:=(e _ _ _).mp h;have:=h2 _ _ _ h';lia
theorem Ends.bind {j:Jb}{Y:Str×V->List Rx->Str×V->List Rx->Int->Prop}(h:Ends sub w1 th1 R st S1 (Xj sub j))(nn:∀a R1 y R' k,Y a R1 y R' k->0<=k)(h2:∀a R1 k1,Xj sub j R a R1 k1->st+k1<=500->Ends sub w th R1 (st+k1) ⟨R1,w1,th1++[a],st+k1⟩ (Y a)):Ends sub w th R st S1 (λR y R' k=>eX4 λa' R1 k1 k2=>Xj sub j R a' R1 k1/\Y a' R1 y R' k2/\k=k1+k2):=by
 rcases h with⟨a,R1,k1,Z,l1,g1⟩|⟨r1,n1⟩
 ·rcases h2 a R1 k1 Z l1 with⟨x,R2,k2,O,l2,g2⟩|⟨⟨m,r2⟩,n2⟩
  ·refine .inl ⟨x,R2,_,⟨a,R1,k1,k2,Z,O,rfl⟩,by lia,?_⟩;rw[<- Tp];exact g1.trans g2
  ·refine .inr ⟨g1 _ _ r2,?_⟩;rintro x R' k ⟨a',aa,U,k2,I,O,rfl⟩;obtain⟨rfl,rfl,rfl⟩:=Zeh Z I;have:=n2 _ _ _ O;lia
 ·refine .inr ⟨r1,?_⟩;rintro x R' k ⟨a',aa,U,k2,I,O,rfl⟩;have:=n1 _ _ _ I;have:=nn _ _ _ _ _ O;lia
end
theorem Zni (hs:sub pl=some (wd,d))(h:Ex sub pl ar rs x r k):Cq wd<=k:=by
 have:=(Lx wd).2;rcases Mu hs h with⟨_,U,⟨a,O,k1,k2,I,⟨b,Z,k3,k4,hb,Y,rfl⟩,rfl⟩,rfl⟩|⟨_,U,⟨a,O,k1,k2,I,hb,rfl⟩,rfl⟩|⟨_,U,⟨a,O,k1,k2,I,hb,rfl⟩,rfl⟩|⟨_,_,_,rfl⟩
 ·have:=C2 I;have:=C2 hb;have:=C2 Y;lia
 ·have:=C2 I;have:=C2 hb;lia
 ·have:=C2 I;have:=C2 hb;lia
 ·exact Qy _
noncomputable def Jb.s (j:Jb)(R:List Rx)(w:List Wt)(th:List (Str×V))(st:Int):MS:=match j with
 |.fm pl ar=>⟨R,w++[⟨pl,ar,false⟩],th,st⟩
 |.fu _ pl ar ops=>⟨R,w++[⟨pl,ar,true⟩],th++ops,st⟩
noncomputable def Jb.w (j:Jb):Int:=match j with
 |.fm _ _=>1002
 |.fu _ _ _ _=>1003
theorem run {sub:List Nat->Option (Str×Dt)}(S:SubOk sub):∀(n:Nat){j:Jb}{R:List Rx}{st:Int},j.w<=2*st+n->Gp sub j R st->Jd sub j->∀{w:List Wt}{th:List (Str×V)},Sm R w th st->Ends sub w th R st (j.s R w th st) (Xj sub j)
 |0,j,R,st,hn,_,_,w,th,Z=>by
  have:=Z.s;cases j with
  |fm=>have hn:(1002:Int)<=2*st+(0:Nat):=hn;lia
  |fu=>have hn:(1003:Int)<=2*st+(0:Nat):=hn;lia
 |n+1,.fm pl ar,R,st,hn,E,D,w,th,Z=>by
  have hn:(1002:Int)<=2*st+((n+1:Nat):Int):=hn;have ih:=@run sub S n;have E:EOk sub ar R st:=E;obtain⟨⟨wd,d⟩,I⟩:=R6.mp D;have z1:=Z.r;have z2:=Z.w;have z3:=Z.t;have z4:=Z.s;have af:=Lx wd;by_cases h1:(500:Int)<st+Cq wd
  ·refine .inr ⟨⟨0,.last (Z.small _) rfl rfl I (λe=>?_) (by show(500:Int)<st+1;lia)⟩,λx R1 k h=>by have:=Zni I h;lia⟩;rw[e,show Cq "gap"=0 by right]at h1;lia
  have cm:Gs sub ⟨R,w++[⟨pl,ar,false⟩],th,st⟩ (Gv ⟨R,w,th,st⟩ wd d pl ar):=.come (S:=⟨R,w++[⟨pl,ar,false⟩],th,st⟩) rfl rfl I (S.note I) (λg=>by show st+1<=500;unfold Cq at h1;rw[if_neg g]at h1;lia);have cg:=Goes.step (Z.small _) cm;have U:ar.length<=9000:=by have:=E.l;lia
  by_cases h2:wd∈TWO
  ·rw[Zes (.inl h2)]at h1;rw[Zl0 h2]at cg;refine Ends.one ((ih (j:=.fm (pl++[0]) ar) (by show(1002:Int)<=_;lia) E.up (E9 (S.p0 I (two_ps h2).1)) (w:=w++[Wt.mk pl ar true]++[Wt.mk (pl++[1]) ar false]) (th:=th) ⟨by lia,by rw[Pn,Pn,Py,Py];lia,by lia,by lia⟩).bind (Y:=λa R y R' k=>eX4 λb' R2 k3 k4=>Ex sub (pl++[1]) ar R b' R2 k3/\Fx sub wd pl ar [a,b'] R2 y R' k4/\k=k3+k4) ?_ λa R1 k1 ha l1=>?_) cg λx R1 k=>two_iff I h2
   ·rintro a R1 y R' k ⟨b,R2,k3,k4,hb,hf,rfl⟩;have:=C2 hb;have:=C2 hf;lia
   have ta:=Fu S ha (show Gp sub (.fm _ ar) R (st+1) from E.up);have Ea:=E.up.on ta;have:=ta.s;have:=ta.m;refine(ih (j:=.fm (pl++[1]) ar) (by show(1002:Int)<=_;lia) Ea (E9 (S.p1 I (two_ps h2).2)) (w:=w++[Wt.mk pl ar true]) (th:=th++[a]) ⟨by lia,by rw[Pn,Py];lia,by rw[Pn,Py];lia,l1⟩).bind (Y:=λb'=>Fx sub wd pl ar [a,b']) (λ_ _ _ _ _ h=>C2 h) λb R2 k2 hb l2=>?_;have tb:=Fu S hb (show Gp sub (.fm _ ar) R1 _ from Ea);have:=tb.s;have:=tb.m;have e:=ih (j:=.fu wd pl ar [a,b]) (by show(1003:Int)<=_;lia) ⟨Ea.on tb,two_mem (ta.t.up tb.l) tb.t,d,I⟩ (.inl ⟨h2,_,_,rfl⟩) (w:=w) (th:=th) ⟨by lia,by lia,by lia,l2⟩;unfold Jb.s at e;rw[show th++[a]++[b]=th++[a,b] by rw[Qf];rfl];exact e
  by_cases h3:wd="let"
  ·subst h3;rw[Zes (.inr (.inl rfl))]at h1;rw[Zjv (.inl rfl)]at cg;refine Ends.one ((ih (j:=.fm (pl++[0]) ar) (by show(1002:Int)<=_;lia) E.up (E9 (S.p0 I (by right))) (w:=w++[Wt.mk pl ar true]) (th:=th) ⟨by lia,by rw[Pn,Py];lia,by lia,by lia⟩).bind (Y:=λa=>Ex sub (pl++[1]) (ar++Cd (Dc "let" d 1) [a])) (λ_ _ _ _ _ h=>C2 h) λa R1 k1 ha l1=>?_) cg λx R1 k=>Zda I;have ta:=Fu S ha (show Gp sub (.fm _ ar) R (st+1) from E.up);have Ea:=E.up.on ta;have:=ta.s;have:=ta.m;have:=E.l;have z:Sm R1 w th (st+1+k1):=⟨by lia,by lia,by lia,l1⟩;refine(ih (j:=.fm _ _) (by show(1002:Int)<=_;lia) (Ea.put ta.t (by lia) (Dc "let" d 1)) (E9 (S.p1 I (by right))) z).go (Goes.step ⟨by show R1.length<9000;lia,by show(w++[_]).length<9000;rw[Pn,Py];lia,by show(th++[a]).length<9000;rw[Pn,Py];lia⟩ (.further (S:=⟨R1,w++[⟨pl,ar,true⟩],th++[a],st+1+k1⟩) rfl rfl I (.lets (x:=a) (th:=th) rfl rfl (S.nt I).2.2.2) U)) λ_ _ _=>Iff.rfl
  by_cases h4:wd="if"
  ·subst h4;rw[Zes (.inr (.inr rfl))]at h1;rw[Zjv (.inr rfl)]at cg;refine Ends.one ((ih (j:=.fm (pl++[0]) ar) (by show(1002:Int)<=_;lia) E.up (E9 (S.p0 I (by right))) (w:=w++[Wt.mk pl ar true]) (th:=th) ⟨by lia,by rw[Pn,Py];lia,by lia,by lia⟩).bind (Y:=λa=>Fx sub "if" pl ar [a]) (λ_ _ _ _ _ h=>C2 h) λa R1 k1 ha l1=>?_) cg λx R1 k=>Zcg I;have ta:=Fu S ha (show Gp sub (.fm _ ar) R (st+1) from E.up);have:=ta.s;have:=ta.m;exact ih (j:=.fu "if" pl ar [a]) (by show(1003:Int)<=_;lia) ⟨E.up.on ta,Ow ta.t,d,I⟩ (.inr ⟨rfl,_,rfl⟩) ⟨by lia,by lia,by lia,l1⟩
  rw[Zoe (Zdm h2 h3 h4)]at cg;exact .inl ⟨_,_,_,.leaf I h2 h3 h4,by lia,cg⟩
 |n+1,.fu wd pl ar ops,R,st,hn,E,D,w,th,Z=>by
  have hn:(1003:Int)<=2*st+((n+1:Nat):Int):=hn;have ih:=@run sub S n;obtain⟨E,ho,d,I⟩:=E;have z1:=Z.r;have z2:=Z.w;have z3:=Z.t;have z4:=Z.s;have U:ar.length<=9000:=by have:=E.l;lia
  have sm:∀{l:List (Str×V)},l.length<=2->Hy ⟨R,w++[⟨pl,ar,true⟩],th++l,st⟩:=λ{l} hl=>⟨by show R.length<9000;lia,by show(w++[_]).length<9000;rw[Pn,Py];lia,by show(th++l).length<9000;rw[Pn];lia⟩;obtain⟨h2,x,y,rfl⟩|⟨rfl,x,rfl⟩:=D
  ·have tx:=ho x (by simp);have ty:=ho y (by simp);by_cases h4:wd="call"/\C5 R x=true
   ·obtain⟨k,r,rfl,hr,hf⟩:=Na h4.2 tx;obtain⟨d',aa,ad,hc⟩:=Nd (y:=y) hr hf E.r;have ae:=(E.r k r hr).2.2.1 hf;have O:Gs sub ⟨R,w++[⟨pl,ar,true⟩],th++[(("row":Str),V.int (k:Nat)),y],st⟩ _:=.further (S:=⟨R,w++[⟨pl,ar,true⟩],th++[(("row":Str),V.int (k:Nat)),y],st⟩) rfl rfl I (.calls (k:=k) (y:=y) (th:=th) h4.1 rfl hr hf ad aa (S.nt aa).2.2.2 (by lia)) U;have e:=ih (j:=.fm (C7 r.pl++[0]) _) (by show(1002:Int)<=_;lia) (N6 (d:=d') E hr hf ty) (S.f aa hf) Z;exact e.go (Goes.step (sm (Pl _)) O) λ_ _ _=>Zcm h4 hc
   ·have ac:wd∈Ho\/wd="call"/\C5 R x=false:=by
     by_cases hc:wd="call"
     ·exact .inr ⟨hc,by cases hq:C5 R x with|false=>rfl|true=>exact absurd ⟨hc,hq⟩ h4⟩
     ·refine .inl ?_;have h2:=h2;unfold TWO at h2;unfold Ho;simp only[Pr,Pz,or_false]at h2 ⊢;rcases h2 with h|h|h|h
      ·exact .inl h
      ·exact .inr (.inl h)
      ·exact .inr (.inr h)
      ·exact absurd h hc
    have O:Gs sub ⟨R,w++[⟨pl,ar,true⟩],th++[x]++[y],st⟩ _:=.further (S:=⟨R,w++[⟨pl,ar,true⟩],th++[x]++[y],st⟩) rfl rfl I (.two (x:=x) (y:=y) (th:=th) ac (by show th++[x]++[y]=_;rw[Qf];rfl) tx.row tx.num ty.num) U;rw[Zp3,show th++[x]++[y]=th++[x,y] by rw[Qf];rfl]at O;refine .inl ⟨_,_,0,.join h2 h4,by lia,?_⟩;rw[Q8];exact Goes.step (sm (Pl _)) O
  ·have tx:=ho x (by simp);by_cases h7:x.1="truth"
   ·obtain⟨bb,rfl⟩:∃bb,x=(("truth":Str),V.bl bb):=by
     rcases tx with⟨h,_⟩|⟨_,bb,h⟩|⟨h,_⟩
     ·rw[h7]at h;exact absurd h (by right)
     ·exact⟨bb,by rw[<- h7,<- h]⟩
     ·rw[h7]at h;exact absurd h (by right)
    have O:Gs sub ⟨R,w++[⟨pl,ar,true⟩],th++[(("truth":Str),V.bl bb)],st⟩ _:=.further (S:=⟨R,w++[⟨pl,ar,true⟩],th++[(("truth":Str),V.bl bb)],st⟩) rfl rfl I (.ifs (b:=bb) (th:=th) rfl rfl (S.nt I).2.2.2) U;unfold Ku at O;rw[show Cd (Dc "if" d (if bb then 1 else 2:Nat)) []=[] by unfold Cd;exact List.zip_nil_right,Q0,show(if bb=true then 1 else 2)=if V.bl bb=V.bl true then 1 else 2 by cases bb <;> rfl]at O;exact(ih (j:=.fm _ ar) (by show(1002:Int)<=_;lia) E (S.b I _) Z).go (Goes.step (sm (by show 1<=2;decide)) O) λ_ _ _=>Zec rfl
   ·refine .inl ⟨_,_,0,.ifN h7,by lia,?_⟩;rw[Q8];exact Goes.step (sm (by show 1<=2;decide)) (.further (S:=⟨R,w++[⟨pl,ar,true⟩],th++[x],st⟩) rfl rfl I (.ifr (x:=x) (th:=th) rfl rfl h7) U)
theorem Zem (h:TOk bc.length x)(hb:∀y∈bc,TOk m y):TOk m (A7 bc x):=by
 rcases id h with⟨e,_⟩|⟨e,_⟩|⟨e,k,O,I⟩
 ·rw[Em (by rw[e];right)];rcases h with h|h|⟨h,_⟩
  ·exact .inl h
  ·exact .inr (.inl h)
  ·rw[e]at h;exact absurd h (by right)
 ·rw[Em (by rw[e];right)];rcases h with h|h|⟨h,_⟩
  ·exact .inl h
  ·exact .inr (.inl h)
  ·rw[e]at h;exact absurd h (by right)
 ·have ex:x=(("row":Str),V.int (k:Nat)):=by rw[<- e,<- O]
  rw[ex,Jk (Pj I)];exact hb _ (Vl I)
theorem TOk.now (h:TOk n x):K6 n x:=λe=>by
 rcases h with⟨h,_⟩|⟨h,_⟩|⟨_,h⟩
 ·rw[e]at h;exact absurd h (by right)
 ·rw[e]at h;exact absurd h (by right)
 ·exact h
structure Ge (sub:List Nat->Option (Str×Dt))(p:List Nat)(n:Int)(i:Nat)(r:Rx):Prop where
 a:AOk i r.ar
 o:∀x∈r.ops,TOk i x
 lp:r.pl.length<=5000
 lo:r.ops.length<=2
 la:(r.ar.length:Int)<=2*n+200
 lf:r.wd∈(["fn","rec"]:List Str)->(r.ar.length:Int)+2<=2*n+200
 sh:r.pl≠Ap p->Shp sub r
theorem Zh3 (bc:List (Str×V))(H:Shp sub r)(h2:(Bl r.wd).isSome=true):SHP r.wd (Bw bc r.ops):=by
 by_cases g2:r.wd∈TWO
 ·obtain⟨x,y,e⟩:=H.t g2;exact .inl ⟨g2,_,_,by unfold Bw;rw[e];rfl⟩
 ·by_cases g4:r.wd="if"
  ·obtain⟨x,e⟩:=H.i g4;exact .inr ⟨g4,_,by unfold Bw;rw[e];rfl⟩
  ·rw[Zdm g2 H.l g4]at h2;cases h2
theorem Zdt (W:Ge sub p n bc.length r)(hb:∀x∈bc,TOk R.length x)(hR:RsOk sub R st)(h0:0<=n)(hn:n<=st):EOk sub (A4 bc r.ar) R st/\(∀x∈Bw bc r.ops,TOk R.length x):=by
 refine⟨⟨λy U=>?_,by unfold A4;rw[Pp];have:=W.la;lia,hR,by lia⟩,λx O=>?_⟩
 ·unfold A4 at U;obtain⟨z,I,rfl⟩:=Ro.mp U;exact Zem (W.a z I) hb
 ·unfold Bw at O;obtain⟨z,I,rfl⟩:=Ro.mp O;exact Zem (W.o z I) hb
section
variable {sub:List Nat->Option (Str×Dt)}(S:SubOk sub){p:List Nat}{bc:List (Str×V)}{R R1:List Rx}{st n k:Int}{r:Rx}{x:Str×V}(W:Ge sub p n bc.length r)(hb:∀x∈bc,TOk R.length x)(hR:RsOk sub R st)(h0:0<=n)(hn:n<=st)
include S W hb hR h0 hn
theorem Zee (h:Cb sub [Ap p] bc R r x R1 k):F9 sub R st x R1 (st+k):=by
 obtain⟨E,O⟩:=Zdt W hb hR h0 hn;unfold Cb at h;by_cases h1:r.pl=Ap p
 ·rw[if_pos (P7.mpr h1)]at h;exact Fu S h E
 have H:=W.sh h1;rw[if_neg (λe=>h1 (P7.mp e))]at h;by_cases h2:(Bl r.wd).isSome=true
 ·rw[if_pos h2]at h;exact Fu S h ⟨E,O,H.s⟩
 rw[if_neg h2]at h;obtain⟨rfl,rfl,rfl⟩:=h;rw[Q8];have la:=W.la;have I:AOk R.length (if r.wd∈WA then A4 bc r.ar else [])/\((if r.wd∈WA then A4 bc r.ar else []).length:Int)<=r.ar.length:=by
  split
  ·exact⟨E.a,by unfold A4;rw[Pp];exact Qy _⟩
  ·exact⟨(λy U=>nomatch U),by show((0:Nat):Int)<=_;lia⟩
 have hl:=I.2;refine O5 hR (Qy _) I.1 O W.lp (by show(Bw bc r.ops).length<=2;unfold Bw;rw[Pp];exact W.lo) (by show((if r.wd∈WA then A4 bc r.ar else []).length:Int)<=2*st+200;lia) (λY=>?_) ⟨H.s,H.p,λe=>?_,λe=>?_,H.l⟩
 ·have:=W.lf Y;show((if r.wd∈WA then A4 bc r.ar else []).length:Int)+2<=2*st+200;lia
 ·obtain⟨x,y,e⟩:=H.t e;exact⟨_,_,by show Bw bc r.ops=_;unfold Bw;rw[e];rfl⟩
 ·obtain⟨x,e⟩:=H.i e;exact⟨_,by show Bw bc r.ops=_;unfold Bw;rw[e];rfl⟩
theorem Zwc (hp:(sub p).isSome=true)(hst:st<=500)(Z:(R.length:Int)+4*(500-st)<=5000) :
  (eX3 λx R1 k=>Cb sub [Ap p] bc R r x R1 k/\st+k<=500/\RowG sub p bc r ⟨R,[],[],st⟩ ⟨R1,[],[],st+k⟩ x)\/(Jm sub p bc r ⟨R,[],[],st⟩ none/\∀x R1 k,Cb sub [Ap p] bc R r x R1 k->500<st+k):=by
 obtain⟨E,hO⟩:=Zdt W hb hR h0 hn;have U:Sm R [] [] st:=⟨Z,by show((0:Nat):Int)+3*(500-st)<=5000;lia,by show((0:Nat):Int)+2*(500-st)<=5000;lia,hst⟩;unfold Cb;by_cases h1:r.pl=Ap p
 ·have Y:C7 r.pl=p:=by rw[h1,Fi]
  simp only[if_pos (P7.mpr h1),Y];rcases run S 1003 (j:=.fm p (A4 bc r.ar)) (by show(1002:Int)<=2*st+((1003:Nat):Int);lia) E hp U with⟨x,R1,k,hx,hk,g⟩|⟨⟨m,X⟩,hx⟩
  ·obtain⟨m,X⟩:=g 0 _ (.nil rfl);exact .inl ⟨x,R1,k,hx,hk,RowG.fill (S:=⟨R,[],[],st⟩) (S':=⟨R1,[],[x],st+k⟩) (th:=[]) h1 (X.m _ rfl) rfl⟩
  ·exact .inr ⟨.lateF h1 (X.l rfl),hx⟩
 have H:=W.sh h1;have I:¬r.pl∈[Ap p]:=λe=>h1 (P7.mp e);by_cases h2:(Bl r.wd).isSome=true
 ·simp only[if_neg I,if_pos h2];rcases run S 1003 (j:=.fu r.wd (C7 r.pl) (A4 bc r.ar) (Bw bc r.ops)) (by show(1003:Int)<=2*st+((1003:Nat):Int);lia) ⟨E,hO,H.s⟩ (Zh3 bc H h2) U with⟨x,R1,k,hx,hk,g⟩|⟨⟨m,X⟩,hx⟩
  ·obtain⟨m,X⟩:=g 0 _ (.nil rfl);exact .inl ⟨x,R1,k,hx,hk,RowG.parts (S:=⟨R,[],[],st⟩) (S':=⟨R1,[],[x],st+k⟩) (th:=[]) H.p h1 h2 (X.m _ rfl) rfl⟩
  ·exact .inr ⟨.lateP H.p h1 h2 (X.l rfl),hx⟩
 ·simp only[if_neg I,if_neg h2];have O:(Bl r.wd).isSome=false:=by cases h:(Bl r.wd).isSome with|false=>rfl|true=>exact absurd h h2
  have G:=RowG.new (sub:=sub) (fl:=p) (bc:=bc) (S:=⟨R,[],[],st⟩) H.p h1 O;rw[<- H.p]at G;exact .inl ⟨_,_,0,⟨rfl,rfl,rfl⟩,by lia,by rw[Q8];exact G⟩
end
theorem Zen {sub:List Nat->Option (Str×Dt)}{p:List Nat}{n:Int}{bc:List (Str×V)}{R R1:List Rx}{st k:Int}{r:Rx}{x:Str×V}{l:List Rx}{Z:Rx->Prop}(hr:∀(j:Nat)(q:Rx),(r::l)[j]?=some q->Ge sub p n (bc.length+j) q/\Z q)(hb:∀x∈bc,TOk R.length x)(t:F9 sub R st x R1 (st+k)):(∀(j:Nat)(q:Rx),l[j]?=some q->Ge sub p n ((bc++[x]).length+j) q/\Z q)/\∀y∈bc++[x],TOk R1.length y:=by
 refine⟨λj q O=>?_,λy I=>?_⟩
 ·have:=hr (j+1) q O;rw[Pn,Py,Nat.add_assoc,Nat.add_comm 1 j];exact this
 ·rcases Q4.mp I with I|I
  ·exact(hb y I).up t.l
  ·rw[P7.mp I];exact t.t
theorem Zib (S:SubOk sub)(hp:(sub p).isSome=true)(h0:0<=n):∀(l:List Rx)(bc:List (Str×V))(R:List Rx)(st:Int),(∀(j:Nat)(r:Rx),l[j]?=some r->Ge sub p n (bc.length+j) r)->(∀x∈bc,TOk R.length x)->RsOk sub R st->n<=st->st<=500->(R.length:Int)+l.length+4*(500-st)<=5000 ->
  (eX3 λbc' R' k=>Gx sub [Ap p] l bc R bc' R' k/\st+k<=500/\Gw sub p l bc ⟨R,[],[],st⟩ (some (bc',⟨R',[],[],st+k⟩))/\bc'.length=bc.length+l.length)\/(Gw sub p l bc ⟨R,[],[],st⟩ none/\∀bc' R' k,Gx sub [Ap p] l bc R bc' R' k->500<st+k)
 |[],bc,R,st,_,_,_,_,U,_=>.inl ⟨bc,R,0,.nil,by lia,by rw[Q8];exact .nil,rfl⟩
 |r::l,bc,R,st,hr,hb,hR,hn,U,Z=>by
  have W:=hr 0 r rfl;rw[Nat.add_zero]at W;rw[Qa]at Z;have ok:Nc bc.length r:=⟨λy hy=>(W.o y hy).now,λy hy=>(W.a y hy).now,by have:=W.lo;lia,by have:=W.la;lia⟩;have z1:R.length<9000:=by lia
  rcases Zwc S W hb hR h0 hn hp U (by lia) with⟨x,R1,k,O,hk,G⟩|⟨G,O⟩
  ·have k0:=(Li O).2;have t:=Zee S W hb hR h0 hn O;have tl:=t.l;have tm:=t.m;obtain⟨Y,aa⟩:=Zen (Z:=λ_=>True) (λj q h=>⟨hr j q h,trivial⟩) hb t;rcases Zib S hp h0 l (bc++[x]) R1 (st+k) (λj q h=>(Y j q h).1) aa t.r (by lia) hk (by lia) with⟨bc',R',k',g,ac,GG,hl⟩|⟨GG,hg⟩
   ·refine .inl ⟨bc',R',k+k',.cons O g,by lia,?_,by rw[hl,Pn,Py,Qa];lia⟩;rw[<- Tp];exact .cons z1 (by show 0<8000;decide) ok G GG
   ·refine .inr ⟨.cons z1 (by show 0<8000;decide) ok G GG,λbc' R' kk g=>?_⟩;cases g with
    |cons I t' =>
     obtain⟨rfl,rfl,rfl⟩:=Zfj O I;have:=hg _ _ _ t';lia
  ·refine .inr ⟨.late z1 (by show 0<8000;decide) ok G,λbc' R' kk g=>?_⟩;cases g with
   |cons I t' =>
    have:=O _ _ _ I;have:=(Mw t').1;lia
theorem Zdx (h:TOk bc.length x):A7 b (A7 bc x)=A7 (bc.map (A7 b)) x:=by
 rcases h with⟨e,_⟩|⟨e,_⟩|⟨e,k,O,I⟩
 ·have n:∀q,A7 q x=x:=λq=>Em (by rw[e];right);rw[n bc,n b,n]
 ·have n:∀q,A7 q x=x:=λq=>Em (by rw[e];right);rw[n bc,n b,n]
 ·have ex:x=(("row":Str),V.int (k:Nat)):=by rw[<- e,<- O]
  rw[ex,Jk (Pj I),Jk (bc:=bc.map (A7 b)) (y:=A7 b bc[k]) (by rw[Ql,Pj I];rfl)]
theorem Pc (h:AOk bc.length ar):A4 b (A4 bc ar)=A4 (bc.map (A7 b)) ar:=by
 unfold A4;rw[Uu];exact Ub λy I=>by show(y.1,A7 b (A7 bc y.2))=_;rw[Zdx (h y I)]
theorem Zj9 (h:∀x∈ops,TOk bc.length x):Bw b (Bw bc ops)=Bw (bc.map (A7 b)) ops:=by
 unfold Bw;rw[Uu];exact Ub λy I=>Zdx (h y I)
theorem Zum (S:SubOk sub)(h0:0<=n)(g:Gx sub [Ap p] l bc R bc1 R1 k):∀{st:Int},(∀(j:Nat)(r:Rx),l[j]?=some r->Ge sub p n (bc.length+j) r/\True)->(∀x∈bc,TOk R.length x)->RsOk sub R st->n<=st->RsOk sub R1 (st+k)/\(∀x∈bc1,TOk R1.length x)/\(R1.length:Int)<=R.length+l.length+4*k:=by
 induction g with
 |nil=>exact λ_ hb hR _=>⟨by rw[Q8];exact hR,hb,by rw[Th];lia⟩
 | @cons bc Y R R1 R' r l x k1 k2 I _ Z =>
  intro st O hb hR hn;have W:=(O 0 r rfl).1;rw[Nat.add_zero]at W;have t:=Zee S W hb hR h0 hn I;obtain⟨a1,a2⟩:=Zen O hb t;have k0:=(Li I).2;obtain⟨i1,U,i4⟩:=Z a1 a2 (st:=st+k1) t.r (by lia);have tm:=t.m;exact⟨by rw[<- Tp];exact i1,U,by rw[Qa];lia⟩
def Two (sub sub':List Nat->Option (Str×Dt))(p q:List Nat)(l:List Rx)(bc:List (Str×V))(R:List Rx):Prop :=
  (∀bc1 R1 k,Gx sub [Ap p] l bc R bc1 R1 k->∀b R',Inv R b R'->∃m,R1=R++m/\(∀b1 R2 k2,Gx sub' [Ap q] m b R' b1 R2 k2->Gx sub' [Ap p,Ap q] l (bc.map (A7 b)) R' (bc1.map (A7 b1)) R2 (k+k2))/\∀d R2 k',Gx sub' [Ap p,Ap q] l (bc.map (A7 b)) R' d R2 k'->eX2 λb1 k2=>Gx sub' [Ap q] m b R' b1 R2 k2/\d=bc1.map (A7 b1)/\k'=k+k2) /\
  ∀b R',Inv R b R'->∀d R2 k',Gx sub' [Ap p,Ap q] l (bc.map (A7 b)) R' d R2 k'->eX3 λbc1 R1 k=>Gx sub [Ap p] l bc R bc1 R1 k/\k<=k'
section
variable {sub sub':List Nat->Option (Str×Dt)}{p q:List Nat}(S:SubOk sub)(F:Fil sub sub' q)(hp:(sub p).isSome=true){n:Int}(h0:0<=n)
include S F hp h0
theorem Zsb {bc:List (Str×V)}{R:List Rx}{st:Int}{r:Rx}(W:Ge sub p n bc.length r)(hb:∀x∈bc,TOk R.length x)(hR:RsOk sub R st)(hn:n<=st) :
  (∀x R1 k,Cb sub [Ap p] bc R r x R1 k->∀b R',Inv R b R'->∃m,R1=R++m/\Sm2 sub' [Ap q] (λR y R' k=>Cb sub' [Ap p,Ap q] (bc.map (A7 b)) R r y R' k) x k m b R') /\
  ∀b R',Inv R b R'->∀y R1 k',Cb sub' [Ap p,Ap q] (bc.map (A7 b)) R' r y R1 k'->eX3 λx R1 k=>Cb sub [Ap p] bc R r x R1 k/\k<=k':=by
 obtain⟨E,hO⟩:=Zdt W hb hR h0 hn;have Z:∀{j:Jb},Gp sub j R st->∀{x R1 k},Xj sub j R x R1 k->∀{b R'},Inv R b R'->∃m,R1=R++m/\Sm2 sub' [Ap q] (Xj sub' (D0 b j)) x k m b R':=λJ _ _ _ h _ _ I=>by
  obtain⟨m,e⟩:=F7 h;exact⟨m,e,sim S F h J I e⟩
 unfold Cb;by_cases h1:r.pl=Ap p
 ·simp only[if_pos (show r.pl∈[Ap p] by simp[h1]),if_pos (show r.pl∈[Ap p,Ap q] by simp[h1]),<- Pc W.a];exact⟨λx R1 k h b R' I=>Z (j:=.fm (C7 r.pl) _) E h I,λb R' I y R1 k' h=>old S F h (j:=.fm (C7 r.pl) _) rfl E (by rw[h1,Fi];exact hp) I⟩
 have H:=W.sh h1;have O:¬r.pl∈[Ap p]:=λe=>h1 (P7.mp e);have e:∀b,(if r.wd∈WA then A4 b (if r.wd∈WA then A4 bc r.ar else []) else [])=if r.wd∈WA then A4 b (A4 bc r.ar) else []:=λb=>by split <;> rfl
 by_cases U:r.pl=Ap q
 ·have hw:r.wd="gap":=by
   obtain⟨d,Y⟩:=H.s;obtain⟨d',hg⟩:=F.g;rw[U,Fi,hg]at Y;exact(Prod.mk.inj (Qg Y)).1.symm
  have h2:¬(Bl r.wd).isSome=true:=by rw[hw];right
  simp only[if_neg O,if_neg h2,if_pos (show r.pl∈[Ap p,Ap q] by simp[U])];refine⟨?_,λb R' I y R1 k' h=>⟨_,_,0,⟨rfl,rfl,rfl⟩,C2 h⟩⟩;rintro x R1 k ⟨rfl,rfl,rfl⟩;refine λb R' I=>⟨_,rfl,Sm2.row I.len λy R2 k2=>?_⟩;unfold Cb;rw[if_pos (show r.pl∈[Ap q] by simp[U]),Sw,<- Pc W.a];show _↔Ex sub' (C7 r.pl) (A4 b (if r.wd∈WA then A4 bc r.ar else [])) R' y R2 k2;rw[if_pos (show r.wd∈WA by rw[hw];right)]
 have h3:¬r.pl∈[Ap p,Ap q]:=by simp[h1,U]
 by_cases h2:(Bl r.wd).isSome=true
 ·simp only[if_neg O,if_neg h3,if_pos h2,<- Pc W.a,<- Zj9 W.o];exact⟨λx R1 k h b R' I=>Z (j:=.fu _ _ _ _) ⟨E,hO,H.s⟩ h I,λb R' I y R1 k' h=>old S F h (j:=.fu _ _ _ _) rfl ⟨E,hO,H.s⟩ (Zh3 bc H h2) I⟩
 ·simp only[if_neg O,if_neg h3,if_neg h2];refine⟨?_,λb R' I y R1 k' h=>⟨_,_,0,⟨rfl,rfl,rfl⟩,by rw[h.2.2];exact Qy _⟩⟩;rintro x R1 k ⟨rfl,rfl,rfl⟩;refine λb R' I=>⟨_,rfl,Sm2.row I.len λy R2 k2=>?_⟩;unfold Cb;rw[if_neg (λe=>U (P7.mp e)),if_neg h2,Sw,Zj9 W.o,<- Pc W.a];rw[show(if r.wd∈WA then A4 b (Rx.mk r.wd r.pl (Bw bc r.ops) (if r.wd∈WA then A4 bc r.ar else [])).ar else [])=_ from e b]
theorem Zhx:∀(l:List Rx)(bc:List (Str×V))(R:List Rx)(st:Int),(∀(j:Nat)(r:Rx),l[j]?=some r->Ge sub p n (bc.length+j) r/\True)->(∀x∈bc,TOk R.length x)->RsOk sub R st->n<=st ->
  Two sub sub' p q l bc R
 |[],bc,R,st,_,hb,hR,_=>by
  refine⟨λZ R1 k g=>?_,λb R' I d R2 k' g=>⟨bc,R,0,.nil,(Mw g).1⟩⟩;cases g;refine λb R' I=>⟨[],by simp,λb1 R2 k2 g=>?_,λd R2 k' g=>?_⟩
  ·cases g;exact .nil
  ·cases g;exact⟨b,0,.nil,rfl,rfl⟩
 |r::l,bc,R,st,hr,hb,hR,hn=>by
  have W:=(hr 0 r rfl).1;rw[Nat.add_zero]at W;obtain⟨s1,s2⟩:=Zsb S F hp h0 W hb hR hn;have ok:∀{x R1 k},Cb sub [Ap p] bc R r x R1 k->F9 sub R st x R1 (st+k):=λO=>Zee S W hb hR h0 hn O;have nx:∀{x R1 k},Cb sub [Ap p] bc R r x R1 k->Two sub sub' p q l (bc++[x]) R1:=λ{x R1 k} O=>by
   have t:=ok O;obtain⟨a1,a2⟩:=Zen hr hb t;exact Zhx l (bc++[x]) R1 (st+k) a1 a2 t.r (by have:=(Li O).2;lia)
  have iv:∀{x R1 k},Cb sub [Ap p] bc R r x R1 k->∀{m},R1=R++m->∀{b R' b1 Y k1},Inv R b R'->Gx sub' [Ap q] m b R' b1 Y k1->bc.map (A7 b)++[A7 b1 x]=(bc++[x]).map (A7 b1)/\Inv R1 b1 Y:=λ{x R1 k} O m hm b R' b1 Y k1 I g=>by
   have t:=ok O;subst hm;refine⟨?_,Jx F I t.r g⟩;rw[Qi];exact congrArg (·++_) (Ub λy hy=>((Ie g).2 (by rw[I.len];exact hb y hy)).symm)
  refine⟨λZ R1 k g=>?_,λb R' I d R2 k' g=>?_⟩
  ·cases g with
   | @cons _ _ _ R0 _ _ _ x k1 k2 O g2 =>
   have n1:=(nx O).1 _ _ _ g2;intro b R' I;obtain⟨m1,U,sm⟩:=s1 _ _ _ O b R' I;obtain⟨_,⟨m2,aa⟩,_⟩:=Mw g2;refine⟨m1++m2,by rw[aa,U,Qf],λb2 R2 k3 g=>?_,λd R2 k' g=>?_⟩
   ·obtain⟨b1,Y,j1,j2,g1,g3,rfl⟩:=Zef g;obtain⟨e,I1⟩:=iv O U I g1;obtain⟨m,hm,n3,_⟩:=n1 _ _ I1;rw[aa]at hm;rw[<- Rh hm]at n3;have:=Gx.cons (sm.1 _ _ _ g1) (by rw[e];exact n3 _ _ _ g3);rw[show k1+k2+(j1+j2)=k1+j1+(k2+j2) by lia];exact this
   ·cases g with
    |cons hy g4 =>
    obtain⟨b1,j1,g1,rfl,rfl⟩:=sm.2 _ _ _ hy;obtain⟨e,I1⟩:=iv O U I g1;obtain⟨m,hm,_,n4⟩:=n1 _ _ I1;rw[aa]at hm;rw[<- Rh hm,<- e]at n4;obtain⟨b2,j2,g5,rfl,rfl⟩:=n4 _ _ _ g4;exact⟨b2,j1+j2,Zfu g1 g5,rfl,by lia⟩
  ·cases g with
   |cons hy g4 =>
   obtain⟨x,R1,k1,O,ac⟩:=s2 _ _ I _ _ _ hy;obtain⟨m1,U,sm⟩:=s1 _ _ _ O b R' I;obtain⟨b1,j1,g1,rfl,rfl⟩:=sm.2 _ _ _ hy;obtain⟨e,I1⟩:=iv O U I g1;rw[e]at g4;obtain⟨Z,R2,k2,g5,ad⟩:=(nx O).2 _ _ I1 _ _ _ g4;exact⟨Z,R2,k1+k2,.cons O g5,by lia⟩
end
structure Gn (o:Er):Prop where
 t:TOk o.2.1.length o.1
 l:RLt o.2.1
 n:o.2.1.length<=3000
 z:∀r∈o.2.1,r.pl.length<=5000/\r.ops.length<=2/\r.ar.length<=2000
 s:o.2.2<=500
def Gg (sub:List Nat->Option (Str×Dt))(p:List Nat)(l:List Rx)(xa:Str×V)(n:Int)(e:Option Er):Prop:=∃oo,Gw sub p l [] ⟨[],[],[],n⟩ oo/\(∀bc S,oo=some (bc,S)->K6 bc.length xa/\e=some (A7 bc xa,S.rows,S.steps))/\(oo=none->e=none)
def GoZ (sub:List Nat->Option (Str×Dt))(ps:List (List Int))(l:List Rx)(xa:Str×V)(n:Int)(e:Option Er):Prop:=(∀o,e=some o->eX3 λbc R k=>Gx sub ps l [] [] bc R k/\n+k<=500/\o=(A7 bc xa,R,n+k))/\(e=none->∀bc R k,Gx sub ps l [] [] bc R k->500<n+k)
theorem Zb0 (g:Gx sub ps l bc R bc' R' k):(∀r∈l,(r.pl∈ps↔r.pl∈qs))->Gx sub qs l bc R bc' R' k:=by
 induction g with
 |nil=>exact λ_=>.nil
 | @cons _ _ _ _ _ r _ _ _ _ h _ O =>
  intro e;refine .cons ?_ (O λr I=>e r (Rt _ I));have e:=e r (Uc ..);unfold Cb at h ⊢;by_cases m:r.pl∈ps
  ·rw[if_pos m]at h;rw[if_pos (e.mp m)];exact h
  ·rw[if_neg m]at h;rw[if_neg λz=>m (e.mpr z)];exact h
theorem Zkz (h:GoZ sub ps l xa n e)(h':GoZ sub qs l xa n e')(m:∀r∈l,(r.pl∈ps↔r.pl∈qs)):e=e':=by
 cases e with
 |none =>
  cases e' with
  |none=>rfl
  |some o =>
   obtain⟨bc,R,k,g,U,_⟩:=h'.1 o rfl;have:=h.2 rfl _ _ _ (Zb0 g λr Z=>(m r Z).symm);lia
 |some o =>
  obtain⟨bc,R,k,g,U,rfl⟩:=h.1 o rfl;cases e' with
  |none =>
   have:=h'.2 rfl _ _ _ (Zb0 g m);lia
  |some o =>
   obtain⟨Y,R',k',I,O,rfl⟩:=h'.1 o rfl;obtain⟨rfl,rfl,rfl⟩:=Znq (Zb0 g m) I;rfl
def Zet (sub:List Nat->Option (Str×Dt))(p:List Nat)(n:Int)(l:List Rx):Prop:=∀(j:Nat)(r:Rx),l[j]?=some r->Ge sub p n (([]:List (Str×V)).length+j) r
section
variable {sub:List Nat->Option (Str×Dt)}{p:List Nat}(S:SubOk sub)(hp:(sub p).isSome=true){n:Int}(h0:0<=n)(h5:n<=500){l:List Rx}{xa:Str×V}(hl:(l.length:Int)<=21+4*n)(ta:TOk l.length xa)(rows:Zet sub p n l)
include S h0 hl ta rows
theorem Zjb {bc:List (Str×V)}{R:List Rx}{k:Int}(g:Gx sub [Ap p] l [] [] bc R k)(hk:n+k<=500):TOk bc.length xa/\Gn (A7 bc xa,R,n+k)/\RsOk sub R (n+k)/\(R.length:Int)<=21+4*(n+k)/\0<=n+k:=by
 obtain⟨a1,Z,O⟩:=Zum S h0 g (λj r h=>⟨rows j r h,trivial⟩) (λx U=>nomatch U) (λk r I=>by simp at I) (Qy _);obtain⟨k0,_,g',e,Y⟩:=Mw g;have hb:bc.length=l.length:=by rw[e,Sf];exact Y
 have tb:TOk bc.length xa:=by rw[hb];exact ta
 have O:(R.length:Int)<=((0:Nat):Int)+l.length+4*k:=O;refine⟨tb,⟨Zem tb Z,λk r I=>(a1 k r I).1,by show R.length<=3000;lia,λr I=>?_,hk⟩,a1,by lia,by lia⟩;obtain⟨i,hi⟩:=Wj I;obtain⟨_,⟨k1,k2,k3⟩,_⟩:=a1 i r hi;exact⟨k1,k2,by lia⟩
include hp h5
theorem Zck:∃e,Gg sub p l xa n e/\GoZ sub [Ap p] l xa n e/\∀o,e=some o->Gn o/\RsOk sub o.2.1 o.2.2/\(o.2.1.length:Int)<=21+4*o.2.2/\0<=o.2.2:=by
 rcases Zib S hp h0 l [] [] n (λj r h=>rows j r h) (λx U=>nomatch U) (λk r Y=>by simp at Y) (Qy _) h5 (by show((0:Nat):Int)+_+_<=_;lia) with⟨b1,R1,k1,g1,hk1,G1,_⟩|⟨G1,n1⟩
 ·obtain⟨O,I⟩:=Zjb S h0 hl ta rows g1 hk1;exact⟨some (A7 b1 xa,R1,n+k1),⟨_,G1,λbc S e=>(by cases e;exact⟨O.now,rfl⟩),λe=>by cases e⟩,⟨λo e=>(by cases e;exact⟨_,_,_,g1,hk1,rfl⟩),λe=>by cases e⟩,λo e=>by cases e;exact I⟩
 ·exact⟨none,⟨_,G1,λbc S e=>(by cases e),λ_=>rfl⟩,⟨λo e=>(by cases e),λ_=>n1⟩,λo e=>by cases e⟩
end
theorem Zp8 (S:SubOk sub)(S':SubOk sub')(F:Fil sub sub' q)(hp:(sub p).isSome=true)(hq:(sub' q).isSome=true)(h0:0<=n)(h5:n<=500)(hl:(l.length:Int)<=21+4*n)(ta:TOk l.length xa)(rows:Zet sub p n l) :
  ∃e1 e2:Option Er,Gg sub p l xa n e1/\GoZ sub' [Ap p,Ap q] l xa n e2/\(e1=none->e2=none)/\∀o,e1=some o->Gn o/\Gg sub' q o.2.1 o.1 o.2.2 e2/\∀o',e2=some o'->Gn o':=by
 obtain⟨w1,w2⟩:=Zhx S F hp h0 l [] [] n (λj r h=>⟨rows j r h,trivial⟩) (λx hx=>nomatch hx) (λk r hr=>by simp at hr) (Qy _);obtain⟨e1,G1,Z1,c1⟩:=Zck S hp h0 h5 hl ta rows;cases e1 with
 |none =>
  refine⟨none,none,G1,⟨λo e=>(by cases e),λ_ bc R k g=>?_⟩,λ_=>rfl,λo e=>by cases e⟩;obtain⟨aa,R1,k1,g1,hk⟩:=w2 [] [] Inv0 _ _ _ g;have:=Z1.2 rfl _ _ _ g1;lia
 |some o =>
  obtain⟨c3,c4,Y,U⟩:=c1 o rfl;obtain⟨b1,R1,k1,g1,O,rfl⟩:=Z1.1 o rfl;obtain⟨m,hm,f1,f2⟩:=w1 _ _ _ g1 [] [] Inv0;rw[Sf]at hm;subst hm;have tb:=(Zjb S h0 hl ta rows g1 O).1;have I:Zet sub' q (n+k1) R1:=λj r hr=>by
   obtain⟨⟨b1,b2⟩,⟨a2,a3,a4⟩,a5,H⟩:=c4 j r hr;rw[show([]:List (Str×V)).length+j=j from Sv j];refine⟨b1,b2,a2,a3,a4,a5,λZ=>?_⟩;obtain⟨d,hd⟩:=H.s;exact⟨⟨d,F.o _ _ hd λe=>Z (by rw[H.p,e])⟩,H.p,H.t,H.i,H.l⟩
  have U:0<=n+k1:=U;have Y:(R1.length:Int)<=21+4*(n+k1):=Y;obtain⟨e2,G2,Z2,c2⟩:=Zck S' hq U O Y c3.t I;refine⟨_,e2,G1,⟨λo e=>?_,λe bc R k g=>?_⟩,λe=>(by cases e),λo e=>by cases e;exact⟨c3,G2,λo' e'=>(c2 o' e').1⟩⟩
  ·obtain⟨b2,R2,k2,g2,ac,rfl⟩:=Z2.1 o e;refine⟨_,_,_,f1 _ _ _ g2,by lia,?_⟩;rw[<- Zdx tb,Tp]
  ·obtain⟨b2,k2,g2,rfl,rfl⟩:=f2 _ _ _ g;have:=Z2.2 e _ _ _ g2;lia
theorem Znu (S:SubOk sub)(S':SubOk sub')(F:Fil sub sub' q)(hp:(sub p).isSome=true)(hp':(sub' p).isSome=true)(hq:(sub' q).isSome=true)(h0:0<=n)(h5:n<=500)(hl:(l.length:Int)<=21+4*n)(ta:TOk l.length xa)(rows:∀(j:Nat)(r:Rx),l[j]?=some r->Ge sub p n (([]:List (Str×V)).length+j) r/\(r.pl≠Ap p->r.pl≠Ap q)) :
  ∃e1 e2:Option Er,Gg sub p l xa n e1/\Gg sub' p l xa n e2/\(e1=none->e2=none)/\(∀o,e2=some o->Gn o)/\∀o,e1=some o->Gn o/\Gg sub' q o.2.1 o.1 o.2.2 e2:=by
 obtain⟨e1,e2,Z,Y,I,c⟩:=Zp8 S S' F hp hq h0 h5 hl ta λj r h=>(rows j r h).1;obtain⟨e3,U,Z3,O⟩:=Zck S' hp' h0 h5 hl ta λj r h=>by
  obtain⟨W,hz⟩:=rows j r h;refine⟨W.a,W.o,W.lp,W.lo,W.la,W.lf,λhn=>?_⟩;have H:=W.sh hn;obtain⟨d,hd⟩:=H.s;exact⟨⟨d,F.o _ _ hd λe=>hz hn (by rw[H.p,e])⟩,H.p,H.t,H.i,H.l⟩
 cases Zkz Z3 Y λr hr=>by
  obtain⟨j,hj⟩:=Wj hr;have:=(rows j r hj).2;simp only[Pr,Pz,or_false];exact⟨.inl,λh=>Classical.byContradiction λz=>by
   rcases h with h|h
   ·exact z h
   ·exact this z h⟩
 exact⟨e1,e2,Z,U,I,λo e=>(O o e).1,λo e=>⟨(c o e).1,(c o e).2.1⟩⟩
theorem Zb6:∀(pl:List Nat)(ts:List Tr)(i:Nat)(u:Tr),Bm pl i (ts++[u])=Bm pl i ts++walk (pl++[i+ts.length]) u
 |pl,[],i,u=>by
  rw[Sf,Bm,Bm,Bm,Q0];simp
 |pl,t::r,i,u=>by
  rw[Ry,Bm,Bm,Zb6 pl r (i+1) u,Qf,Qa,show i+1+r.length=i+(r.length+1) by lia]
theorem Zgc (ts:List Tr)(j:Nat):Bs (ts.take j)<=Bs ts:=by
 have:=Zg1 (ts.take j) (ts.drop j);rw[List.take_append_drop]at this;lia
theorem Zkk {α:Type}{l:List α}{i:Nat}{c:α}(h:l[i]?=some c):l.take (i+1)=l.take i++[c]:=by rw[Sa,h];rfl
theorem Zb9 (s:Sub t pl):(path t pl)[pl.length]?=Ce t pl:=by
 induction s with
 |nil t=>rw[Go];cases t;rfl
 | @cons w n ts j t r h s I=>rw[Lu h,Fa,h,Qa,Tw];exact I
mutual
theorem Za2:∀(t:Tr)(x:List Nat×Tr),x∈walk [] t->Sub t x.1/\(path t x.1)[x.1.length]?=some x.2
 |.mk w n ps,x,h=>by
  rw[walk]at h;rcases Pr.mp h with rfl|h
  ·exact⟨.nil _,rfl⟩
  ·obtain⟨j,t,r,I,U,Y,O⟩:=Zke 0 ps x h;rw[U,Sv];refine⟨.cons I Y,?_⟩;rw[Lu I,Qa,Tw];exact O
theorem Zke:∀(i:Nat)(ts:List Tr)(x:List Nat×Tr),x∈Bm [] i ts->eX3 λ(j:Nat)(t:Tr)(r:List Nat)=>ts[j]?=some t/\x.1=(i+j)::r/\Sub t r/\(path t r)[r.length]?=some x.2
 |i,[],x,h=>by rw[Bm]at h;cases h
 |i,t::r,x,h=>by
  rw[Bm]at h;rcases Q4.mp h with h|h
  ·rw[Sf,Zc1]at h;obtain⟨y,U,rfl⟩:=Ro.mp h;obtain⟨a,b⟩:=Za2 t y U;exact⟨0,t,y.1,rfl,rfl,a,b⟩
  ·obtain⟨j,u,q,O,Y,Z,I⟩:=Zke (i+1) r x h;exact⟨j+1,u,q,O,by rw[Y];congr 1;lia,Z,I⟩
end
theorem Pf (s:Sub t pl)(q:List Nat):Ce (withAt t pl f) (pl++q)=Ce f q:=by
 induction s with
 |nil t=>cases t;rw[withAt,Sf]
 | @cons w n ts j t r h s I =>
  rw[with_cons h,Ry,Fa,Rr (Ps.mp h).1,Rz];exact I
theorem Zpe (s:Sub t pl)(hg:Ce t pl=some g)(h0:g.ps=[]):∀{q:List Nat}{u:Tr},Ce t q=some u->q≠pl->∃u',Ce (withAt t pl f) q=some u'/\u'.wd=u.wd/\Fw u'=Fw u:=by
 induction s with
 |nil t =>
  intro q u I O;rw[Go]at hg;cases hg;cases g with
  |mk w n ts =>
   have h0:ts=[]:=h0;subst h0;cases q with
   |nil=>exact absurd rfl O
   |cons i r=>rw[Fa]at I;cases I
 | @cons w n ts j t r h s Y =>
  intro q u I O;rw[Fa,h,Rz]at hg;rw[with_cons h];cases q with
  |nil =>
   rw[Go]at I;cases I;exact⟨_,Go _,rfl,rfl⟩
  |cons i q =>
   rw[Fa]at I ⊢;by_cases e:i=j
   ·subst e;rw[h,Rz]at I;rw[Rr (Ps.mp h).1,Rz];exact Y hg I λz=>O (by rw[z])
   ·rw[T8 (λz=>e z.symm)];obtain⟨x,U,I⟩:=Wf.mp I;exact⟨u,by rw[U];exact I,rfl,rfl⟩
theorem Zkr (s:Sub t pl)(ht:Tf t)(hf:Tf f):Tf (withAt t pl f):=by
 induction s with
 |nil t=>cases t;exact hf
 | @cons w n ts j t r h s Y =>
  rw[with_cons h];cases ht with
  |mk U O =>
   refine .mk (by rw[Te];exact U) λu I=>?_;rcases List.mem_or_eq_of_mem_set I with I|rfl
   ·exact O u I
   ·exact Y (O t (Qs h))
theorem Zml (h:ts[j]?=some t):Bs (ts.set j u)+t.size=Bs ts+u.size:=by
 induction ts generalizing j with
 |nil=>simp at h
 |cons a r I =>
  cases j with
  |zero =>
   cases h;rw[List.set_cons_zero,Bs,Bs];lia
  |succ j =>
   rw[Tw]at h;have:=I h;rw[List.set_cons_succ,Bs,Bs];lia
theorem L7 (s:Sub t pl):(withAt t pl f).size<=t.size+f.size:=by
 induction s with
 |nil t=>cases t;rw[withAt];lia
 | @cons w n ts j t r h s I =>
  rw[with_cons h,Tr.size,Tr.size];have:=Zml (u:=withAt t r f) h;lia
theorem Zi0 (ht:Tf t)(s:Sub t pl)(hg:Ce t pl=some g)(hw:g.wd="gap"):Fil (C6 t) (C6 (withAt t pl f)) pl/\(C6 (withAt t pl f) pl).isSome=true:=by
 have hp:g.ps=[]:=by
  have:=(Kk (J9 ht hg).1).p;rw[hw,show Ha "gap"=some 0 by right]at this;exact R5 (Qg this).symm
 refine⟨⟨⟨Fw g,by rw[Kc,hg,<- hw];rfl⟩,λq x U Y=>?_⟩,?_⟩
 ·obtain⟨u,I,rfl⟩:=Kg U;obtain⟨Z,h1,h2,O⟩:=Zpe (f:=f) s hg hp I Y;rw[Kc,h1,<- h2,<- O];rfl
 ·have:=Pf (f:=f) s [];rw[Q0,Go]at this;rw[Kc,this];rfl
section
variable {P:Program}{w:World}{K:Ph}{mg:Str->Option Value}{base:Heap}
def Zc6 (K:Ph):Sp:=λvs H Q _=>eX3 λ(v:V)(x:Str×V)(n:Nat)=>vs=[v,.int (n:Nat)]/\ThAt K H v x/\TOk n x/\Q (.bl true) H
theorem Zls:Bb pQ pQ (A5 Zae):=by walk_at "sc"
theorem Ov (h:n=m):(!decide (V.int n=V.int m))=false:=by subst h;rw[decide_eq_true rfl];rfl
theorem Fy {X Y:Prop}(h:b=false)(y:Y):if b=true then X else Y:=by rw[if_neg (by rw[h];exact Pt)];exact y
theorem Jv {X Y:Prop}(h:b=true)(x:X):if b=true then X else Y:=by rw[if_pos h];exact x
theorem Zra (F:Fun K "_law_is_thing" "_law_is_thing" Zae f fd)(T:Txt K mg):FnOk P w K mg base Aq 1 f fd pQ (Zc6 K):=by
 refine F.okq Zls (λvs H Q E h=>?_) (λU A outer s H vs Q E O h=>?_)
 ·obtain⟨v,x,n,rfl,_⟩:=h;rfl
 ·obtain⟨v,x,n,rfl,Z,Y,q⟩:=h;refine⟨_,Ad (Ax (QW.qt (Ds (De (B0 (B1 (B9 K "tuple") T.isinstance (Ah Ab (Ca (v:=.ty "tuple") (by rfl) T.tuple (by right) rfl))))) (Ds (Bp (Fq K O.u200) (Bz K T.len Ab) Aa) (D7 (De (B0 (B1 (B9 K "str") T.isinstance (Ah (Ai K Ab Aa) (Ca (v:=.ty "str") (by rfl) T.str (by right) rfl))))))))) (An Cy) A0)
   (Ad (Ax (Bj K O (Ai K Ab Aa) Aj) (An (B1 (B9 K "bool") T.isinstance (Ah (Ai K Ab Aa) (Ca (v:=.ty "bool") (by rfl) T.bool (by right) rfl)))) A0) (Ad (Ax (QW.qt (Ds (De (B0 (B1 (B9 K "int") T.isinstance (Ah (Ai K Ab Aa) (Ca (v:=.ty "int") (by rfl) T.int (by right) rfl))))) (D7 (B0 (B1 (B9 K "bool") T.isinstance (Ah (Ai K Ab Aa) (Ca (v:=.ty "bool") (by rfl) T.bool (by right) rfl))))))) (An Cy) A0) (Ad (Ax (Bj K O (Ai K Ab Aa) Aj) (An (Zho Zgf Ey Aa (Ai K Ab Aa) Ag)) A0) (An (E6 K O (Ai K Ab Aa) Aj))))),?_⟩
  obtain⟨fx,a,rfl,I⟩:=Z;obtain⟨wd,u⟩:=x;have I:SqT K H a [.str wd,u]:=I;left;refine Fe (b:=true) I rfl ?_;left;refine Ej I ?_;left;refine Fy (Ov rfl) ?_;left;refine A1 I rfl ?_;left;refine B7 (b:=true) (.str _) rfl ?_;left;refine A1 I rfl ?_;rcases Y with⟨h,i,e⟩|⟨h,i,e⟩|⟨h,i,e,hi⟩
  all_goals replace h:wd=_:=h
  all_goals replace e:u=_:=e
  all_goals subst h e
  ·left;refine Fy (by right) ?_;left;refine A1 I rfl ?_;left;refine B7 (b:=true) (.int _) rfl ?_;left;refine A1 I rfl ?_;left;refine B7 (b:=false) (.int _) rfl ?_;left;refine A1 I rfl ?_;left;refine Fy (by right) ?_;left;refine A1 I rfl ?_;left;exact q
  ·left;refine Jv (by right) ?_;left;refine A1 I rfl ?_;left;refine B7 (b:=true) (.bl _) rfl ?_;left;exact q
  ·left;refine Fy (by right) ?_;left;refine A1 I rfl ?_;left;refine B7 (b:=true) (.int _) rfl ?_;left;refine A1 I rfl ?_;left;refine B7 (b:=false) (.int _) rfl ?_;left;refine A1 I rfl ?_;left;refine Jv (by right) ?_;left;refine A1 I rfl ?_;left;refine Jv (decide_eq_true (by lia)) ?_;left;rw[decide_eq_true (show(i:Int)<(n:Int) by lia)];exact q
def Zg0 (K:Ph):Sp:=λvs H Q _=>eX4 λ(v:V)(x:Rx)(n:Nat)(A:Addr->Prop)=>vs=[v,.int (n:Nat)]/\RwAt K A H v x/\AOk n x.ar/\(∀y∈x.ops,TOk n y)/\Q (.bl true) H
theorem Zde:Bb ["_law_row_here","_law_k","_law_thing_here","_law_pair"] ["_law_row_here","_law_k"] (A5 Os):=by walk_at "sc"
theorem Ztr (F:Fun K "_law_is_row" "_law_is_row" Os f fd)(T:Txt K mg)(C__law_is_thing:Ba P w K mg base 1 "_law_is_thing" ["_law_thing_here","_law_many"] (Zc6 K)):FnOk P w K mg base Aq 2 f fd ["_law_row_here","_law_k"] (Zg0 K):=by
 refine F.okq Zde (λvs H Q E h=>?_) (λac A outer s H vs Q E Y h=>?_)
 ·obtain⟨v,x,n,A,rfl,_⟩:=h;rfl
 ·obtain⟨v,x,n,A',rfl,hx,ha,ho,q⟩:=h;refine⟨_,Ad (Ax (QW.qt (Ds (De (B0 (B1 (B9 K "tuple") T.isinstance (Ah Ab (Ca (v:=.ty "tuple") (by rfl) T.tuple (by right) rfl))))) (D7 (Bp (Fq K Y.u200) (Bz K T.len Ab) Aa)))) (An Cy) A0)
   (Ad (Ax (QW.qt (Ds (De (B0 (B1 (B9 K "str") T.isinstance (Ah (Ai K Ab Aa) (Ca (v:=.ty "str") (by rfl) T.str (by right) rfl))))) (D7 (De (B0 (B1 (B9 K "tuple") T.isinstance (Ah (Ai K Ab Aa) (Ca (v:=.ty "tuple") (by rfl) T.tuple (by right) rfl)))))))) (An Cy) A0) (Ad (Ax (QW.qt (Ds (De (B0 (B1 (B9 K "list") T.isinstance (Ah (Ai K Ab Aa) (Ca (v:=.ty "list") (by rfl) T.list (by right) rfl))))) (D7 (De (B0 (B1 (B9 K "list") T.isinstance (Ah (Ai K Ab Aa) (Ca (v:=.ty "list") (by rfl) T.list (by right) rfl)))))))) (An Cy) A0) (Ad (Dw Qk rfl (El K (Ai K Ab Aa)) (Da 2 Zde) (A3 (Ax (De (B0 (Ay C__law_is_thing Y.m (Ah Az Ag)))) (An Cy) A0))) (Ad (Dw Qk rfl (El K (Ai K Ab Aa)) (Da 3 Zde) (Ad (Ax (QW.qt (Ds (De (B0 (B1 (B9 K "tuple") T.isinstance (Ah A9 (Ca (v:=.ty "tuple") (by rfl) T.tuple (by right) rfl))))) (Ds (Bp (Fq K Y.u200) (Bz K T.len A9) Aa) (D7 (De (B0 (B1 (B9 K "str") T.isinstance (Ah (Ai K A9 Aa) (Ca (v:=.ty "str") (by rfl) T.str (by right) rfl))))))))) (An Cy) A0) (A3 (Ax (De (B0 (Ay C__law_is_thing Y.m (Ah (Ai K A9 Aa) Ag)))) (An Cy) A0)))) (An Cy))))),?_⟩
  obtain⟨a,p,o,e,ov,ev,rfl,h2,h3,h4,h5,h6,h7,_,_⟩:=hx;left;refine Fe (b:=true) h2 rfl ?_;left;refine Ej h2 ?_;left;refine Fy (Ov rfl) ?_;left;refine A1 h2 rfl ?_;left;refine B7 (b:=true) (.str _) rfl ?_;left;refine A1 h2 rfl ?_;left;refine Fe (b:=true) h3 rfl ?_;left;refine A1 h2 rfl ?_;left;refine G0 (b:=true) (SqL.of h4) rfl ?_;left;refine A1 h2 rfl ?_;left;refine G0 (b:=true) (SqL.of h6) rfl ?_;left;refine A1 h2 rfl ?_;refine .inl ⟨o,rfl,⟨_,SqL.of h4⟩,?_⟩;refine Jz (K:=K) (a:=o) (xs:=ov) (λi I H'=>∃O,I=[some (.ref a),some (.int (n:Nat)),O,none]/\H'=H) ⟨_,rfl,rfl⟩ ?_ ?_ ?_
  ·rintro i I H' _ ⟨_,_,rfl⟩;exact SqL.of h4
  ·rintro i y I H' hy ⟨O,rfl,rfl⟩;obtain⟨z,hz,aa⟩:=h5.get hy;left;refine⟨y,z,n,rfl,aa,ho z (Qs hz),?_⟩;left;exact⟨_,rfl,rfl⟩
  rintro I H' ⟨O,rfl,rfl⟩;left;refine A1 h2 rfl ?_;refine .inl ⟨e,rfl,⟨_,SqL.of h6⟩,?_⟩;refine Jz (K:=K) (a:=e) (xs:=ev) (λi I H1=>∃Z,I=[some (.ref a),some (.int (n:Nat)),O,Z]/\H1=H') ⟨_,rfl,rfl⟩ ?_ ?_ ?_
  ·rintro i I H1 _ ⟨_,_,rfl⟩;exact SqL.of h6
  ·rintro i y I H1 hy ⟨Z,rfl,rfl⟩;obtain⟨z,hz,ay,uy,rfl,U,ty⟩:=h7.get hy;left;refine Fe (b:=true) U rfl ?_;left;refine Ej U ?_;left;refine Fy (Ov rfl) ?_;left;refine A1 U rfl ?_;left;refine B7 (b:=true) (.str _) rfl ?_;left;refine A1 U rfl ?_;left;refine⟨uy,z.2,n,rfl,ty,ha z (Qs hz),?_⟩;left;exact⟨_,rfl,rfl⟩
  rintro I H1 ⟨Z,rfl,rfl⟩;left;exact q
def RcAt (K:Ph)(H:Hp)(v:V)(o:Er):Prop:=eX5 λ(r rd:Addr)(av:V)(rv:List V)(A:Addr->Prop)=>v=.ref r/\SqT K H r [av,.ref rd,.int o.2.2]/\ThAt K H av o.1/\H rd=some (.lst rv)/\Al (RwAt K A H) rv o.2.1
def Zhb (K:Ph):Sp:=λvs H Q _=>eX2 λ(v:V)(o:Er)=>vs=[v]/\RcAt K H v o/\TOk o.2.1.length o.1/\RLt o.2.1/\o.2.1.length<=3000/\Q (.bl true) H
theorem Zey:Bb ["_law_found","_law_k"] ["_law_found"] (A5 N2):=by walk_at "sc"
theorem Zmt (F:Fun K "_law_is_record" "_law_is_record" N2 f fd)(T:Txt K mg)(C__law_is_thing:Ba P w K mg base 1 "_law_is_thing" ["_law_thing_here","_law_many"] (Zc6 K))(C__law_is_row:Ba P w K mg base 2 "_law_is_row" ["_law_row_here","_law_k"] (Zg0 K)):FnOk P w K mg base Aq 3 f fd ["_law_found"] (Zhb K):=by
 refine F.okq Zey (λvs H Q E h=>?_) (λaa A outer s H vs Q E Z h=>?_)
 ·obtain⟨v,o,rfl,_⟩:=h;rfl
 ·obtain⟨v,o,rfl,⟨r,rd,av,U,A',rfl,h2,h3,O,h5⟩,ht,hl,ac,q⟩:=h;refine⟨_,Ad (Ax (QW.qt (Ds (De (B0 (B1 (B9 K "tuple") T.isinstance (Ah Ab (Ca (v:=.ty "tuple") (by rfl) T.tuple (by right) rfl))))) (Ds (Bp (Fq K Z.u200) (Bz K T.len Ab) Aa) (D7 (De (B0 (B1 (B9 K "list") T.isinstance (Ah (Ai K Ab Aa) (Ca (v:=.ty "list") (by rfl) T.list (by right) rfl))))))))) (An Cy) A0)
   (Ad (Dw Qk rfl (He rfl T.range (Av (Bz K T.len (Ai K Ab Aa)))) (Da 1 Zey) (A3 (Ax (De (B0 (Ay C__law_is_row Z.m (Ah (Ai K (Ai K Ab Aa) Ag) Ag)))) (An Cy) A0))) (Ad (Ax (QW.qt (Ds (De (B0 (B1 (B9 K "int") T.isinstance (Ah (Ai K Ab Aa) (Ca (v:=.ty "int") (by rfl) T.int (by right) rfl))))) (D7 (B0 (B1 (B9 K "bool") T.isinstance (Ah (Ai K Ab Aa) (Ca (v:=.ty "bool") (by rfl) T.bool (by right) rfl))))))) (An Cy) A0) (An (Ay C__law_is_thing Z.m (Ah (Ai K Ab Aa) (Bz K T.len (Ai K Ab Aa))))))),?_⟩
  have el:=h5.1;left;refine Fe (b:=true) h2 rfl ?_;left;refine Ej h2 ?_;left;refine Fy (Ov rfl) ?_;left;refine A1 h2 rfl ?_;left;refine G0 (b:=true) (SqL.of O) rfl ?_;left;refine A1 h2 rfl ?_;left;refine Cm (SqL.of O) ?_;left;refine⟨by lia,by lia,?_⟩;refine Gu (n:=(U.length:Int).toNat) (λi I H'=>∃Y,I=[some (.ref r),Y]/\H'=H) ⟨_,rfl,rfl⟩ ?_ ?_
  ·rintro i I H' hi ⟨Y,rfl,rfl⟩;have hi:i<U.length:=by lia
   have e0:(0:Int)+(i:Int)=((i:Nat):Int):=by lia
   rw[e0];obtain⟨z,hz,rz⟩:=h5.get (Pj hi);obtain⟨l1,l2⟩:=hl i z hz;left;refine A1 h2 rfl ?_;left;refine Bo (SqL.of O) (Cp (Pj hi)) ?_;left;refine⟨U[i],z,i,A',rfl,rz,l1,l2,?_⟩;left;exact⟨_,rfl,rfl⟩
  rintro I H' ⟨Y,rfl,rfl⟩;left;refine A1 h2 rfl ?_;left;refine B7 (b:=true) (.int _) rfl ?_;left;refine A1 h2 rfl ?_;left;refine B7 (b:=false) (.int _) rfl ?_;left;refine A1 h2 rfl ?_;left;refine A1 h2 rfl ?_;left;refine Cm (SqL.of O) ?_;left;refine⟨av,o.1,U.length,rfl,h3,by rw[el];exact ht,?_⟩;exact q
theorem Zuy (h1:∀v H',Q v H'->Y v H')(h2:∀c d H',E c d H'->Z c d H')(h:Nq K TL vs H Q E):Nq K TL vs H Y Z:=by
 obtain⟨tv,fv,av,t,tf,p,q0,rd,fl,d,gs,n,rv,rs,xa,oo,a1,a2,a3,a4,a5,a6,a7,a8,a9,ae,ah,U,ac,aa,ad,ag,q,qL⟩:=h;exact⟨tv,fv,av,t,tf,p,q0,rd,fl,d,gs,n,rv,rs,xa,oo,a1,a2,a3,a4,a5,a6,a7,a8,a9,ae,ah,U,ac,aa,ad,ag,λbc S' e=>⟨(q bc S' e).1,λr' O I af H' b1 b2 b3 b4 b5 b6 b7=>h1 _ _ ((q bc S' e).2 r' O I af H' b1 b2 b3 b4 b5 b6 b7)⟩,λe H' s=>h2 _ _ _ (qL e H' s)⟩
def Zbt (K:Ph)(TL:Addr):Sp:=λvs H Q _=>eX5 λ(a b c d:V)(N:Hp->Prop)=>vs=[a,b,c,d]/\Nq K TL [a,b,c,d] H Q (λc d H'=>c=.ref TL/\d=none/\N H')/\∀H' H2,N H'->Same H' H2->Q .non H2
theorem sc_law_go_on:Bb ["_law_tree","_law_record","_law_place","_law_form_here","_law_found"] pO (A5 Zab):=by walk_at "sc"
theorem Zwf (F:Fun K "_law_go_on" "_law_go_on" Zab f fd)(T:Txt K mg)(C_go_on:Kq P w K mg base 8 "go_on" ["tree","record","place","form"] (Nq K TL))(X_TooLong:Zac K TL)(G_TooLong:mg "TooLong"=some (.ref TL))(O:Ss K (.ref TL) (.ref TL)=some true):FnOk P w K mg base Aq 9 f fd pO (Zbt K TL):=by
 refine F.okq sc_law_go_on (λvs H Q E h=>?_) (λU A outer s H vs Q E Y h=>?_)
 ·obtain⟨a,b,c,d,N,rfl,_⟩:=h;rfl
 ·obtain⟨a,b,c,d,N,rfl,G,q⟩:=h;refine⟨_,Ad (Ao 4 sc_law_go_on Hc)
   (Ad (Zo3 X_TooLong G_TooLong rfl rfl (Zne (i:=4) sc_law_go_on.nd rfl (Or.inl rfl) (Zr9 C_go_on Y.m (λ_=>Kr Ab (Bc Ag Az A9)))) (λ_ _=>A3 (Ao 4 sc_law_go_on Hc))) (An A6)),?_⟩
  left;refine⟨a,rfl,b,rfl,c,rfl,d,rfl,?_⟩;dsimp only[Fo];refine Zuy (λv H' h=>?_) (λc d H' h=>?_) G
  ·left;exact h
  ·obtain⟨rfl,rfl,n⟩:=h;refine⟨⟨TL,rfl,O⟩,λa1 I=>?_⟩;left;exact q _ _ n (Same.upd I)
end
def RcX (K:Ph)(A:Addr->Prop)(H:Hp)(v:V)(o:Er):Prop:=eX4 λ(r rd:Addr)(av:V)(rv:List V)=>v=.ref r/\SqT K H r [av,.ref rd,.int o.2.2]/\ThAt K H av o.1/\H rd=some (.lst rv)/\¬A rd/\Al (RwX K A H) rv o.2.1
theorem RcX.same (h:RcX K A H v o)(s:SameA A H H'):RcX K A H' v o:=by
 obtain⟨r,rd,Z,I,h1,h2,U,O,h5,Y⟩:=h;exact⟨r,rd,Z,I,h1,s.1.tup h2,ThAt.same s.1 _ _ U,s.2 _ _ h5 O,h5,Y.mono (RwX.same s)⟩
theorem RcX.mono (h:RcX K A H v o)(s:∀b,B b->H b≠none->A b):RcX K B H v o:=by
 obtain⟨r,rd,Z,O,h1,h2,U,I,h5,Y⟩:=h;exact⟨r,rd,Z,O,h1,h2,U,I,λz=>h5 (s _ z (by rw[I];exact λe=>nomatch e)),Y.mono (RwX.mono s)⟩
theorem RcX.at (h:RcX K A H v o):RcAt K H v o:=by
 obtain⟨r,rd,Z,I,h1,h2,U,O,_,Y⟩:=h;exact⟨r,rd,Z,I,A,h1,h2,U,O,Y.mono λ_ _ h=>h.1⟩
def F0:Addr->Prop:=λ_=>False
noncomputable def recD (x:Str×V)(rs:List Rx)(n:Int):Dt:=.tup [Ky x,.lst (rs.map rzD),.flat (.int n)]
theorem RcAt.d (h:RcAt K H v o):IsD K H 6 v (recD o.1 o.2.1 o.2.2):=by
 obtain⟨r,rd,Z,Y,A,rfl,q,O,U,I⟩:=h;refine .tup q rfl λj v d h1 h2=>?_
 match j,h1,h2 with
 |0,h1,h2=>cases h1;cases h2;exact(ThAt.d O).up (by decide)
 |1,h1,h2=>cases h1;cases h2;exact Al.lstD I (SqL.of U) λv x h=>RwAt.d h
 |2,h1,h2=>cases h1;cases h2;exact .flat rfl
theorem Zg9 (g:Gn o):Fm (recD o.1 o.2.1 o.2.2):=.tup (by show 3<=5000;decide) λd hd=>by
 simp only[Pr,Pz,or_false]at hd;rcases hd with rfl|rfl|rfl
 ·exact Zbx _
 ·exact Zdl (by have:=g.n;lia) λx I=>Zln ⟨(g.z x I).1,by have:=(g.z x I).2.1;lia,by have:=(g.z x I).2.2;lia⟩
 ·exact .flat _
inductive FdX (K:Ph)(H H':Hp)(v:V)(r:Option Er):Prop
 |some (o:Er) (q rd:Addr) (av:V) (rv:List V) (_:r=some o) (_:v=.ref q) (_:SqT K H' q [av,.ref rd,.int o.2.2]) (_:ThAt K H' av o.1) (_:H' rd=some (.lst rv)) (_:Al (RwX K (λb=>b=rd\/H b≠none) H') rv o.2.1) (_:H rd=none)
 |none (_:r=none) (_:v=.non)
theorem lgR {K:Ph}{TL:Addr}{H:Hp}{Q:VK}{E:XK}{tv fv:V}{t f g:Tr}{p r q:Addr}{pl:List Nat}{av:V}{ws:List V}{o:Er}{e:Option Er}(T:TrAt K H tv t)(hz:t.size+f.size<=1000)(hp:SqT K H p (A2 pl))(hl:pl.length<=1000)(hs:K19.Sub t pl)(hg:Ce t pl=some g)(hw:g.wd="gap")(F:TrAt K H fv f)(n5:o.2.2<=500)(ln:o.2.1.length<=3000)(qr:SqT K H r [av,.ref q,.int o.2.2])(ha:ThAt K H av o.1)(eq:H q=some (.lst ws))(al:Al (RwX K (λb=>b=q) H) ws o.2.1)(G:Gg (C6 (K19.withAt t pl f)) pl o.2.1 o.1 o.2.2 e)(h:∀v H',Same H H'->FdX K H H' v e->Q v H'):Zbt K TL [tv,.ref r,.ref p,fv] H Q E:=by
 have aa:=L7 (f:=f) hs;obtain⟨oo,GO,g1,g2⟩:=G;have Z:(K19.path t pl)[pl.length]?=some (.mk "gap" (Fw g) g.ps):=by rw[Zb9 hs,hg,<- hw,<- Zgi]
 refine⟨tv,.ref r,.ref p,fv,λH'=>Same H H'/\oo=none,rfl,⟨tv,fv,av,t,f,p,r,q,pl,_,_,o.2.2,ws,o.2.1,o.1,oo,rfl,T,by lia,hp,hs,hl,Z,F,by lia,qr,n5,eq,al,by lia,ha,GO,λbc S' O=>?_,λO H' s=>⟨rfl,rfl,s,O⟩⟩,λH' H2 n s=>?_⟩
 ·obtain⟨k1,k2⟩:=g1 bc S' O;exact⟨k1,λr' U I Y H' s b1 b2 b3 b4 b5 b6=>h _ _ s (.some _ r' U I Y k2 rfl b1 b2 b3 b4 b6)⟩
 ·exact h _ _ (n.1.trans s) (.none (g2 n.2) rfl)
section
variable {P:Program}{w:World}{K:Ph}{mg:Str->Option Value}{base:Heap}
def GpAt (K:Ph)(AG:Addr->Prop)(B:Nat)(H:Hp)(v:V)(x:List Nat×Tr):Prop:=eX3 λa p b=>v=.ref a/\SqT K H a [.ref p,.ref b]/\H p=some (.tup (A2 x.1))/\BdAt K H b B/\¬AG b
theorem GpAt.same (s:Same H H')(v:V)(x:List Nat×Tr)(h:GpAt K AG B H v x):GpAt K AG B H' v x:=let ⟨a,p,b,e,q,q',d,n⟩:=h;⟨a,p,b,e,s.tup q,s _ _ q',d.same s,n⟩
noncomputable def Gk (x:List Nat×Tr):Bool:=decide (x.2.wd="gap")
def Ix (K:Ph)(n:Nat):Sp:=λvs H Q _=>eX8 λ(v:V)(t:Tr)(p b:Addr)(pl:List Nat)(m B:Nat)(AG:Addr->Prop)=>vs=[v,.ref p,.ref b]/\TrAt K H v t/\Tf t/\H p=some (.tup (A2 pl))/\BdAt K H b m/\t.size<=n/\pl.length+t.size<=1000/\m+2*t.size<=B/\B<=420/\(∀z,AG z->H z≠none)/\¬AG b/\∀(r:Addr)(ws:List V)(H':Hp),Same H H'->H' r=some (.lst ws)->Al (GpAt K AG B H') ws ((walk pl t).filter Gk)->Q (.ref r) H'
theorem Hz:Bb ["_law_form_here","_law_place","_law_bound","_law_word","_law_note","_law_parts","_law_found","_law_k","_law_more"] pJ (A5 Lo):=by walk_at "sc"
theorem Zru (F:Fun K "_law_gaps" "_law_gaps" Lo f fd)(T:Txt K mg)(C__law_gaps:Ba P w K mg base (n+1) "_law_gaps" ["_law_form_here","_law_place","_law_bound"] (Ix K n)):FnOk P w K mg base Aq (n+2) f fd pJ (Ix K (n+1)):=by
 refine F.okq Hz (λvs H Q E h=>?_) (λbi A outer s H vs Q E hr h=>?_)
 ·obtain⟨v,t,p,b,pl,m,B,AG,rfl,_⟩:=h;rfl
 ·obtain⟨v,t,p,bb,pl,m,B,AG,rfl,ht,tf,hp,an,hz,hd,hm,hB,ak,aw,q⟩:=h;refine⟨_,Ad (Ek Ab (Ks K Hz 3 4 5))
   (Ad (Ao 6 Hz (Bk Bh)) (Ad (Ax (Bj K hr A9 Aj) (A3 (Bx (Co K Pu Qd Qe C0 (qv 6) (Av (Ak (Ah Ag Az)))))) A0) (Ad (Dw Qk rfl (He rfl T.range (Av (Bz K T.len (qv 5)))) (Da 7 Hz) (Ad (Ao 8 Hz (Bk Bh)) (Ad (Ax (QW.qt (Ds (Bj K hr A9 Aj) (D7 (QW.qt (Eg (Bj K hr A9 Aj) (Ec (Bj K hr (qv 7) Aa))))))) (A3 (Ao 8 Hz (Bk (Av (Ak (Ah A6 Aj)))))) A0) (Ad (Ax (Bj K hr A9 Aj) (A3 (Ao 8 Hz (Bk (Ah (Ak (Ah (Ai K A6 Aa) Aj)) (Ak (Ah (Ai K A6 Aa) Aj)))))) A0) (A3 (Ao 6 Hz (Ae (B5 K) (qv 6) (Ay C__law_gaps (hr.mono (by lia)) (Bc (Ai K (qv 5) (qv 7)) (Ae (Jo K) Ag (Ak (Av (qv 7)))) (Ae (B5 K) Az (qv 8))))))))))) (An (qv 6))))),?_⟩
  have bg:=big;have bj:=ht;cases ht with
  | @mk b pp wd Z nt us ts qb hn qp l be =>
  cases tf with
  |mk as a0 =>
  have ah:=as.b;rw[Tr.size]at hz hd hm;have flat:∀z,nt=.flat (.str z)->Z=.str z:=by
   intro z e;rcases hn with⟨_,h⟩|⟨_,_,_,_,_,h⟩
   ·rw[e]at h;injection h with h;exact h.symm
   ·rw[e]at h;cases h
  left;refine Du qb rfl ?_;left;refine⟨Bg,λa1 h1=>?_⟩;obtain⟨H1,s1,e1,z9⟩:=Dq h1 (.lst []);rw[z9];refine s_gname ?_;with_reducible refine s_seq ?_
  refine Cv (t:=Cf _ _ _) (R:=λI H'=>∃ws,I=[some (.ref b),some (.ref p),some (.ref bb),some (.str wd),some Z,some (.ref pp),some (.ref a1),none,none]/\Same H H'/\H' a1=some (.lst ws)/\Al (GpAt K AG B H') ws ([(pl,Tr.mk wd nt ts)].filter Gk)) ?_ ?_;rotate_left
  ·intro Y hY;left;rw[Bq];by_cases hg:wd="gap"
   ·rw[decide_eq_true hg];left;refine B6 (SqL.of e1) ?_;left;refine⟨Bt,λa2 h2=>?_⟩;have s2:=Same.upd (o:=.tup [.ref p,.ref bb]) h2;have e2:=s2 _ _ e1;left;refine Cw e2 (by show 0<sizeLine;decide) ?_;have aq:=(s1.trans s2);have ag:=aq.over (o:=.lst [.ref a2]) h1;have ax:a2≠a1:=λz=>by rw[z,e1]at h2;cases h2
    refine hY _ _ ⟨[.ref a2],rfl,ag,Ac,?_⟩;rw[Vn,if_pos (show Gk (pl,Tr.mk wd nt ts)=true from decide_eq_true hg)];refine Al.nil.snoc ⟨a2,p,bb,rfl,SqT.of ((Af ax).trans Ac),ag _ _ hp,?_,aw⟩;obtain⟨bs,zs,c1,c2,c3⟩:=an.same ag;exact⟨bs,zs,c1,c2,by lia⟩
   ·rw[decide_eq_false hg];left;refine hY _ _ ⟨[],rfl,s1,e1,?_⟩;rw[Vn,if_neg (show ¬Gk (pl,Tr.mk wd nt ts)=true from λz=>hg (of_decide_eq_true z))];exact .nil
  ·rintro _ H2 ⟨au,rfl,s2,e2,a3⟩;left;refine Ej (s2.tup qp) ?_;left;have bh:us.length<=1000:=by
    have:ts.length<=Bs ts:=Nz ts;lia
   refine⟨by lia,by lia,?_⟩;refine Gu (n:=(us.length:Int).toNat) (λj I H'=>eX4 λv7 v8 r ws=>I=[some (.ref b),some (.ref p),some (.ref bb),some (.str wd),some Z,some (.ref pp),some (.ref r),v7,v8]/\H' r=some (.lst ws)/\Al (GpAt K AG B H') ws (((pl,Tr.mk wd nt ts)::Bm pl 0 (ts.take j)).filter Gk)/\Same H H') ⟨none,none,a1,au,rfl,e2,by rw[List.take_zero,Bm];exact a3,s2⟩ ?_ ?_
   ·rintro j I H3 hj ⟨v7,v8,r,ws,rfl,e3,al,s3⟩;have hj:j<us.length:=by lia
    have e0:(0:Int)+(j:Int)=((j:Nat):Int):=by lia
    rw[e0];have av:j<ts.length:=by lia
    have hu:=Pj hj;have ae:=Pj av;have bf:=K3 ae;left;refine⟨Bg,λa4 h4=>?_⟩;obtain⟨H4,s4,e4,z9⟩:=Dq h4 (.lst []);rw[z9];refine s_gname ?_;with_reducible refine s_seq ?_
    refine Cv (t:=Cf _ _ _) (R:=λI H'=>∃am,I=[some (.ref b),some (.ref p),some (.ref bb),some (.str wd),some Z,some (.ref pp),some (.ref r),some (.int ((j:Nat):Int)),some (.ref am)]/\Same H3 H'/\BdAt K H' am 2) ?_ ?_;rotate_left
    ·intro Y hY;have none:Y [some (.ref b),some (.ref p),some (.ref bb),some (.str wd),some Z,some (.ref pp),some (.ref r),some (.int ((j:Nat):Int)),some (.ref a4)] H4:=hY _ _ ⟨a4,rfl,s4,[],[],e4,.nil,by decide⟩;have one:∀z,Z=.str z->∀O,H4 O=.none->∀U,upd H4 O (.tup [Z,.str "num"]) U=.none->Y [some (.ref b),some (.ref p),some (.ref bb),some (.str wd),some Z,some (.ref pp),some (.ref r),some (.int ((j:Nat):Int)),some (.ref U)] (upd (upd H4 O (.tup [Z,.str "num"])) U (.lst [.ref O])):=λz hz O h5 U h6=>by
      have s5:=Same.upd (o:=.tup [Z,.str "num"]) h5;have s6:=Same.upd (o:=.lst [.ref O]) h6;have e5:SqT K (upd (upd H4 O (.tup [Z,.str "num"])) U (.lst [.ref O])) O [.str z,.str "num"]:=by rw[<- hz];exact SqT.of (s6 _ _ Ac)
      exact hY _ _ ⟨U,rfl,s4.trans (s5.trans s6),[.ref O],[(z,"num")],Ac,Al.nil.snoc ⟨O,rfl,e5⟩,by show 1<=2;decide⟩
     left;rw[Bq];by_cases hf:wd="fn"
     ·obtain⟨z,e⟩:=ah.1 (.inl hf);rw[decide_eq_true hf];left;refine⟨Bt,λO h5=>?_⟩;left;refine⟨Dl,λU h6=>?_⟩;exact one z (flat z e) O h5 U h6
     ·rw[decide_eq_false hf];left;rw[Bq];by_cases hl:wd="let"
      ·obtain⟨z,e⟩:=ah.1 (.inr hl);rw[decide_eq_true hl];left;refine Be (λ_=>?_) (λ_=>?_)
       ·left;refine⟨Bt,λO h5=>?_⟩;left;refine⟨Dl,λU h6=>?_⟩;exact one z (flat z e) O h5 U h6
       ·exact none
      ·rw[decide_eq_false hl];left;exact none
    ·rintro _ H5 ⟨am,rfl,s5,ba⟩;with_reducible refine s_seq ?_
     refine Cv (t:=Cf _ _ _) (R:=λI H'=>∃am,I=[some (.ref b),some (.ref p),some (.ref bb),some (.str wd),some Z,some (.ref pp),some (.ref r),some (.int ((j:Nat):Int)),some (.ref am)]/\Same H3 H'/\BdAt K H' am 2) ?_ ?_;rotate_left
     ·intro Y hY;left;rw[Bq];by_cases hc:wd="rec"
      ·obtain⟨y,z,e⟩:=ah.2 hc;obtain⟨a,ea,qa⟩:∃a,Z=.ref a/\SqT K H a [.str y,.str z]:=by
        rcases hn with⟨_,h⟩|⟨a,us,e',qa,_,h⟩
        ·rw[e]at h;cases h
        ·refine⟨a,e',?_⟩;rw[e]at h;injection h with h;obtain⟨u1,u2,rfl⟩:=lz2 (vs:=us) (by first|exact h|(have:=congrArg Sx h;rw[Pp]at this;exact this.symm));simp only[Qq,Ur,Vt,Dt.flat.injEq,and_true]at h;rw[h.1,h.2];exact qa
       subst ea;rw[decide_eq_true hc];have aj:=s3.trans s5;left;refine A1 (aj.tup qa) rfl ?_;left;refine⟨Bt,λU h6=>?_⟩;have s6:=Same.upd (o:=.tup [.str y,.str "fun"]) h6;left;refine A1 ((aj.trans s6).tup qa) rfl ?_;left;refine⟨Bt,λa7 h7=>?_⟩;have s7:=Same.upd (o:=.tup [.str z,.str "num"]) h7;left;refine⟨Bt,λa8 h8=>?_⟩;have s8:=Same.upd (o:=.lst [.ref U,.ref a7]) h8;refine hY _ _ ⟨a8,rfl,s5.trans (s6.trans (s7.trans s8)),[.ref U,.ref a7],[(y,"fun"),(z,"num")],Ac,(Al.nil.snoc ⟨U,rfl,SqT.of ((s7.trans s8) _ _ Ac)⟩).snoc ⟨a7,rfl,SqT.of (s8 _ _ Ac)⟩,by show 2<=2;decide⟩
      ·rw[decide_eq_false hc];left;exact hY _ _ ⟨am,rfl,s5,ba⟩
     ·rintro _ H6 ⟨am,rfl,s6,mv,mz,em,ay,lm⟩;have aa:=s3.trans s6;obtain⟨bs,zs,c1,c2,c3⟩:=an.same aa;left;refine A1 (aa.tup qp) (Cp hu) ?_;left;refine⟨Dl,λa7 h7=>?_⟩;have s7:=Same.upd (o:=.tup [.int ((j:Nat):Int)]) h7;refine .inr ⟨p,a7,_,_,rfl,rfl,(aa.trans s7) _ _ hp,Ac,by rw[Kf];simp;lia,λr8 H8 s8 q8=>?_⟩;have ac:=s7.trans s8;have q8:H8 r8=some (.tup (A2 (pl++[j]))):=by
       have e:A2 pl++[V.int ((j:Nat):Int)]=A2 (pl++[j]):=by unfold A2;rw[Qi];rfl
       rw[<- e];exact q8
      left;refine Iq (ac _ _ c1) (ac _ _ em) (by lia) λa9 h9=>?_;have s9:=Same.upd (o:=.lst (bs++mv)) h9;have ad:=ac.trans s9;have ao:=aa.trans ad;left;refine⟨us[j],ts[j],r8,a9,pl++[j],m+2,B,AG,rfl,(be j _ _ hu ae).same ao,a0 _ (Qs ae),s9 _ _ q8,⟨bs++mv,zs++mz,Ac,(c2.mono (PrW.same ad.t)).append (ay.mono (PrW.same ad.t)),by rw[Pn];lia⟩,by lia,by rw[Pn,Py];lia,by lia,hB,(λz hz hn=>ak z hz (ao.free hn)),(λz=>ak a9 z ((aa.trans ac).free h9)),λrr ww HR sR eR ai=>?_⟩;have af:=s6.trans (ad.trans sR);have l1:ws.length<=1001:=by
       rw[al.1];refine Qb (T2 _ _) ?_;rw[Qa,Od];have:=Zgc ts j;lia
      have l2:ww.length<=1001:=by
       rw[ai.1];refine Qb (T2 _ _) ?_;rw[K0];lia
      refine Iq (af _ _ e3) eR (by lia) λaF hF=>?_;have sF:=Same.upd (o:=.lst (ws++ww)) hF;left;refine⟨_,_,aF,ws++ww,rfl,Ac,?_,s3.trans (af.trans sF)⟩;have ap:=(al.mono (GpAt.same (af.trans sF))).append (ai.mono (GpAt.same sF));rw[Zkk ae,Zb6,Sv,Qp,Vs (by lia),<- Ry,List.filter_append];exact ap
   ·rintro I H3 ⟨v7,v8,r,ws,rfl,e3,al,s3⟩;left;refine q r ws H3 s3 e3 ?_;rw[walk];rw[Rs (by lia)]at al;exact al
def Zgp (K:Ph):Sp:=λvs H Q _=>eX2 λ(a:Int)(k:Nat)=>vs=[.int a,.int (k:Nat)]/\∀v H' x,Same H H'->ThAt K H' v x->TOk k x->Q v H'
theorem Zgt (hk:(0:Int)<(k:Nat))(a:Int):TOk k (("row":Str),V.int (a % (k:Nat))):=by
 have I:=Qc a (show((k:Nat):Int)≠0 by lia);have b1:=Qh a hk;exact .inr (.inr ⟨rfl,(a % (k:Nat)).toNat,by rw[Wl I],by lia⟩)
theorem Ztu:Bb pI pI (A5 Zay):=by walk_at "sc"
theorem Zrg (F:Fun K "_law_thing" "_law_thing" Zay f fd)(T:Txt K mg):FnOk P w K mg base Aq 1 f fd pI (Zgp K):=by
 refine F.okq Ztu (λvs H Q E h=>?_) (λaa A outer s H vs Q E Z h=>?_)
 ·obtain⟨a,k,rfl,_⟩:=h;rfl
 ·obtain⟨a,k,rfl,q⟩:=h;refine⟨_,Ad (Ax (QW.qt (Eg (Bp Hd Ag Aa) (Ec (Bp (Fq K Z.u200) (Ae Bd Ab Aa) Aa)))) (An (Ak (Ah Aj (Ae Bd (Ae Cc Ab Aa) Ag)))) A0)
   (Ad (Ax (Bp Ey (Ae Bd (Ae Cc Ab Aa) Aa) Aa) (An (Ak (Ah Aj (E6 K Z (Ae Bd (Ae Cc Ab Aa) Aa) Aa)))) A0) (An (Ak (Ah Aj (Ae D9 (Ae Bd (Ae Cc Ab Aa) Aa) Aa))))),?_⟩
  with_reducible refine s_seq ?_
  refine Cv (t:=Cf _ _ _) (R:=λO H'=>O=[some (.int a),some (.int (k:Nat))]/\H'=H) ?_ (λY U=>?_);rotate_left
  ·left;refine Be (λI=>?_) (λI=>?_)
   ·have I:(0:Int)<(k:Nat):=of_decide_eq_true I;left;refine Be (λ_=>?_) (λ_=>?_)
    ·left;refine s_rI I ?_;left;refine⟨Bt,λp hp=>?_⟩;exact q _ _ ("row",.int (a / 15 % (k:Nat))) (Same.upd hp) ⟨rfl,p,rfl,SqT.of Ac⟩ (Zgt I _)
    ·left;exact U _ _ ⟨rfl,rfl⟩
   ·left;exact U _ _ ⟨rfl,rfl⟩
  rintro _ _ ⟨rfl,rfl⟩;left;refine Be (λ_=>?_) (λ_=>?_)
  ·left;refine⟨Bt,λp hp=>?_⟩;exact q _ _ ("truth",_) (Same.upd hp) ⟨rfl,p,rfl,SqT.of Ac⟩ (.inr (.inl ⟨rfl,_,rfl⟩))
  left;refine⟨Bt,λp hp=>?_⟩;exact q _ _ ("num",_) (Same.upd hp) ⟨rfl,p,rfl,SqT.of Ac⟩ (.inl ⟨rfl,_,rfl⟩)
def Zb7 (K:Ph):Sp:=λvs H Q _=>eX2 λ(a:Int)(k:Nat)=>vs=[.int a,.int (k:Nat)]/\k<=5000/\∀(r:Addr)(v:V)(z:Int) x H',Same H H'->SqT K H' r [v,.int z]->ThAt K H' v x->TOk k x->Q (.ref r) H'
theorem Zd2:Bb ["_law_rest","_law_k","_law_sort"] qD (A5 Nl):=by walk_at "sc"
theorem Zs0 (F:Fun K "_law_digit" "_law_digit" Nl f fd)(T:Txt K mg):FnOk P w K mg base Aq 1 f fd qD (Zb7 K):=by
 refine F.okq Zd2 (λvs H Q E h=>?_) (λaa A outer s H vs Q E hr h=>?_)
 ·obtain⟨a,k,rfl,_⟩:=h;rfl
 ·obtain⟨a,k,rfl,k5,q⟩:=h;refine⟨_,Ad (Ao 2 Zd2 (Ae Bd Ab Aa))
   (Ad (Ao 0 Zd2 (Ae Cc Ab Aa)) (Ad (Ax (QW.qt (Eg (Bj K hr Az Aa) (Ec (Bp Hd Ag Aa)))) (An (Ak (Ah (Ak (Ah Aj (Ae Bd Ab Ag))) (Ae Cc Ab Ag)))) A0) (Ad (Ax (Bp Ey Az Aa) (An (Ak (Ah (Ak (Ah Aj (E6 K hr (Ae Bd Ab Aa) Aa))) (Ae Cc Ab Aa)))) A0) (An (Ak (Ah (Ak (Ah Aj (Ae D9 (Ae Bd Ab (Ae Fd Aa (Ae Ka Aa Aa))) (Ae Ka Aa Aa)))) (Ae Zq0 Ab (Ae Fd Aa (Ae Ka Aa Aa))))))))),?_⟩
  have go:∀{x:Str×V}{z:Int}(p:Addr),C8 x.2=true->H p=none->TOk k x->∀p2,upd H p (.tup [.str x.1,x.2]) p2=none->Q (.ref p2) (upd (upd H p (.tup [.str x.1,x.2])) p2 (.tup [.ref p,.int z])):=λ{x z} p hf hp t p2 I=>by
   have Z:=Same.upd (o:=.tup [.ref p,.int z]) I;exact q p2 (.ref p) z x _ ((Same.upd hp).trans Z) (SqT.of Ac) ⟨hf,p,rfl,SqT.of (Z _ _ Ac)⟩ t
  iterate 15 walk_at "r1"
  refine Cv (t:=Cf _ _ _) (R:=λU H'=>U=[some (.int (a / 3)),some (.int (k:Nat)),some (.int (a % 3))]/\H'=H) ?_ (λY hY=>?_);rotate_left
  ·left;refine Be (λ_=>?_) (λ_=>?_)
   ·left;refine Be (λO=>?_) (λO=>?_)
    ·have O:(0:Int)<(k:Nat):=of_decide_eq_true O;left;refine s_rI O ?_;left;refine⟨Bt,λp hp=>?_⟩;left;refine s_rI ⟨by lia,by lia⟩ ?_;left;refine⟨Bt,λp2 I=>?_⟩;exact go (x:=("row",.int (a / 3 % (k:Nat)))) p rfl hp (Zgt O _) p2 I
    ·left;exact hY _ _ ⟨rfl,rfl⟩
   ·left;exact hY _ _ ⟨rfl,rfl⟩
  rintro _ _ ⟨rfl,rfl⟩;left;refine Be (λ_=>?_) (λ_=>?_)
  ·left;refine⟨Bt,λp hp=>?_⟩;left;refine⟨Bt,λp2 I=>?_⟩;exact go (x:=("truth",.bl (decide (V.int (a / 3 % 2)=.int 1)))) p rfl hp (.inr (.inl ⟨rfl,_,rfl⟩)) p2 I
  left;refine⟨Bt,λp hp=>?_⟩;left;refine⟨Bt,λp2 I=>?_⟩;exact go (x:=("num",.int (a / 3 % (2*10 ^ Int.toNat 30)-10 ^ Int.toNat 30))) p rfl hp (.inl ⟨rfl,_,rfl⟩) p2 I
inductive SpAt (K:Ph)(H:Hp)(v:V)(x:List Nat×Tr):Prop
 |mk (a p b:Addr) (ns:List Str) (_:v=.ref a) (_:SqT K H a [.str x.2.wd,.ref p,.ref b]) (_:H p=some (.tup (A2 x.1))) (_:H b=some (.lst (ns.map V.str))) (_:ns.length<=150)
theorem SpAt.same (s:Same H H')(v:V)(x:List Nat×Tr)(h:SpAt K H v x):SpAt K H' v x:=by
 obtain⟨a,p,b,ns,e,q,I,d,n⟩:=h;exact⟨a,p,b,ns,e,s.tup q,s _ _ I,s _ _ d,n⟩
noncomputable def Eu (us:List Str)(x:List Nat×Tr):Bool:=!decide (x.2.wd∈us)
def Iu (K:Ph)(n:Nat):Sp:=λvs H Q _=>eX8 λ(v:V)(t:Tr)(p b c:Addr)(pl:List Nat)(ns us:List Str)=>vs=[v,.ref p,.ref b,.ref c]/\TrAt K H v t/\Tf t/\H p=some (.tup (A2 pl))/\H b=some (.lst (ns.map V.str))/\SqT K H c (us.map V.str)/\us.length<=4/\t.size<=n/\pl.length+t.size<=1000/\ns.length+2*t.size<=150/\∀(r:Addr)(ws:List V)(H':Hp),Same H H'->H' r=some (.lst ws)->Al (SpAt K H') ws ((walk pl t).filter (Eu us))->Q (.ref r) H'
theorem Hr:Bb ["_law_form_here","_law_place","_law_bound","_law_none","_law_word","_law_note","_law_parts","_law_found","_law_k","_law_more"] pD (A5 Lm):=by walk_at "sc"
theorem Zue (F:Fun K "_law_spots" "_law_spots" Lm f fd)(T:Txt K mg)(C__law_spots:Ba P w K mg base (n+1) "_law_spots" ["_law_form_here","_law_place","_law_bound","_law_none"] (Iu K n)):FnOk P w K mg base Aq (n+2) f fd pD (Iu K (n+1)):=by
 refine F.okq Hr (λvs H Q E h=>?_) (λbh A outer s H vs Q E hr h=>?_)
 ·obtain⟨v,t,p,b,c,pl,ns,xn,rfl,_⟩:=h;rfl
 ·obtain⟨v,t,p,bb,cn,pl,nz,xn,rfl,ht,tf,hp,ak,ao,a5,hz,hd,hm,q⟩:=h;refine⟨_,Ad (Ek Ab (Ks K Hr 4 5 6))
   (Ad (Ao 7 Hr (Bk Bh)) (Ad (Ax (Bp (Zkx K) A6 A9) (A3 (Bx (Co K Pu Qd Qe C0 (qv 7) (Av (Ak (Bc A6 Ag Az)))))) A0) (Ad (Dw Qk rfl (He rfl T.range (Av (Bz K T.len (qv 6)))) (Da 8 Hr) (Ad (Ao 9 Hr (Bk Bh)) (Ad (Ax (QW.qt (Ds (Bj K hr A6 Aj) (D7 (QW.qt (Eg (Bj K hr A6 Aj) (Ec (Bj K hr (qv 8) Aa))))))) (A3 (Ao 9 Hr (Bk (Av (qv 5))))) A0) (Ad (Ax (Bj K hr A6 Aj) (A3 (Ao 9 Hr (Bk (Ah (Ai K (qv 5) Aa) (Ai K (qv 5) Aa))))) A0) (A3 (Ao 7 Hr (Ae (B5 K) (qv 7) (Ay C__law_spots (hr.mono (by lia)) (Dh (Ai K (qv 6) (qv 8)) (Ae (Jo K) Ag (Ak (Av (qv 8)))) (Ae (B5 K) Az (qv 9)) A9))))))))) (An (qv 7))))),?_⟩
  have bg:=big;have bi:=ht;cases ht with
  | @mk b pp wd U nt us ts qb hn qp l ba =>
  cases tf with
  |mk as ay =>
  have ag:=as.b;rw[Tr.size]at hz hd hm;have flat:∀z,nt=.flat (.str z)->U=.str z:=by
   intro z e;rcases hn with⟨_,h⟩|⟨_,_,_,_,_,h⟩
   ·rw[e]at h;injection h with h;exact h.symm
   ·rw[e]at h;cases h
  left;refine Du qb rfl ?_;left;refine⟨Bg,λa1 h1=>?_⟩;obtain⟨H1,s1,e1,z9⟩:=Dq h1 (.lst []);rw[z9];refine s_gname ?_;with_reducible refine s_seq ?_
  refine Cv (t:=Cf _ _ _) (R:=λI H'=>∃O,I=[some (.ref b),some (.ref p),some (.ref bb),some (.ref cn),some (.str wd),some U,some (.ref pp),some (.ref a1),none,none]/\Same H H'/\H' a1=some (.lst O)/\Al (SpAt K H') O ([(pl,Tr.mk wd nt ts)].filter (Eu xn))) ?_ ?_;rotate_left
  ·intro Y hY;left;refine Fg (.inr (s1.tup ao)) rfl Zgg ?_;rw[if_pos rfl,Io];have hI:Eu xn (pl,Tr.mk wd nt ts)=!decide (wd∈xn):=rfl;refine⟨_,rfl,?_⟩;cases hg:decide (wd∈xn) with
   |false =>
    rw[hg]at hI;rw[if_pos (by rfl)];left;refine B6 (SqL.of e1) ?_;left;refine⟨Br,λa2 h2=>?_⟩;have s2:=Same.upd (o:=.tup [.str wd,.ref p,.ref bb]) h2;have e2:=s2 _ _ e1;left;refine Cw e2 (by show 0<sizeLine;decide) ?_;have af:=(s1.trans s2).over (o:=.lst [.ref a2]) h1;have ax:a2≠a1:=λz=>by rw[z,e1]at h2;cases h2
    refine hY _ _ ⟨[.ref a2],rfl,af,Ac,?_⟩;rw[Vn,if_pos (show Eu xn (pl,Tr.mk wd nt ts)=true from hI)];exact Al.nil.snoc ⟨a2,p,bb,nz,rfl,SqT.of ((Af ax).trans Ac),af _ _ hp,af _ _ ak,by lia⟩
   |true =>
    rw[hg]at hI;rw[if_neg (by decide)];left;refine hY _ _ ⟨[],rfl,s1,e1,?_⟩;rw[Vn,if_neg (by rw[hI];decide)];exact .nil
  ·rintro _ H2 ⟨av,rfl,s2,e2,a0⟩;left;refine Ej (s2.tup qp) ?_;left;have bf:us.length<=1000:=by
    have:ts.length<=Bs ts:=Nz ts;lia
   refine⟨by lia,by lia,?_⟩;refine Gu (n:=(us.length:Int).toNat) (λj I H'=>eX4 λv7 v8 r O=>I=[some (.ref b),some (.ref p),some (.ref bb),some (.ref cn),some (.str wd),some U,some (.ref pp),some (.ref r),v7,v8]/\H' r=some (.lst O)/\Al (SpAt K H') O (((pl,Tr.mk wd nt ts)::Bm pl 0 (ts.take j)).filter (Eu xn))/\Same H H') ⟨none,none,a1,av,rfl,e2,by rw[List.take_zero,Bm];exact a0,s2⟩ ?_ ?_
   ·rintro j I H3 hj ⟨v7,v8,r,O,rfl,e3,al,s3⟩;have hj:j<us.length:=by lia
    have e0:(0:Int)+(j:Int)=((j:Nat):Int):=by lia
    rw[e0];have aw:j<ts.length:=by lia
    have hu:=Pj hj;have ac:=Pj aw;have be:=K3 ac;left;refine⟨Bg,λa4 h4=>?_⟩;obtain⟨H4,s4,e4,z9⟩:=Dq h4 (.lst []);rw[z9];refine s_gname ?_;with_reducible refine s_seq ?_
    refine Cv (t:=Cf _ _ _) (R:=λI H'=>∃am,I=[some (.ref b),some (.ref p),some (.ref bb),some (.ref cn),some (.str wd),some U,some (.ref pp),some (.ref r),some (.int ((j:Nat):Int)),some (.ref am)]/\Same H3 H'/\∃ms:List Str,H' am=some (.lst (ms.map V.str))/\ms.length<=2) ?_ ?_;rotate_left
    ·intro Y hY;have none:Y [some (.ref b),some (.ref p),some (.ref bb),some (.ref cn),some (.str wd),some U,some (.ref pp),some (.ref r),some (.int ((j:Nat):Int)),some (.ref a4)] H4:=hY _ _ ⟨a4,rfl,s4,[],e4,by decide⟩;have one:∀z,U=.str z->∀Z,H4 Z=.none->Y [some (.ref b),some (.ref p),some (.ref bb),some (.ref cn),some (.str wd),some U,some (.ref pp),some (.ref r),some (.int ((j:Nat):Int)),some (.ref Z)] (upd H4 Z (.lst [U])):=λz hz Z h6=>hY _ _ ⟨Z,rfl,s4.trans (Same.upd h6),[z],by rw[hz];exact Ac,by show 1<=2;decide⟩;left;rw[Bq];by_cases hf:wd="fn"
     ·obtain⟨z,e⟩:=ag.1 (.inl hf);rw[decide_eq_true hf];left;refine⟨Dl,λZ h6=>?_⟩;exact one z (flat z e) Z h6
     ·rw[decide_eq_false hf];left;rw[Bq];by_cases hl:wd="let"
      ·obtain⟨z,e⟩:=ag.1 (.inr hl);rw[decide_eq_true hl];left;refine Be (λ_=>?_) (λ_=>?_)
       ·left;refine⟨Dl,λZ h6=>?_⟩;exact one z (flat z e) Z h6
       ·exact none
      ·rw[decide_eq_false hl];left;exact none
    ·rintro _ H5 ⟨am,rfl,s5,aq,a3,au⟩;with_reducible refine s_seq ?_
     refine Cv (t:=Cf _ _ _) (R:=λI H'=>∃am,I=[some (.ref b),some (.ref p),some (.ref bb),some (.ref cn),some (.str wd),some U,some (.ref pp),some (.ref r),some (.int ((j:Nat):Int)),some (.ref am)]/\Same H3 H'/\∃ms:List Str,H' am=some (.lst (ms.map V.str))/\ms.length<=2) ?_ ?_;rotate_left
     ·intro Y hY;left;rw[Bq];by_cases hc:wd="rec"
      ·obtain⟨y,z,e⟩:=ag.2 hc;obtain⟨a,ea,qa⟩:∃a,U=.ref a/\SqT K H a [.str y,.str z]:=by
        rcases hn with⟨_,h⟩|⟨a,us,e',qa,_,h⟩
        ·rw[e]at h;cases h
        ·refine⟨a,e',?_⟩;rw[e]at h;injection h with h;obtain⟨u1,u2,rfl⟩:=lz2 (vs:=us) (by first|exact h|(have:=congrArg Sx h;rw[Pp]at this;exact this.symm));simp only[Qq,Ur,Vt,Dt.flat.injEq,and_true]at h;rw[h.1,h.2];exact qa
       subst ea;rw[decide_eq_true hc];have ai:=s3.trans s5;left;refine A1 (ai.tup qa) rfl ?_;left;refine A1 (ai.tup qa) rfl ?_;left;refine⟨Bt,λa8 h8=>?_⟩;exact hY _ _ ⟨a8,rfl,s5.trans (Same.upd h8),[y,z],Ac,by show 2<=2;decide⟩
      ·rw[decide_eq_false hc];left;exact hY _ _ ⟨am,rfl,s5,aq,a3,au⟩
     ·rintro _ H6 ⟨am,rfl,s6,mv,em,lm⟩;have aa:=s3.trans s6;have c1:=aa _ _ ak;left;refine A1 (aa.tup qp) (Cp hu) ?_;left;refine⟨Dl,λa7 h7=>?_⟩;have s7:=Same.upd (o:=.tup [.int ((j:Nat):Int)]) h7;refine .inr ⟨p,a7,_,_,rfl,rfl,(aa.trans s7) _ _ hp,Ac,by rw[Kf];simp;lia,λr8 H8 s8 q8=>?_⟩;have ae:=s7.trans s8;have q8:H8 r8=some (.tup (A2 (pl++[j]))):=by
       have e:A2 pl++[V.int ((j:Nat):Int)]=A2 (pl++[j]):=by unfold A2;rw[Qi];rfl
       rw[<- e];exact q8
      left;refine Iq (ae _ _ c1) (ae _ _ em) (by rw[Pp,Pp];lia) λa9 h9=>?_;have s9:=Same.upd (o:=.lst (nz.map V.str++mv.map V.str)) h9;have aj:=ae.trans s9;have an:=aa.trans aj;left;refine⟨us[j],ts[j],r8,a9,cn,pl++[j],nz++mv,xn,rfl,(ba j _ _ hu ac).same an,ay _ (Qs ac),s9 _ _ q8,by rw[Qi];exact Ac,an.tup ao,a5,by lia,by rw[Pn,Py];lia,by rw[Pn];lia,λrr ww HR sR eR ah=>?_⟩;have ad:=s6.trans (aj.trans sR);have l1:O.length<=1001:=by
       rw[al.1];refine Qb (T2 _ _) ?_;rw[Qa,Od];have:=Zgc ts j;lia
      have l2:ww.length<=1001:=by
       rw[ah.1];refine Qb (T2 _ _) ?_;rw[K0];lia
      refine Iq (ad _ _ e3) eR (by lia) λaF hF=>?_;have sF:=Same.upd (o:=.lst (O++ww)) hF;left;refine⟨_,_,aF,O++ww,rfl,Ac,?_,s3.trans (ad.trans sF)⟩;have ap:=(al.mono (SpAt.same (ad.trans sF))).append (ah.mono (SpAt.same sF));rw[Zkk ac,Zb6,Sv,Qp,Vs (by lia),<- Ry,List.filter_append];exact ap
   ·rintro I H3 ⟨v7,v8,r,O,rfl,e3,al,s3⟩;left;refine q r O H3 s3 e3 ?_;rw[walk];rw[Rs (by lia)]at al;exact al
noncomputable def Fb (wd:Str):Nat:=if wd∈TWO then 2 else if wd="if" then 1 else 0
structure Kt (k:Nat)(s:List Nat×Tr)(x:Rx):Prop where
 w:x.wd=s.2.wd
 p:x.pl=Ap s.1
 o:∀y∈x.ops,TOk k y
 n:x.ops.length=Fb x.wd
 a:AOk k x.ar
 l:x.ar.length<=150
def Zaz (K:Ph):Sp:=λvs H Q _=>eX5 λ(sp:Addr)(c:Int)(k:Nat)(ws:List V)(ss:List (List Nat×Tr))=>vs=[.ref sp,.int c,.int (k:Nat)]/\k<=5000/\H sp=some (.lst ws)/\Al (SpAt K H) ws ss/\0<ws.length/\ws.length<=5000/\∀(v:V)(x:Rx)(s:List Nat×Tr)(H':Hp),Same H H'->RwX K (λb=>H b≠none) H' v x->s∈ss->Kt k s x->Q v H'
theorem Zjw (wd:Str):(2*(if Fk (V.str wd) [V.str "plus",.str "minus",.str "less",.str "call"]=true then (1:Int) else 0))+(if decide (V.str wd=.str "if")=true then (1:Int) else 0)=((Fb wd:Nat):Int):=by
 rw[show[V.str "plus",.str "minus",.str "less",.str "call"]=TWO.map V.str from rfl,Io,Bq];unfold Fb;by_cases h:wd∈TWO
 ·have:¬wd="if":=λe=>by rw[e]at h;revert h;right
  simp[h,this]
 ·by_cases h2:wd="if"
  ·subst h2;right
  ·simp[h,h2]
theorem O9 (wd:Str):Fb wd<=2:=by
 unfold Fb;split
 ·exact Pl _
 ·split <;> decide
structure RuJ (K:Ph)(H:Hp)(k:Nat)(d:Addr)(os:List (Str×V))(H':Hp):Prop where
 s:Same H H'
 o:∃ov,H' d=some (.lst ov)/\Al (ThAt K H') ov os
 t:∀y∈os,TOk k y
theorem RuJ.same {K:Ph}{H H1 H2:Hp}{k:Nat}{d:Addr}{os:List (Str×V)}(h:RuJ K H k d os H1)(s:Same H1 H2):RuJ K H k d os H2:=by
 obtain⟨I,e,O⟩:=h.o;exact⟨h.s.trans s,⟨I,s _ _ e,O.mono (ThAt.same s.t)⟩,h.t⟩
structure RvJ (K:Ph)(H:Hp)(k:Nat)(d a:Addr)(os:List (Str×V))(ar:Ar)(H':Hp):Prop where
 u:RuJ K H k d os H'
 n:a≠d
 o:∃ev,H' a=some (.lst ev)/\Al (PrAt K H') ev ar
 t:AOk k ar
theorem RvJ.same {K:Ph}{H H1 H2:Hp}{k:Nat}{d a:Addr}{os:List (Str×V)}{ar:Ar}(h:RvJ K H k d a os ar H1)(s:Same H1 H2):RvJ K H k d a os ar H2:=by
 obtain⟨O,e,I⟩:=h.o;exact⟨h.u.same s,h.n,⟨O,s _ _ e,I.mono (PrAt.same s.t)⟩,h.t⟩
theorem RvJ.len {K:Ph}{H H1:Hp}{k:Nat}{d a:Addr}{os:List (Str×V)}{ar:Ar}(h:RvJ K H k d a os ar H1):∃ev,H1 a=some (.lst ev)/\ev.length=ar.length:=by
 obtain⟨ev,e,I⟩:=h.o;exact⟨ev,e,I.1⟩
theorem RvJ.add {K:Ph}{H H1:Hp}{k:Nat}{d a a7:Addr}{os:List (Str×V)}{ar:Ar}{ev:List V}{nm:Str}{u:V}{x:Str×V}(h:RvJ K H k d a os ar H1)(ha:H a=none)(e:H1 a=some (.lst ev))(h7:H1 a7=none)(th:ThAt K H1 u x)(tk:TOk k x):RvJ K H k d a os (ar++[(nm,x)]) (upd (upd H1 a7 (.tup [.str nm,u])) a (.lst (ev++[.ref a7]))):=by
 have O:=Same.upd (o:=.tup [.str nm,u]) h7;have Z:=O _ _ e;obtain⟨u7,n,⟨aa,Y,al⟩,t⟩:=h.same O;rw[Z]at Y;cases Y;obtain⟨s0,⟨ov,eo,U⟩,t0⟩:=u7;have st:=SameT.set (o:=.lst (ev++[.ref a7])) Z;have q7:SqT K (upd (upd H1 a7 (.tup [.str nm,u])) a (.lst (ev++[.ref a7]))) a7 [.str nm,u]:=st.tup (SqT.of Ac);refine⟨⟨s0.over ha,⟨ov,(Af n.symm).trans eo,U.mono (ThAt.same st)⟩,t0⟩,n,⟨_,Ac,(al.mono (PrAt.same st)).snoc ⟨a7,u,rfl,q7,ThAt.same (O.t.trans st) _ _ th⟩⟩,λy I=>?_⟩;rcases Q4.mp I with I|I
 ·exact t y I
 ·rw[P7.mp I];exact tk
theorem Ld {K:Ph}{H H':Hp}{k:Nat}{d e a p:Addr}{os:List (Str×V)}{ar:Ar}{s:List Nat×Tr}(J:RvJ K H k d e os ar H')(hd:H d=none)(he:H e=none)(hp:H p=some (.tup (A2 s.1)))(hl:os.length=Fb s.2.wd)(ha:ar.length<=150)(h9:H' a=none):Same H (upd H' a (.tup [.str s.2.wd,.ref p,.ref d,.ref e]))/\RwX K (λb=>H b≠none) (upd H' a (.tup [.str s.2.wd,.ref p,.ref d,.ref e])) (.ref a) ⟨s.2.wd,Ap s.1,os,ar⟩/\Kt k s ⟨s.2.wd,Ap s.1,os,ar⟩:=by
 obtain⟨⟨s0,⟨ov,e1,Y⟩,t1⟩,_,⟨ev,e2,U⟩,Z⟩:=J;have I:=Same.upd (o:=.tup [.str s.2.wd,.ref p,.ref d,.ref e]) h9;have O:(upd H' a (.tup [.str s.2.wd,.ref p,.ref d,.ref e])) p=some (.tup ((Ap s.1).map V.int)):=by rw[Fl];exact(s0.trans I) _ _ hp
 refine⟨s0.trans I,⟨⟨a,p,d,e,ov,ev,rfl,SqT.of Ac,SqT.of O,I _ _ e1,Y.mono (ThAt.same I.t),I _ _ e2,U.mono (PrAt.same I.t),λz=>z hd,λz=>z he⟩,a,p,d,e,rfl,SqT.of Ac,O⟩,rfl,rfl,t1,hl,Z,ha⟩
theorem Hg:Bb ["_law_spots_here","_law_cell_here","_law_k","_law_word","_law_place","_law_bound","_law_rest","_law_operands","_law_turn","_law_thing_here","_law_around","_law_name"] pF (A5 Za4):=by walk_at "sc"
theorem Znj (F:Fun K "_law_free_row" "_law_free_row" Za4 f fd)(T:Txt K mg)(C__law_digit:Ba P w K mg base 1 "_law_digit" ["_law_rest","_law_k"] (Zb7 K)):FnOk P w K mg base Aq 2 f fd pF (Zaz K):=by
 refine F.okq Hg (λvs H Q E h=>?_) (λag A outer s H vs Q E hr h=>?_)
 ·obtain⟨sp,c,k,ws,ss,rfl,_⟩:=h;rfl
 ·obtain⟨sp,c,k,ws,ss,rfl,k5,aa,ad,w0,w5,q⟩:=h;refine⟨_,Ad (Ek (Ai K Ab (Ae Bd Ag (Bz K T.len Ab))) (Ks K Hg 3 4 5))
   (Ad (Ao 6 Hg (Ae Cc Ag (Bz K T.len Ab))) (Ad (Ao 7 Hg (Bk Bh)) (Ad (Dw Qk rfl (He rfl T.range (Av (Ae (B5 K) (Ae Fd Aa (D5 L8 T.int (Av (qcm (Hj K) A9 (Ak (Il (xs:=[.str "plus",.str "minus",.str "less",.str "call"]) rfl)))))) (D5 L8 T.int (Av (E6 K hr A9 Aj)))))) (Da 8 Hg) (Ad (Ek (Ay C__law_digit hr.m (Ah (qv 6) Az)) (Gj K Hg 9 6)) (A3 (Bx (Co K Pu Qd Qe C0 (qv 7) (Av (qv 9))))))) (Ad (Ao 10 Hg (Bk Bh)) (Ad (Ax (Bp (Hj K) A9 (Ak (Il (xs:=[.str "gap",.str "fn",.str "rec",.str "if"]) rfl))) (A3 (Dw Qk rfl (El K (qv 5)) (Da 11 Hg) (Ad (Ek (Ay C__law_digit hr.m (Ah (qv 6) Az)) (Gj K Hg 9 6)) (A3 (Bx (Co K Pu Qd Qe C0 (qv 10) (Av (Ak (Ah (qv 11) (qv 9)))))))))) A0) (An (Ak (Dh A9 A6 (qv 7) (qv 10))))))))),?_⟩
  have bg:=big;left;refine Cm (SqL.of aa) ?_;left;refine s_rI (by lia) ?_;have b0:=Qc c (show((ws.length:Nat):Int)≠0 by lia);have b1:=Qh c (show(0:Int)<(ws.length:Nat) by lia);obtain⟨i,hi⟩:∃i:Nat,c % (ws.length:Nat)=(i:Nat):=⟨(c % (ws.length:Nat)).toNat,by lia⟩;rw[hi];have ac:i<ws.length:=by lia
  have hw:=Pj ac;obtain⟨sx,hs⟩:∃x,ss[i]?=some x:=⟨_,Pj (show i<ss.length by rw[<- ad.1];exact ac)⟩;obtain⟨sa,p,b,ns,ev,qa,ep,eb,ln⟩:=ad.2 i _ _ hw hs;have ae:=λ{H' d e a os ar} J hd he hl ha h9=>q (.ref a) _ sx _ (Ld (K:=K) (H:=H) (H':=H') (k:=k) (d:=d) (e:=e) (a:=a) (p:=p) (os:=os) (ar:=ar) (s:=sx) J hd he ep hl ha h9).1 (Ld J hd he ep hl ha h9).2.1 (Qs hs) (Ld J hd he ep hl ha h9).2.2;refine Bo (SqL.of aa) (Cp hw) ?_;rw[ev];left;refine Du qa rfl ?_;left;refine Cm (SqL.of aa) ?_;refine s_rI ⟨by lia,by lia⟩ ?_;left;refine⟨Bg,λd hd=>?_⟩;left;refine⟨Gz,λa2 h2=>?_⟩;left;refine Fg (.inr (SqT.of Ac)) rfl rfl ?_;rw[if_neg Pt];left;rw[Zjw];have nl:=O9 sx.2.wd;refine⟨by lia,by lia,?_⟩;have s1:=(Same.upd (o:=.lst []) hd).trans (Same.upd (o:=.tup [.str "plus",.str "minus",.str "less",.str "call"]) h2);have e1:upd (upd H d (.lst [])) a2 (.tup [.str "plus",.str "minus",.str "less",.str "call"]) d=some (.lst []):=(Same.upd h2) _ _ Ac;refine Gu (n:=((Fb sx.2.wd:Nat):Int).toNat) (λj I H'=>eX4 λ(v8 Z:Option V)(z:Int)(os:List (Str×V))=>I=[some (.ref sp),some (.int c),some (.int (k:Nat)),some (.str sx.2.wd),some (.ref p),some (.ref b),some (.int z),some (.ref d),v8,Z,none,none]/\RuJ K H k d os H'/\os.length=j) ⟨none,none,_,[],rfl,⟨s1,⟨[],e1,.nil⟩,λy U=>nomatch U⟩,rfl⟩ ?_ ?_
  ·rintro j I H' hj ⟨v8,Z,z,os,rfl,J,lo⟩;left;refine⟨z,k,rfl,k5,λr u z1 x H2 s2 qr th tk=>?_⟩;left;refine Du qr rfl ?_;left;obtain⟨s0,⟨ov,eo,al⟩,t0⟩:=J.same s2;refine B6 (SqL.of eo) ?_;left;refine Cw eo (by have:=al.1;lia) ?_;refine⟨_,_,z1,os++[x],rfl,⟨s0.over hd,⟨_,Ac,(al.mono (ThAt.same (SameT.set eo))).snoc (ThAt.same (SameT.set eo) _ _ th)⟩,λy U=>?_⟩,by rw[Pn,lo];rfl⟩;rcases Q4.mp U with U|U
   ·exact t0 y U
   ·rw[P7.mp U];exact tk
  rintro I H1 ⟨v8,Z,z,os,rfl,J,lo⟩;have lo:os.length=Fb sx.2.wd:=by rw[lo,Qx]
  left;refine⟨Bg,λe h3=>?_⟩;have he:=J.s.free h3;have J3:=J.same (Same.upd (o:=.lst []) h3);have J3:RvJ K H k d e os [] (upd H1 e (.lst [])):=⟨J3,(λz=>by obtain⟨ov,eo,_⟩:=J.o;rw[<- z,h3]at eo;cases eo),⟨[],Ac,.nil⟩,λy U=>nomatch U⟩;revert J3;generalize upd H1 e (.lst [])=H3;intro J3;refine s_gname ?_;with_reducible refine s_seq ?_
  refine Cv (t:=Cf _ _ _) (R:=λI H'=>eX5 λ(v6 v8 Z O:Option V)(ar:Ar)=>I=[some (.ref sp),some (.int c),some (.int (k:Nat)),some (.str sx.2.wd),some (.ref p),some (.ref b),v6,some (.ref d),v8,Z,some (.ref e),O]/\RvJ K H k d e os ar H'/\ar.length<=150) ?_ (λY hY=>?_)
  ·rintro _ H4 ⟨v6,v8,Z,O,ar,rfl,J4,l4⟩;left;refine⟨Gz,λa9 h9=>?_⟩;exact ae J4 hd he lo l4 h9
  left;refine⟨Gz,λa4 h4=>?_⟩;left;refine Fg (.inr (SqT.of Ac)) rfl rfl ?_;rw[if_neg Pt];refine⟨_,rfl,?_⟩;have s4:=Same.upd (o:=.tup [.str "gap",.str "fn",.str "rec",.str "if"]) h4;have J4:=J3.same s4;revert J4;generalize upd H3 a4 (.tup [.str "gap",.str "fn",.str "rec",.str "if"])=H4;intro J4;refine Be (λ_=>?_) (λ_=>?_)
  ·left;refine .inl ⟨b,rfl,⟨_,SqL.of (J4.u.s _ _ eb)⟩,?_⟩;refine Jz (K:=K) (a:=b) (xs:=ns.map V.str) (λi I H'=>eX4 λ(Z O:Option V)(z:Int)(ar:Ar)=>I=[some (.ref sp),some (.int c),some (.int (k:Nat)),some (.str sx.2.wd),some (.ref p),some (.ref b),some (.int z),some (.ref d),v8,Z,some (.ref e),O]/\RvJ K H k d e os ar H'/\ar.length=i) ⟨_,_,_,[],rfl,J4,rfl⟩ ?_ ?_ ?_
   ·rintro i I H' _ ⟨_,_,_,_,_,J5,_⟩;exact SqL.of (J5.u.s _ _ eb)
   ·rintro i y I H5 U ⟨Z,O,z,ar,rfl,J5,l5⟩;have af:=(Ps.mp U).1;rw[Pp]at af;rw[Ql]at U;obtain⟨nm,_,rfl⟩:=Q3.mp U;left;refine⟨z,k,rfl,k5,λr u z1 x H6 s6 qr th tk=>?_⟩;left;refine Du qr rfl ?_;left;have J6:=J5.same s6;obtain⟨ev,ee,le⟩:=J6.len;refine B6 (SqL.of ee) ?_;left;refine⟨Bt,λa7 h7=>?_⟩;left;refine Cw ((Same.upd h7) _ _ ee) (by lia) ?_;exact⟨_,_,z1,_,rfl,J6.add he ee h7 th tk,by rw[Pn,l5];rfl⟩
   ·rintro I H5 ⟨Z,O,z,ar,rfl,J5,l5⟩;exact hY _ _ ⟨_,_,_,_,ar,rfl,J5,by rw[l5,Pp];exact ln⟩
  ·left;exact hY _ _ ⟨_,_,_,_,[],rfl,J4,by show 0<=150;decide⟩
def Zbf (K:Ph):Sp:=λvs H Q _=>eX2 λ(a:Addr)(k:Int)=>vs=[.ref a,.int k]/\Script K H a/\0<=k/\k<=1000/\∀z:Int,Q (.int z) H
theorem Zs7:Bb pR pR (A5 Za3):=by walk_at "sc"
theorem Zr3 (F:Fun K "_law_cell" "_law_cell" Za3 f fd)(T:Txt K mg):FnOk P w K mg base Aq 1 f fd pR (Zbf K):=by
 refine F.okq Zs7 (λvs H Q E h=>?_) (λO A outer s H vs Q E Z h=>?_)
 ·obtain⟨a,k,rfl,_⟩:=h;rfl
 ·obtain⟨a,k,rfl,S,h0,Y,q⟩:=h;obtain⟨ns,I,hl⟩:=S.ex;refine⟨_,Ad (Ax (Bp Ey Ag (Bz K T.len Ab)) (An (Ai K Ab Ag)) A0)
   (An (Ae (B5 K) (Ae Fd Ag Aa) Aa)),?_⟩
  left;refine Cm I ?_;left;refine Be (λh=>?_) (λh=>?_)
  ·have h1:k<(ns.map V.int).length:=by simpa using h
   obtain⟨v,U,m⟩:=Kj h0 h1;obtain⟨z,_,rfl⟩:=Ro.mp m;left;exact Bo I U (q z)
  ·left;exact q _
def Mv:Sp:=λvs H Q _=>eX2 λ(c k:Int)=>vs=[.int c,.int k]/\0<=k/\k<=1000/\∀z:Int,0<=z->z<999999999999999989->Q (.int z) H
theorem Zto:Bb pP pP (A5 Zaj):=by walk_at "sc"
theorem Zs2 (F:Fun K "_law_mixed" "_law_mixed" Zaj f fd)(T:Txt K mg):FnOk P w K mg base Aq 1 f fd pP Mv:=by
 refine F.okq Zto (λvs H Q E h=>?_) (λI A outer s H vs Q E U h=>?_)
 ·obtain⟨a,k,rfl,_⟩:=h;rfl
 ·obtain⟨a,k,rfl,h0,O,q⟩:=h;refine⟨_,An (Ae Bd (Ae Fd (Ae (B5 K) (Ae (B5 K) Ab (Ae Fd Aa Ag)) Aa) Aa) Aa),?_⟩;left;exact q _ (Qc _ (by decide)) (Qh _ (by decide))
def Zjj:Sp:=λvs H Q _=>eX2 λ(a k:Int)=>vs=[.int a,.int k]/\-(2 ^ 64)<a/\a<2 ^ 64/\∀z:Int,0<=z->z<2147483647->Q (.int z) H
theorem Zqp:Bb pI pI (A5 N4):=by walk_at "sc"
theorem Zu1 (F:Fun K "_law_next" "_law_next" N4 f fd)(T:Txt K mg):FnOk P w K mg base Aq 1 f fd pI Zjj:=by
 refine F.okq Zqp (λvs H Q E h=>?_) (λI A outer s H vs Q E O h=>?_)
 ·obtain⟨a,k,rfl,_⟩:=h;rfl
 ·obtain⟨a,k,rfl,h1,h2,q⟩:=h;refine⟨_,An (Ae Bd (Ae (B5 K) (Ae (B5 K) (Ae (B5 K) (Ae Fd Ab Ab) (Ae Fd Aa Ab)) (Ae Fd Aa Ag)) Aa) Aa),?_⟩;left;refine s_mul_l h1 h2 ?_;left;exact q _ (Qc _ (by decide)) (Qh _ (by decide))
theorem G5:Bb ["_law_spots_here","_law_cell_here","_law_k","_law_number_here","_law_word","_law_place","_law_bound","_law_operands","_law_turn","_law_around","_law_name"] pF (A5 Zbi):=by walk_at "sc"
theorem Zu0 (F:Fun K "_law_row" "_law_row" Zbi f fd)(T:Txt K mg)(C__law_next:Ba P w K mg base 1 "_law_next" ["_law_number_here","_law_k"] Zjj)(C__law_thing:Ba P w K mg base 1 "_law_thing" ["_law_number_here","_law_k"] (Zgp K)):FnOk P w K mg base Aq 2 f fd pF (Zaz K):=by
 refine F.okq G5 (λvs H Q E h=>?_) (λag A outer s H vs Q E hr h=>?_)
 ·obtain⟨sp,c,k,ws,ss,rfl,_⟩:=h;rfl
 ·obtain⟨sp,c,k,ws,ss,rfl,k5,ac,ad,w0,w5,q⟩:=h;refine⟨_,Ad (Ao 3 G5 (Ae Bd Ag Aa))
   (Ad (Ek (Ai K Ab (Ae Bd Ag (Bz K T.len Ab))) (Ks K G5 4 5 6)) (Ad (Ao 7 G5 (Bk Bh)) (Ad (Dw Qk rfl (He rfl T.range (Av (Ae (B5 K) (Ae Fd Aa (D5 L8 T.int (Av (qcm (Hj K) A6 (Ak (Il (xs:=[.str "plus",.str "minus",.str "less",.str "call"]) rfl)))))) (D5 L8 T.int (Av (E6 K hr A6 Aj)))))) (Da 8 G5) (Ad (Ao 3 G5 (Ay C__law_next hr.m (Ah A9 (qv 8)))) (A3 (Bx (Co K Pu Qd Qe C0 (qv 7) (Av (Ay C__law_thing hr.m (Ah A9 Az)))))))) (Ad (Ao 9 G5 (Bk Bh)) (Ad (Ax (Bp (Hj K) A6 (Ak (Il (xs:=[.str "gap",.str "fn",.str "rec",.str "if"]) rfl))) (A3 (Dw Qk rfl (El K (qv 6)) (Da 10 G5) (Ad (Ao 3 G5 (Ay C__law_next hr.m (Ah A9 Aa))) (A3 (Bx (Co K Pu Qd Qe C0 (qv 9) (Av (Ak (Ah (qv 10) (Ay C__law_thing hr.m (Ah A9 Az))))))))))) A0) (An (Ak (Dh A6 (qv 5) (qv 7) (qv 9))))))))),?_⟩
  have bg:=big;left;refine Cm (SqL.of ac) ?_;left;refine s_rI (by lia) ?_;have b0:=Qc c (show((ws.length:Nat):Int)≠0 by lia);have b1:=Qh c (show(0:Int)<(ws.length:Nat) by lia);obtain⟨i,hi⟩:∃i:Nat,c % (ws.length:Nat)=(i:Nat):=⟨(c % (ws.length:Nat)).toNat,by lia⟩;rw[hi];have aa:i<ws.length:=by lia
  have hw:=Pj aa;obtain⟨Z,hs⟩:∃x,ss[i]?=some x:=⟨_,Pj (show i<ss.length by rw[<- ad.1];exact aa)⟩;obtain⟨sa,p,b,ns,ev,qa,ep,eb,ln⟩:=ad.2 i _ _ hw hs;have ae:=λ{H' d e a os ar} J hd he hl ha h9=>q (.ref a) _ Z _ (Ld (K:=K) (H:=H) (H':=H') (k:=k) (d:=d) (e:=e) (a:=a) (p:=p) (os:=os) (ar:=ar) (s:=Z) J hd he ep hl ha h9).1 (Ld J hd he ep hl ha h9).2.1 (Qs hs) (Ld J hd he ep hl ha h9).2.2;refine Bo (SqL.of ac) (Cp hw) ?_;rw[ev];left;refine Du qa rfl ?_;left;refine⟨Bg,λd hd=>?_⟩;left;refine⟨Gz,λa2 h2=>?_⟩;left;refine Fg (.inr (SqT.of Ac)) rfl rfl ?_;rw[if_neg Pt];left;rw[Zjw];have nl:=O9 Z.2.wd;have z0:=Qc c (show(2147483629:Int)≠0 by decide);have z1:=Qh c (show(0:Int)<2147483629 by decide);refine⟨by lia,by lia,?_⟩;have s1:=(Same.upd (o:=.lst []) hd).trans (Same.upd (o:=.tup [.str "plus",.str "minus",.str "less",.str "call"]) h2);have e1:upd (upd H d (.lst [])) a2 (.tup [.str "plus",.str "minus",.str "less",.str "call"]) d=some (.lst []):=(Same.upd h2) _ _ Ac;refine Gu (n:=((Fb Z.2.wd:Nat):Int).toNat) (λj I H'=>eX3 λ(v8:Option V)(z:Int)(os:List (Str×V))=>I=[some (.ref sp),some (.int c),some (.int (k:Nat)),some (.int z),some (.str Z.2.wd),some (.ref p),some (.ref b),some (.ref d),v8,none,none]/\RuJ K H k d os H'/\os.length=j/\0<=z/\z<2147483647) ⟨none,_,[],rfl,⟨s1,⟨[],e1,.nil⟩,λy U=>nomatch U⟩,rfl,z0,by lia⟩ ?_ ?_
  ·rintro j I H' hj ⟨v8,z,os,rfl,J,lo,z2,z3⟩;left;refine⟨z,_,rfl,by lia,by lia,λz1 z4 z5=>?_⟩;left;refine B6 (SqL.of J.o.choose_spec.1) ?_;left;refine⟨z1,k,rfl,λu H2 x s2 th tk=>?_⟩;obtain⟨s0,⟨ov,eo,al⟩,t0⟩:=J.same s2;left;refine Cw eo (by have:=al.1;lia) ?_;refine⟨_,z1,os++[x],rfl,⟨s0.over hd,⟨_,Ac,(al.mono (ThAt.same (SameT.set eo))).snoc (ThAt.same (SameT.set eo) _ _ th)⟩,λy U=>?_⟩,by rw[Pn,lo];rfl,z4,z5⟩;rcases Q4.mp U with U|U
   ·exact t0 y U
   ·rw[P7.mp U];exact tk
  rintro I H1 ⟨v8,z,os,rfl,J,lo,z2,z3⟩;have lo:os.length=Fb Z.2.wd:=by rw[lo,Qx]
  left;refine⟨Bg,λe h3=>?_⟩;have he:=J.s.free h3;have J3:=J.same (Same.upd (o:=.lst []) h3);have J3:RvJ K H k d e os [] (upd H1 e (.lst [])):=⟨J3,(λz=>by obtain⟨ov,eo,_⟩:=J.o;rw[<- z,h3]at eo;cases eo),⟨[],Ac,.nil⟩,λy U=>nomatch U⟩;revert J3;generalize upd H1 e (.lst [])=H3;intro J3;refine s_gname ?_;with_reducible refine s_seq ?_
  refine Cv (t:=Cf _ _ _) (R:=λI H'=>eX4 λ(v3 v8 O:Option V)(ar:Ar)=>I=[some (.ref sp),some (.int c),some (.int (k:Nat)),v3,some (.str Z.2.wd),some (.ref p),some (.ref b),some (.ref d),v8,some (.ref e),O]/\RvJ K H k d e os ar H'/\ar.length<=150) ?_ (λY hY=>?_)
  ·rintro _ H4 ⟨v3,v8,O,ar,rfl,J4,l4⟩;left;refine⟨Gz,λa9 h9=>?_⟩;exact ae J4 hd he lo l4 h9
  left;refine⟨Gz,λa4 h4=>?_⟩;left;refine Fg (.inr (SqT.of Ac)) rfl rfl ?_;rw[if_neg Pt];refine⟨_,rfl,?_⟩;have s4:=Same.upd (o:=.tup [.str "gap",.str "fn",.str "rec",.str "if"]) h4;have J4:=J3.same s4;revert J4;generalize upd H3 a4 (.tup [.str "gap",.str "fn",.str "rec",.str "if"])=H4;intro J4;refine Be (λ_=>?_) (λ_=>?_)
  ·left;refine .inl ⟨b,rfl,⟨_,SqL.of (J4.u.s _ _ eb)⟩,?_⟩;refine Jz (K:=K) (a:=b) (xs:=ns.map V.str) (λi I H'=>eX3 λ(O:Option V)(z:Int)(ar:Ar)=>I=[some (.ref sp),some (.int c),some (.int (k:Nat)),some (.int z),some (.str Z.2.wd),some (.ref p),some (.ref b),some (.ref d),v8,some (.ref e),O]/\RvJ K H k d e os ar H'/\ar.length=i/\0<=z/\z<2147483647) ⟨_,_,[],rfl,J4,rfl,z2,z3⟩ ?_ ?_ ?_
   ·rintro i I H' _ ⟨_,_,_,_,J5,_⟩;exact SqL.of (J5.u.s _ _ eb)
   ·rintro i y I H5 U ⟨O,z,ar,rfl,J5,l5,z2,z3⟩;have af:=(Ps.mp U).1;rw[Pp]at af;rw[Ql]at U;obtain⟨nm,_,rfl⟩:=Q3.mp U;left;refine⟨z,_,rfl,by lia,by lia,λz1 z4 z5=>?_⟩;left;refine B6 (SqL.of J5.len.choose_spec.1) ?_;left;refine⟨z1,k,rfl,λu H6 x s6 th tk=>?_⟩;have J6:=J5.same s6;obtain⟨ev,ee,le⟩:=J6.len;left;refine⟨Bt,λa7 h7=>?_⟩;left;refine Cw ((Same.upd h7) _ _ ee) (by lia) ?_;exact⟨_,z1,_,rfl,J6.add he ee h7 th tk,by rw[Pn,l5];rfl,z4,z5⟩
   ·rintro I H5 ⟨O,z,ar,rfl,J5,l5,_⟩;exact hY _ _ ⟨_,_,_,ar,rfl,J5,by rw[l5,Pp];exact ln⟩
  ·left;exact hY _ _ ⟨_,_,_,[],rfl,J4,by show 0<=150;decide⟩
structure RcJ (K:Ph)(H H1:Hp)(ss:List (List Nat×Tr))(rd:Addr)(rs:List Rx)(H':Hp):Prop where
 s:Same H1 H'
 o:∃rv,H' rd=some (.lst rv)/\Al (RwX K (λb=>b=rd\/H b≠none) H') rv rs
 m:∀(j:Nat)(r:Rx),rs[j]?=some r->∃x∈ss,Kt j x r
theorem RcJ.same (h:RcJ K H H1 ss rd rs H2)(s:Same H2 H3):RcJ K H H1 ss rd rs H3:=by
 obtain⟨I,e,O⟩:=h.o;exact⟨h.s.trans s,⟨I,s _ _ e,O.mono (RwX.same s.a)⟩,h.m⟩
theorem RcJ.add (h:RcJ K H H1 ss rd rs H2)(h1:Same H H1)(hd:H1 rd=none)(s:Same H2 H3)(e3:H3 rd=some (.lst rv))(w:RwX K (λb=>H2 b≠none) H3 v x)(hs:sx∈ss)(m:Kt rs.length sx x):RcJ K H H1 ss rd (rs++[x]) (upd H3 rd (.lst (rv++[v]))):=by
 obtain⟨s0,⟨aa,U,Y⟩,Z⟩:=h.same s;rw[e3]at U;cases U;have sa:SameA (λb=>b=rd\/H b≠none) H3 (upd H3 rd (.lst (rv++[v]))):=⟨SameT.set e3,λb xs nb h=>(Af λz=>nb (.inl z)).trans h⟩;refine⟨s0.over hd,⟨_,Ac,(Y.mono (RwX.same sa)).snoc (RwX.same sa _ _ (RwX.mono (λb hb _=>?_) _ _ w))⟩,λj r I=>?_⟩
 ·rcases hb with rfl|hb
  ·obtain⟨rv,e,_⟩:=h.o;rw[e];exact λz=>nomatch z
  ·exact λz=>hb ((h1.trans h.s).free z)
 ·by_cases hl:j<rs.length
  ·rw[Qj hl]at I;exact Z j r I
  ·have O:=(Ps.mp I).1;rw[Pn,Py]at O;have:j=rs.length:=by lia
   subst this;rw[Qr (Pl _),Q7]at I;cases I;exact⟨sx,hs,m⟩
structure MdC (ss:List (List Nat×Tr))(o:Er):Prop where
 m:∀(j:Nat)(r:Rx),o.2.1[j]?=some r->∃x∈ss,Kt j x r
 l:o.2.1.length<=21
 t:TOk o.2.1.length o.1
 n:0<=o.2.2/\o.2.2<=500
inductive RecQ (K:Ph)(H H':Hp)(ss:List (List Nat×Tr))(v:V)(o:Er):Prop
 |mk (r rd:Addr) (av:V) (rv:List V) (_:v=.ref r) (_:Same H H') (_:SqT K H' r [av,.ref rd,.int o.2.2]) (_:ThAt K H' av o.1) (_:H' rd=some (.lst rv)) (_:H rd=none) (_:Al (RwX K (λb=>b=rd\/H b≠none) H') rv o.2.1) (_:MdC ss o)
def Ki (t:Tr):Prop:=∃x∈walk [] t,x.2.wd="gap"
def Zgr (K:Ph):Sp:=λvs H Q _=>eX5 λ(tv:V)(pc a:Addr)(t:Tr)(cs:List Int)=>vs=[tv,.ref pc,.ref a]/\TrAt K H tv t/\Tf t/\t.size<=70/\Ki t/\H pc=some (.lst (cs.map V.int))/\cs.length<=21/\Script K H a/\∀v o H',RecQ K H H' ((walk [] t).filter (Eu ["num","truth","let"])) v o->Q v H'
theorem Zga (h:Ki t)(hu:¬("gap":Str)∈us):0<((walk [] t).filter (Eu us)).length:=by
 obtain⟨x,I,e⟩:=h;exact List.length_pos_of_mem (Sq.mpr ⟨I,by show(!decide (x.2.wd∈us))=true;rw[e,decide_eq_false hu];rfl⟩)
theorem Zi2:((walk [] t).filter (Eu us)).length<=t.size:=Qb (T2 _ _) (by rw[K0];exact Pl _)
theorem Ma:Bb ["_law_tree","_law_cells","_law_script","_law_spots_here","_law_rows","_law_cell_here","_law_answer","_law_rest"] pV (A5 Zaw):=by walk_at "sc"
theorem Znk (F:Fun K "_law_free_record" "_law_free_record" Zaw f fd)(T:Txt K mg)(C__law_cell:Ba P w K mg base 1 "_law_cell" ["_law_script","_law_k"] (Zbf K))(C__law_spots:Ba P w K mg base 72 "_law_spots" ["_law_form_here","_law_place","_law_bound","_law_none"] (Iu K 71))(C__law_digit:Ba P w K mg base 1 "_law_digit" ["_law_rest","_law_k"] (Zb7 K))(C__law_free_row:Ba P w K mg base 2 "_law_free_row" ["_law_spots_here","_law_cell_here","_law_k"] (Zaz K)):FnOk P w K mg base Aq 73 f fd pV (Zgr K):=by
 refine F.okq Ma (λvs H Q E h=>?_) (λah A outer s H vs Q E hr h=>?_)
 ·obtain⟨tv,pc,a,t,cs,rfl,_⟩:=h;rfl
 ·obtain⟨tv,pc,a,t,cs,rfl,ht,tf,hz,hg,ec,lc,Sc,q⟩:=h;refine⟨_,Ad (Ao 3 Ma (Ay C__law_spots hr.m (Dh Ab (Ak Bh) (Bk Bh) (Ak (Bc Aj Aj Aj)))))
   (Ad (Ao 4 Ma (Bk Bh)) (Ad (Dw Qk rfl (El K Ag) (Da 5 Ma) (A3 (Bx (Co K Pu Qd Qe C0 A6 (Av (Ay C__law_free_row hr.m (Bc A9 (qv 5) (Bz K T.len A6)))))))) (Ad (Ek (Ay C__law_digit hr.m (Ah (Ae Cc (Ay C__law_cell hr.m (Ah Az Aa)) Aa) (Bz K T.len A6))) (Gj K Ma 6 7)) (An (Ak (Bc (qv 6) A6 (Ae Bd (Ay C__law_cell hr.m (Ah Az Aa)) Aa))))))),?_⟩
  have bg:=big;left;refine⟨Bg,λa1 h1=>?_⟩;left;refine⟨Bg,λa2 h2=>?_⟩;left;refine⟨Br,λa3 h3=>?_⟩;have s1:=Same.upd (o:=.tup []) h1;have s2:=Same.upd (o:=.lst []) h2;have s3:=Same.upd (o:=.tup [.str "num",.str "truth",.str "let"]) h3;have ad:=s1.trans (s2.trans s3);left;refine⟨tv,t,a1,a2,a3,[],[],["num","truth","let"],rfl,ht.same ad,tf,(s2.trans s3) _ _ Ac,s3 _ _ Ac,SqT.of Ac,by decide,by lia,by show 0+t.size<=1000;lia,by show 0+2*t.size<=150;lia,λsp ws H1 O af U=>?_⟩;have O:=ad.trans O;left;refine⟨Bg,λrd hd=>?_⟩;have J0:RcJ K H H1 ((walk [] t).filter (Eu ["num","truth","let"])) rd [] (upd H1 rd (.lst [])):=⟨Same.upd hd,⟨[],Ac,.nil⟩,λj r h=>by simp at h⟩;revert J0;generalize upd H1 rd (.lst [])=H2;intro J0;left;have ac:=O _ _ ec;refine .inl ⟨pc,rfl,⟨_,SqL.of (J0.s _ _ ac)⟩,?_⟩;refine Jz (K:=K) (a:=pc) (xs:=cs.map V.int) (λi I H'=>eX2 λ(v5:Option V)(rs:List Rx)=>I=[some tv,some (.ref pc),some (.ref a),some (.ref sp),some (.ref rd),v5,none,none]/\RcJ K H H1 ((walk [] t).filter (Eu ["num","truth","let"])) rd rs H'/\rs.length=i) ⟨_,[],rfl,J0,rfl⟩ ?_ ?_ ?_
  ·rintro i I H' _ ⟨_,_,_,J,_⟩;exact SqL.of (J.s _ _ ac)
  ·rintro i y I H3 hy ⟨v5,rs,rfl,J,lr⟩;have hi:=(Ps.mp hy).1;rw[Pp]at hi;rw[Ql]at hy;obtain⟨c,_,rfl⟩:=Q3.mp hy;obtain⟨rv,Z,Y⟩:=J.o;have lv:rv.length=rs.length:=Y.1;left;refine B6 (SqL.of Z) ?_;left;refine Cm (SqL.of Z) ?_;left;have p0:=Zga (us:=["num","truth","let"]) hg (by right);have p1:=Zi2 (t:=t) (us:=["num","truth","let"]);refine⟨sp,c,rv.length,ws,_,rfl,by lia,J.s _ _ af,U.mono (SpAt.same J.s),by rw[U.1];exact p0,by rw[U.1];lia,λv x sx H4 s4 wx hs m=>?_⟩;left;refine Cw (s4 _ _ Z) (by lia) ?_;rw[lv]at m;exact⟨_,_,rfl,J.add O hd s4 (s4 _ _ Z) wx hs m,by rw[Pn,lr];rfl⟩
  rintro I H3 ⟨v5,rs,rfl,J,lr⟩;obtain⟨rv,Z,Y⟩:=J.o;have lv:rv.length=rs.length:=Y.1;rw[Pp]at lr;left;refine⟨a,2,rfl,Sc.same (O.trans J.s),by decide,by decide,λz2=>?_⟩;left;refine Cm (SqL.of Z) ?_;left;refine⟨_,rv.length,rfl,by lia,λr6 u z6 x H6 s6 q6 th tk=>?_⟩;left;refine Du q6 rfl ?_;left;refine⟨a,1,rfl,Sc.same (O.trans (J.s.trans s6)),by decide,by decide,λz1=>?_⟩;left;refine⟨Br,λr9 h9=>?_⟩;have s9:=Same.upd (o:=.tup [u,.ref rd,.int (z1 % 501)]) h9;obtain⟨sJ,⟨ag,ae,aa⟩,mJ⟩:=J.same (s6.trans s9);rw[lv]at tk;have n0:=Qc z1 (show(501:Int)≠0 by decide);have n1:=Qh z1 (show(0:Int)<501 by decide);exact q (.ref r9) (x,rs,z1 % 501) _ ⟨r9,rd,u,ag,rfl,O.trans sJ,SqT.of Ac,ThAt.same s9.t _ _ th,ae,O.free hd,aa,mJ,by show rs.length<=21;lia,tk,n0,by show z1 % 501<=500;lia⟩
def Zj2 (K:Ph):Sp:=λvs H Q _=>eX5 λ(tv:V)(pc:Addr)(n:Int)(t:Tr)(cs:List Int)=>vs=[tv,.ref pc,.int n]/\TrAt K H tv t/\Tf t/\t.size<=70/\Ki t/\H pc=some (.lst (cs.map V.int))/\cs.length<=21/\0<=n/\n<=500/\∀v o H',RecQ K H H' ((walk [] t).filter (Eu ["num","truth","let","name"])) v o->Q v H'
theorem Kd:Bb ["_law_tree","_law_cells","_law_steps","_law_spots_here","_law_rows","_law_cell_here","_law_answer"] pX (A5 Zax):=by walk_at "sc"
theorem Zlp (F:Fun K "_law_made_up" "_law_made_up" Zax f fd)(T:Txt K mg)(C__law_spots:Ba P w K mg base 72 "_law_spots" ["_law_form_here","_law_place","_law_bound","_law_none"] (Iu K 71))(C__law_row:Ba P w K mg base 2 "_law_row" ["_law_spots_here","_law_cell_here","_law_k"] (Zaz K)):FnOk P w K mg base Aq 73 f fd pX (Zj2 K):=by
 refine F.okq Kd (λvs H Q E h=>?_) (λan A outer s H vs Q E hr h=>?_)
 ·obtain⟨tv,pc,n,t,cs,rfl,_⟩:=h;rfl
 ·obtain⟨tv,pc,n,t,cs,rfl,ht,tf,hz,hg,ec,lc,n0,n1,q⟩:=h;refine⟨_,Ad (Ao 3 Kd (Ay C__law_spots hr.m (Dh Ab (Ak Bh) (Bk Bh) (Ak (Il (xs:=[.str "num",.str "truth",.str "let",.str "name"]) rfl)))))
   (Ad (Ao 4 Kd (Bk Bh)) (Ad (Dw Qk rfl (El K Ag) (Da 5 Kd) (A3 (Bx (Co K Pu Qd Qe C0 A6 (Av (Ay C__law_row hr.m (Bc A9 (qv 5) (Bz K T.len A6)))))))) (Ad (Ao 6 Kd (Ak (Ah Aj Az))) (Ad (Ax (QW.qt (Eg (Bp Hd (Bz K T.len A6) Aa) (Ec (Bp Ey (Ae Bd (Ai K Ag Aa) Aa) Aa)))) (A3 (Ao 6 Kd (Ak (Ah Aj (Ae D9 (Ae D9 (Bz K T.len A6) Aa) (Ae Bd (Ae Cc (Ai K Ag Aa) Aa) (B1 (Zvj rfl) T.min (Ah Aa (Bz K T.len A6))))))))) A0) (An (Ak (Bc (qv 6) A6 Az))))))),?_⟩
  have bg:=big;left;refine⟨Bg,λa1 h1=>?_⟩;left;refine⟨Bg,λa2 h2=>?_⟩;left;refine⟨Gz,λa3 h3=>?_⟩;have s1:=Same.upd (o:=.tup []) h1;have s2:=Same.upd (o:=.lst []) h2;have s3:=Same.upd (o:=.tup [.str "num",.str "truth",.str "let",.str "name"]) h3;have af:=s1.trans (s2.trans s3);left;refine⟨tv,t,a1,a2,a3,[],[],["num","truth","let","name"],rfl,ht.same af,tf,(s2.trans s3) _ _ Ac,s3 _ _ Ac,SqT.of Ac,by decide,by lia,by show 0+t.size<=1000;lia,by show 0+2*t.size<=150;lia,λsp ws H1 sH ak ac=>?_⟩;have sH:=af.trans sH;left;refine⟨Bg,λrd hd=>?_⟩;have J0:RcJ K H H1 ((walk [] t).filter (Eu ["num","truth","let","name"])) rd [] (upd H1 rd (.lst [])):=⟨Same.upd hd,⟨[],Ac,.nil⟩,λj r h=>by simp at h⟩;revert J0;generalize upd H1 rd (.lst [])=H2;intro J0;left;have aa:=sH _ _ ec;refine .inl ⟨pc,rfl,⟨_,SqL.of (J0.s _ _ aa)⟩,?_⟩;refine Jz (K:=K) (a:=pc) (xs:=cs.map V.int) (λi I H'=>eX2 λ(v5:Option V)(rs:List Rx)=>I=[some tv,some (.ref pc),some (.int n),some (.ref sp),some (.ref rd),v5,none]/\RcJ K H H1 ((walk [] t).filter (Eu ["num","truth","let","name"])) rd rs H'/\rs.length=i) ⟨_,[],rfl,J0,rfl⟩ ?_ ?_ ?_
  ·rintro i I H' _ ⟨_,_,_,J,_⟩;exact SqL.of (J.s _ _ aa)
  ·rintro i y I H3 hy ⟨v5,rs,rfl,J,lr⟩;have hi:=(Ps.mp hy).1;rw[Pp]at hi;rw[Ql]at hy;obtain⟨c,_,rfl⟩:=Q3.mp hy;obtain⟨U,er,ad⟩:=J.o;have lv:U.length=rs.length:=ad.1;left;refine B6 (SqL.of er) ?_;left;refine Cm (SqL.of er) ?_;left;have p0:=Zga (us:=["num","truth","let","name"]) hg (by right);have p1:=Zi2 (t:=t) (us:=["num","truth","let","name"]);refine⟨sp,c,U.length,ws,_,rfl,by lia,J.s _ _ ak,ac.mono (SpAt.same J.s),by rw[ac.1];exact p0,by rw[ac.1];lia,λv x sx H4 s4 wx hs m=>?_⟩;left;refine Cw (s4 _ _ er) (by lia) ?_;rw[lv]at m;exact⟨_,_,rfl,J.add sH hd s4 (s4 _ _ er) wx hs m,by rw[Pn,lr];rfl⟩
  rintro I H3 ⟨v5,rs,rfl,J,lr⟩;obtain⟨U,er,ad⟩:=J.o;have lv:U.length=rs.length:=ad.1;rw[Pp]at lr;have ai:=J.s _ _ aa;left;refine⟨Bt,λa6 h6=>?_⟩;have s6:=Same.upd (o:=.tup [.str "num",.int n]) h6;have t6:ThAt K (upd H3 a6 (.tup [.str "num",.int n])) (.ref a6) ("num",.int n):=⟨rfl,a6,rfl,SqT.of Ac⟩;revert s6 t6;generalize upd H3 a6 (.tup [.str "num",.int n])=H6;intro s6 t6;refine s_gname ?_;with_reducible refine s_seq ?_
  refine Cv (t:=Cf _ _ _) (R:=λI H'=>eX2 λ(u:V)(x:Str×V)=>I=[some tv,some (.ref pc),some (.int n),some (.ref sp),some (.ref rd),v5,some u]/\Same H6 H'/\ThAt K H' u x/\TOk rs.length x) ?_ (λY hY=>?_)
  ·rintro _ H7 ⟨u,x,rfl,s7,th,tk⟩;left;refine⟨Br,λr9 h9=>?_⟩;have s9:=Same.upd (o:=.tup [u,.ref rd,.int n]) h9;obtain⟨sJ,⟨al,aj,ae⟩,mJ⟩:=J.same (s6.trans (s7.trans s9));exact q (.ref r9) (x,rs,n) _ ⟨r9,rd,u,al,rfl,sH.trans sJ,SqT.of Ac,ThAt.same s9.t _ _ th,aj,sH.free hd,ae,mJ,by show rs.length<=21;lia,tk,n0,n1⟩
  have no:Y [some tv,some (.ref pc),some (.int n),some (.ref sp),some (.ref rd),v5,some (.ref a6)] H6:=hY _ _ ⟨_,_,rfl,Same.refl _,t6,.inl ⟨rfl,_,rfl⟩⟩;have Z:=s6 _ _ er;have ah:=s6 _ _ ai;left;refine Cm (SqL.of Z) ?_;left;refine Be (λhk=>?_) (λ_=>by left;exact no);have hk:(0:Int)<(U.length:Nat):=of_decide_eq_true hk;obtain⟨O,cr,rfl⟩:eX2 λO cr=>cs=O::cr:=by
   cases cs with
   |nil=>rw[Th]at lr;lia
   |cons O cr=>exact⟨O,cr,rfl⟩
  left;refine Bo (SqL.of ah) (v:=.int O) (show Cr _ ((0:Nat):Int)=_ from Cp rfl) ?_;left;refine Be (λ_=>?_) (λ_=>by left;exact no);left;refine Cm (SqL.of Z) ?_;left;refine Bo (SqL.of ah) (v:=.int O) (show Cr _ ((0:Nat):Int)=_ from Cp rfl) ?_;left;refine Cm (SqL.of Z) ?_;left;refine⟨_,_,rfl,?_⟩;obtain⟨mm,hm,ag,am⟩:∃mm:Int,(if ((U.length:Nat):Int)<3 then ((U.length:Nat):Int) else 3)=mm/\0<mm/\mm<=(U.length:Nat):=⟨_,rfl,by split <;> lia,by split <;> lia⟩;rw[hm];refine s_rI ag ?_;left;refine⟨Bt,λa8 h8=>?_⟩;left;have b0:=Qc (O / 8) (show mm≠0 by lia);have b1:=Qh (O / 8) ag;refine hY _ _ ⟨.ref a8,("row",.int ((U.length:Nat)-1-O / 8 % mm)),rfl,Same.upd h8,⟨rfl,a8,rfl,SqT.of Ac⟩,.inr (.inr ⟨rfl,((U.length:Nat)-1-O / 8 % mm).toNat,?_,by lia⟩)⟩;show V.int _=V.int _;rw[Wl (by lia)]
def Zjt:Sp:=λvs H Q _=>∃c:Int,vs=[.int c]/\∀z:Int,Q (.int z) H
theorem Zud:Bb ["_law_cell_here"] ["_law_cell_here"] (A5 Og):=by walk_at "sc"
theorem Zwh (F:Fun K "_law_number" "_law_number" Og f fd)(T:Txt K mg):FnOk P w K mg base Aq 1 f fd ["_law_cell_here"] Zjt:=by
 refine F.okq Zud (λvs H Q E h=>?_) (λO A outer s H vs Q E I h=>?_)
 ·obtain⟨c,rfl,_⟩:=h;rfl
 ·obtain⟨c,rfl,q⟩:=h;refine⟨_,Ad (Ax (Bj K I (Ae Bd Ab Aa) Aa) (An (Ae Bd (Ae Cc Ab Aa) Aa)) A0)
   (Ad (Ax (Bj K I (Ae Bd Ab Aa) Aa) (An (Ae D9 (Ae D9 (Ae Ka Aa Aa) Aa) (Ae Bd (Ae Cc Ab Aa) Aa))) A0) (An (Ae Bd (Ae Fd Ab Aa) (Ae Ka Aa Aa)))),?_⟩
  left;refine Be (λh=>?_) (λh=>?_)
  ·left;exact q _
  left;refine Be (λh=>?_) (λh=>?_)
  ·left;exact q _
  left;exact q _
theorem Zih {n:Int}(h0:0<=n)(h1:n<10 ^ 18):(Qv (toString n)).length<=19:=by
 have e:=PySem.int_text_length_le10 (a:=n) (k:=18) (by decide) (by lia);rw[Str.ofString_eq_toList];show((toString n).toList.map Char.toNat).toArray.size<=19;rw[Pm,Pp,String.length_toList];exact e
theorem Zja {n:Int}(h0:0<=n)(h1:n<10 ^ 18):n.natAbs.log2<1920:=by
 by_cases z:n.natAbs=0
 ·rw[z];decide
 ·rw[Nat.log2_lt z];have:n.natAbs<10 ^ 18:=by lia
  exact P9 this (by right)
theorem Zag (h1:H a=some (.tup [.str wd,nv,.ref p]))(h2:H p=some (.tup []))(hf:C8 nv=true):TrAt K H (.ref a) (.mk wd (.flat nv) []):=.mk (SqT.of h1) (.inl ⟨hf,rfl⟩) (SqT.of h2) rfl λj v t e _=>by simp at e
def Zaq (K:Ph):Sp:=λvs H Q _=>eX6 λ(c:Int)(ar pn:Addr)(so:Str)(ts:List Str)(m:Nat)=>vs=[.int c,.ref ar,.ref pn,.str so]/\BdAt K H ar m/\m<=1000/\H pn=some (.lst (ts.map V.str))/\ts.length=5/\∀v t H',Same H H'->TrAt K H' v t->Tf t->t.size<=2->Q v H'
theorem Ze8:(["_law_name","_law_kind","_law_sort"]:List Str).Nodup:=by right
theorem sc_law_end:Bb ["_law_cell_here","_law_around","_law_names_here","_law_sort","_law_pick","_law_known"] pL (A5 Nt):=by walk_at "sc"
theorem Zma (F:Fun K "_law_end" "_law_end" Nt f fd)(T:Txt K mg)(C__law_number:Ba P w K mg base 1 "_law_number" ["_law_cell_here"] Zjt):FnOk P w K mg base Aq 2 f fd pL (Zaq K):=by
 refine F.okq sc_law_end (λvs H Q E h=>?_) (λah A outer s H vs Q E hr h=>?_)
 ·obtain⟨c,ar,pn,so,ts,m,rfl,_⟩:=h;rfl
 ·obtain⟨c,ar,pn,so,ts,m,rfl,⟨bs,zs,eb,ag,lb⟩,hm,ad,af,q⟩:=h;refine⟨_,Ad (Ao 4 sc_law_end (Ae Bd Ab Aa))
   (Ad (Ao 0 sc_law_end (Ae Cc Ab Aa)) (Ad (Of (i:=5) (N:=["_law_name","_law_kind","_law_sort"]) (σ0:=Fv 2 [3]) rfl (J2 rfl (by right) (by right) (by right)) (El K Ag) (Jt rfl (by rfl)) (λ_ _ _ _=>Ol K (n:=2) rfl (Hi (Gr (i:=0) Ze8 rfl (Or.inl rfl)) (Hi (Gr (i:=1) Ze8 rfl (Or.inl rfl)) Oo))) (λ_ _ _ _=>Zpx (Bj K hr Ag Az)) (λ_ _ _ _=>qv 0) sc_law_end.nd rfl (Or.inl rfl)) (Ad (Ax (Bp Ey A6 Aa) (An (Ak (Bc Aj Hc (Ak Bh)))) A0) (Ad (Ax (QW.qt (Eg (Bp Ey A6 Aa) (Ec (Bp Hd (Bz K T.len (qv 5)) Aa)))) (An (Ak (Bc Aj (Ai K (qv 5) (Ae Bd Ab (Bz K T.len (qv 5)))) (Ak Bh)))) A0) (Ad (Ax (QW.qt (Eg (Bj K hr A6 Aa) (Ec (Bj K hr (Ae Bd Ab Aa) Aa)))) (An (Ak (Bc Aj (Ai K Az Aa) (Ak Bh)))) A0) (Ad (Ax (QW.qt (Eg (Bj K hr A6 Aa) (Ec (Bj K hr (Ae Bd Ab Aa) Aa)))) (An (Ak (Bc Aj (Ae (B5 K) Aj (D5 Zir T.str (Av (Ae Bd (Ae Cc Ab Aa) Aa)))) (Ak Bh)))) A0) (Ad (Ax (Bj K hr A9 Aj) (An (Ak (Bc Aj (E6 K hr (Ae Bd Ab Aa) Aa) (Ak Bh)))) A0) (Ad (Ax (Bj K hr A9 Aj) (An (Ak (Bc Aj (Ai K Az (Ae Bd Ab Aa)) (Ak (Av (Ak (Bc Aj (Ai K Az (Ae Bd (Ae Cc Ab Aa) Aa)) (Ak Bh)))))))) A0) (An (Ak (Bc Aj (Ay C__law_number hr.m (Av Ab)) (Ak Bh)))))))))))),?_⟩
  have bg:=big;left;refine .inl ⟨ar,rfl,⟨_,SqL.of eb⟩,λD hD=>?_⟩;refine Np (K:=K) (a:=ar) (xs:=bs) (Pv:=λi ys I H'=>eX3 λk0 k1 ks=>I=[k0,k1,some (.str so)]/\ys=R4 V.str ks/\ks.length<=i/\Same H H') ⟨none,none,[],rfl,rfl,Qn _,Same.upd hD⟩ (λi ys I H' _ ⟨_,_,_,_,_,_,s'⟩=>SqL.of (s' _ _ eb)) ?_ ?_
  ·rintro i y ys I H2 hy Z ⟨k0,k1,ks,rfl,rfl,lk,s2⟩;obtain⟨z,hz,a,rfl,qa⟩:=ag.get hy;refine Du (s2.tup qa) rfl ?_;left;refine Be (λ_=>?_) (λ_=>?_)
   ·left;have ae:(ks.map V.str).length<sizeLine:=by
     have:=(Ps.mp hy).1;rw[Pp];lia
    refine⟨_,Z,ae,_,Ac,_,_,ks++[z.1],rfl,by rw[Qi];rfl,by rw[Pn,Py];lia,s2.over hD⟩
   ·exact⟨_,Z,_,_,ks,rfl,rfl,by lia,s2⟩
  ·rintro ys I H2 Z ⟨k0,k1,ks,rfl,rfl,lk,s2⟩;have U:∀(wd:Str)(nv:V)(H1:Hp),Same H H1->C8 nv=true->Dg wd (.flat nv) 0->∀O,H1 O=none->∀a1,upd H1 O (.tup []) a1=none->Q (.ref a1) (upd (upd H1 O (.tup [])) a1 (.tup [.str wd,nv,.ref O])):=λwd nv H1 s1 hf hw O h0 a1 h1=>by
    have x0:=Same.upd (o:=.tup []) h0;have x1:=Same.upd (o:=.tup [.str wd,nv,.ref O]) h1;exact q _ _ _ (s1.trans (x0.trans x1)) (Zag Ac (x1 _ _ Ac) hf) (Pe hw) (by simp[Tr.size,Bs])
   have ac:=s2 _ _ ad;have nm:∀i:Int,0<=i->i<5->∃x:Str,Cr (ts.map V.str) i=some (.str x):=λi h0 h1=>by
    obtain⟨v,hv,hm⟩:=Kj (xs:=ts.map V.str) h0 (by rw[Pp,af];exact h1);obtain⟨x,_,rfl⟩:=Ro.mp hm;exact⟨x,hv⟩
   left;refine Be (λ_=>?_) (λ_=>?_)
   ·left;refine⟨Bg,λO h0=>?_⟩;left;refine⟨Br,λa1 h1=>?_⟩;exact U "gap" .non H2 s2 rfl Zko O h0 a1 h1
   ·refine s_next ?_;with_reducible refine s_seq ?_
    refine Cv (t:=Cf _ _ _) (R:=λI H'=>I=[some (.int (c / 8)),some (.ref ar),some (.ref pn),some (.str so),some (.int (c % 8)),some (.ref D)]/\H2=H') ?_ ?_;rotate_left
    ·intro Y hY;have go:=hY _ _ ⟨rfl,rfl⟩;left;refine Be (λ_=>?_) (λ_=>?_)
     ·left;refine Cm (SqL.of Z) ?_;left;refine Be (λh=>?_) (λ_=>go);have h:(0:Int)<((ks.map V.str).length:Nat):=of_decide_eq_true h;left;refine Cm (SqL.of Z) ?_;refine s_rI h ?_;obtain⟨v,hv,hm⟩:=Kj (xs:=ks.map V.str) (i:=c / 8 % (((ks.map V.str).length:Nat):Int)) (Qc _ (by lia)) (Qh _ h);obtain⟨x,_,rfl⟩:=Ro.mp hm;refine Bo (SqL.of Z) hv ?_;left;refine⟨Bg,λO h0=>?_⟩;left;refine⟨Br,λa1 h1=>?_⟩;exact U "name" (.str x) H2 s2 rfl Om O h0 a1 h1
     ·exact go
    ·rintro _ _ ⟨rfl,rfl⟩;with_reducible refine s_seq ?_
     refine Cv (t:=Cf _ _ _) (R:=λI H'=>I=[some (.int (c / 8)),some (.ref ar),some (.ref pn),some (.str so),some (.int (c % 8)),some (.ref D)]/\H2=H') ?_ ?_;rotate_left
     ·intro Y hY;have go:=hY _ _ ⟨rfl,rfl⟩;left;refine Be (λ_=>?_) (λ_=>?_)
      ·left;refine Be (λh=>?_) (λ_=>go);obtain⟨x,hx⟩:=nm 4 (by decide) (by decide);left;refine Bo (SqL.of ac) hx ?_;left;refine⟨Bg,λO h0=>?_⟩;left;refine⟨Br,λa1 h1=>?_⟩;exact U "name" (.str x) H2 s2 rfl Om O h0 a1 h1
      ·exact go
     ·rintro _ _ ⟨rfl,rfl⟩;with_reducible refine s_seq ?_
      refine Cv (t:=Cf _ _ _) (R:=λI H'=>I=[some (.int (c / 8)),some (.ref ar),some (.ref pn),some (.str so),some (.int (c % 8)),some (.ref D)]/\H2=H') ?_ ?_;rotate_left
      ·intro Y hY;have go:=hY _ _ ⟨rfl,rfl⟩;left;refine Be (λ_=>?_) (λ_=>?_)
       ·left;refine Be (λh=>?_) (λ_=>go);left;have o0:0<=c / 8 / 3 % 1000:=Qc _ (by decide);have o1:c / 8 / 3 % 1000<10 ^ 18:=Int.lt_of_lt_of_le (Qh _ (by decide)) (by decide);refine Zhc (Zja o0 o1) ?_;have h3:(Qv "=").length=1:=by right
        refine Zba (by rw[h3];have:=Zih o0 o1;lia) ?_;left;refine⟨Bg,λO h0=>?_⟩;left;refine⟨Br,λa1 h1=>?_⟩;exact U "odd" _ H2 s2 rfl Zha O h0 a1 h1
       ·exact go
      ·rintro _ _ ⟨rfl,rfl⟩;left;refine Be (λ_=>?_) (λ_=>?_)
       ·left;refine⟨Bg,λO h0=>?_⟩;left;refine⟨Br,λa1 h1=>?_⟩;exact U "truth" _ H2 s2 rfl Zhk O h0 a1 h1
       ·left;refine Be (λ_=>?_) (λ_=>?_)
        ·obtain⟨x,hx⟩:=nm (c / 8 % 4) (Qc _ (by decide)) (by lia);obtain⟨y,hy⟩:=nm (c / 8 / 4 % 5) (Qc _ (by decide)) (by lia);left;refine Bo (SqL.of ac) hx ?_;left;refine Bo (SqL.of ac) hy ?_;left;refine⟨Bg,λO h0=>?_⟩;have x0:=Same.upd (o:=.tup []) h0;left;refine⟨Br,λa1 h1=>?_⟩;have x1:=Same.upd (o:=.tup [.str "name",.str y,.ref O]) h1;left;refine⟨Dl,λa2 h2=>?_⟩;have x2:=Same.upd (o:=.tup [.ref a1]) h2;left;refine⟨Br,λa3 h3=>?_⟩;have x3:=Same.upd (o:=.tup [.str "fn",.str x,.ref a2]) h3;have aa:=x2.trans x3;refine q _ _ _ (s2.trans (x0.trans (x1.trans aa))) (.mk (SqT.of Ac) (.inl ⟨rfl,rfl⟩) (SqT.of (x3 _ _ Ac)) (ts:=[.mk "name" (.flat (.str y)) []]) rfl λj v t e1 e2=>?_) (.mk w_fn λt ht=>?_) (by simp[Tr.size,Bs])
         ·match j,e1,e2 with
          |0,e1,e2 =>
           cases e1;cases e2;exact Zag (aa _ _ Ac) ((x1.trans aa) _ _ Ac) rfl
         ·rw[P7.mp ht];exact Pe Om
        ·left;refine⟨_,rfl,λz=>?_⟩;left;refine⟨Bg,λO h0=>?_⟩;left;refine⟨Br,λa1 h1=>?_⟩;exact U "num" _ H2 s2 rfl Zkn O h0 a1 h1
noncomputable def W13:List Str:=["gap","num","name","truth","odd","plus","minus","less","call","if","fn","rec","let"]
noncomputable def WV:List V:=[.str "gap",.str "num",.str "name",.str "truth",.str "odd",.str "plus",.str "minus",.str "less",.str "call",.str "if",.str "fn",.str "rec",.str "let"]
noncomputable def N9:List V:=[.int 0,.int 2,.int 2,.int 2,.int 2,.int 3,.int 1,.int 1,.int 2]
theorem Zt6:eX2 λ(j:Nat)(wd:Str)=>j<13/\W13[j]?=some wd/\Cr (W13.map V.str) (z % 13)=some (.str wd)/\(z=0->j=0):=by
 have h0:=Qc z (show(13:Int)≠0 by decide);have h1:=Qh z (show(0:Int)<13 by decide);obtain⟨j,I⟩:∃j:Nat,z % 13=(j:Nat):=⟨(z % 13).toNat,by lia⟩;have hl:j<W13.length:=by show j<13;lia
 refine⟨j,W13[j],by lia,Pj hl,?_,λe=>by rw[e]at I;lia⟩;rw[I];exact Cp (by rw[Ql,Pj hl];rfl)
theorem Zlm:eX2 λ(j:Nat)(wd:Str)=>j<5/\W13[j]?=some wd/\Cr (W13.map V.str) (z % 5)=some (.str wd)/\(z=0->j=0):=by
 have h0:=Qc z (show(5:Int)≠0 by decide);have h1:=Qh z (show(0:Int)<5 by decide);obtain⟨j,I⟩:∃j:Nat,z % 5=(j:Nat):=⟨(z % 5).toNat,by lia⟩;have hl:j<W13.length:=by show j<13;lia
 refine⟨j,W13[j],by lia,Pj hl,?_,λe=>by rw[e]at I;lia⟩;rw[I];exact Cp (by rw[Ql,Pj hl];rfl)
theorem Zm7:∀(j:Nat)(wd:Str),j<13->W13[j]?=some wd->∀m<j,W13[m]?≠some wd:=by
 intro j wd O h m I;have all:(P6 13).all (λj=>(P6 j).all λm=>decide (W13[m]?≠W13[j]?))=true:=by right
 have h1:=Sd.mp all j (Vu.mpr O);have h2:=of_decide_eq_true (Sd.mp h1 m (Vu.mpr I));rw[<- h];exact h2
theorem Zut {j:Nat}{wd:Str}(hj:j<13)(h:W13[j]?=some wd)(h4:wd≠"num"/\wd≠"truth"/\wd≠"name"/\wd≠"odd"):∃k:Nat,Cr N9 (if (0:Int)<((j:Nat):Int)-4 then ((j:Nat):Int)-4 else 0)=some (.int (k:Nat))/\Ha wd=some k/\k<=3/\(j<5->k=0):=by
 have:j=0\/j=1\/j=2\/j=3\/j=4\/j=5\/j=6\/j=7\/j=8\/j=9\/j=10\/j=11\/j=12:=by lia
 have no:∀w:Str,W13[j]?=some w->(w="num"\/w="truth"\/w="name"\/w="odd")->False:=λw e I=>by
  rw[h]at e;injection e with e;subst e;rcases I with e|e|e|e
  ·exact h4.1 e
  ·exact h4.2.1 e
  ·exact h4.2.2.1 e
  ·exact h4.2.2.2 e
 rcases this with rfl|rfl|rfl|rfl|rfl|rfl|rfl|rfl|rfl|rfl|rfl|rfl|rfl
 ·cases h;exact⟨0,rfl,by right,by decide,λ_=>rfl⟩
 ·exact(no _ rfl (.inl rfl)).elim
 ·exact(no _ rfl (.inr (.inr (.inl rfl)))).elim
 ·exact(no _ rfl (.inr (.inl rfl))).elim
 ·exact(no _ rfl (.inr (.inr (.inr rfl)))).elim
 ·cases h;exact⟨2,rfl,by right,by decide,λh=>absurd h (by decide)⟩
 ·cases h;exact⟨2,rfl,by right,by decide,λh=>absurd h (by decide)⟩
 ·cases h;exact⟨2,rfl,by right,by decide,λh=>absurd h (by decide)⟩
 ·cases h;exact⟨2,rfl,by right,by decide,λh=>absurd h (by decide)⟩
 ·cases h;exact⟨3,rfl,by right,by decide,λh=>absurd h (by decide)⟩
 ·cases h;exact⟨1,rfl,by right,by decide,λh=>absurd h (by decide)⟩
 ·cases h;exact⟨1,rfl,by right,by decide,λh=>absurd h (by decide)⟩
 ·cases h;exact⟨2,rfl,by right,by decide,λh=>absurd h (by decide)⟩
theorem _root_.L2.Same.r (e:Same H H')(a:Addr):SameR a H H':=λb o _ h=>e b o h
theorem SameR.trans (x:SameR a H H1)(y:SameR a H1 H2):SameR a H H2:=λb o n h=>y b o n (x b o n h)
theorem SameR.over (x:SameR a H H1)(h:H p=none):SameR a H (upd H1 p o):=λb o' n hb=>by
 have:b≠p:=λz=>by rw[z,h]at hb;cases hb
 rw[Af this];exact x b o' n hb
theorem SameR.t (x:SameR a H H')(h:H a=some (.lst xs)):SameT H H':=λb=>by
 exact⟨λxs hb=>x b _ (λz=>by rw[z,h]at hb;cases hb) hb,λo u hb=>x b _ (λz=>by rw[z,h]at hb;cases hb) hb⟩
theorem SameR.free (e:SameR a H H')(n:x≠a)(h:H' x=none):H x=none:=by
 cases q:H x with
 |none=>rfl
 |some o=>rw[e x o n q]at h;cases h
inductive AnyJ (K:Ph)(a pn pp:Addr)(ts:List Str)(n1:Nat)(H H5:Hp)(st:Option V->St)(i:Nat)(σ:St)(H':Hp):Prop
 |mk (vk:Option V) (pv:List V) (pt:List Tr) (cs2:List Int) (_:σ=st vk) (_:H' pp=some (.lst pv)) (_:Al (TrAt K H') pv pt) (_:∀t∈pt,Tf t) (_:pt.length=i) (_:H' a=some (.lst (cs2.map V.int))) (_:cs2.length<=n1) (_:Bs pt+3*cs2.length<=i+3*n1) (_:SameR a H H') (_:SameT H5 H') (_:H' pn=some (.lst (ts.map V.str)))
def Jq (K:Ph)(n:Nat):Sp:=λvs H Q _=>eX5 λ(a pn:Addr)(ts:List Str)(cs:List Int)(dp:Nat)=>vs=[.ref a,.ref pn,.int (dp:Nat)]/\dp<n/\H a=some (.lst (cs.map V.int))/\cs.length<=63/\H pn=some (.lst (ts.map V.str))/\pn≠a/\ts.length=5 /\
 ∀(v:V)(t:Tr)(H':Hp)(cs':List Int),SameR a H H'->H' a=some (.lst (cs'.map V.int))->cs'.length<=cs.length->TrAt K H' v t->Tf t->t.size+3*cs'.length<=1+3*cs.length->Q v H'
theorem E7:Bb ["_law_cells","_law_names_here","_law_deep","_law_cell_here","_law_rest","_law_some","_law_word","_law_note","_law_many","_law_parts","_law_k"] pM (A5 L0):=by walk_at "sc"
theorem Zo8 (F:Fun K "_law_any" "_law_any" L0 f fd)(T:Txt K mg)(C__law_any:Ba P w K mg base (n+1) "_law_any" ["_law_cells","_law_names_here","_law_deep"] (Jq K n)):FnOk P w K mg base Aq (n+2) f fd pM (Jq K (n+1)):=by
 refine F.okq E7 (λvs H Q E h=>?_) (λch A outer s H vs Q E hr h=>?_)
 ·obtain⟨a,pn,ts,cs,dp,rfl,_⟩:=h;rfl
 ·obtain⟨a,pn,ts,cs,dp,rfl,cf,ea,lc,bq,av,lt,q⟩:=h;refine⟨_,Ad (Ao 3 E7 Aa)
   (Ad (Ax (Bp Hd (Bz K T.len Ab) Aa) (A3 (Ao 3 E7 (Mf K Pu Tz T1 M9 Ab))) A0) (Ad (Ao 4 E7 (Ae Cc A9 Aa)) (Ad (Ao 5 E7 (Bk (Il (xs:=[.str "gap",.str "num",.str "name",.str "truth",.str "odd",.str "plus",.str "minus",.str "less",.str "call",.str "if",.str "fn",.str "rec",.str "let"]) rfl))) (Ad (Ao 6 E7 (Ai K (qv 5) (Ae Bd A9 Aa))) (Ad (Ax (Bj K hr Az Aa) (A3 (Ao 6 E7 (Ai K (qv 5) (Ae Bd A9 Aa)))) A0) (Ad (Ax (Bj K hr (qv 6) Aj) (An (Ak (Bc (qv 6) (Ae Bd A6 (Ae Ka Aa Aa)) (Ak Bh)))) A0) (Ad (Ax (Bj K hr (qv 6) Aj) (An (Ak (Bc (qv 6) (E6 K hr (Ae Bd A6 Aa) Aa) (Ak Bh)))) A0) (Ad (Ax (Bj K hr (qv 6) Aj) (An (Ak (Bc (qv 6) (Ai K Ag (Ae Bd A6 (Bz K T.len Ag))) (Ak Bh)))) A0) (Ad (Ax (Bj K hr (qv 6) Aj) (An (Ak (Bc (qv 6) (Ae (B5 K) Aj (D5 Zir T.str (Av (Ae Bd A6 (Ae Ka Aa Aa))))) (Ak Bh)))) A0) (Ad (Ao 7 E7 Hc) (Ad (Ax (QW.qt (Ds (Bj K hr (qv 6) Aj) (D7 (Bj K hr (qv 6) Aj)))) (A3 (Ao 7 E7 (Ai K Ag (Ae Bd A6 (Bz K T.len Ag))))) A0) (Ad (Ax (Bj K hr (qv 6) Aj) (A3 (Ao 7 E7 (Ak (Ah (Ai K Ag (Ae Bd A6 (Bz K T.len Ag))) (Ai K Ag (Ae Bd (Ae Cc A6 (Bz K T.len Ag)) (Bz K T.len Ag))))))) A0) (Ad (Ao 8 E7 (Ai K (Bk (Il (xs:=[.int 0,.int 2,.int 2,.int 2,.int 2,.int 3,.int 1,.int 1,.int 2]) rfl)) (B1 (Zr7 rfl) T.max (Ah Aa (Ae D9 (Co K Pu PySem.F.slot_list_index PySem.F.type_list_index (Ztv K) (qv 5) (Av (qv 6))) Aa))))) (Ad (Ao 9 E7 (Bk Bh)) (Ad (Dw Qk rfl (He rfl T.range (Av (qv 8))) (Da 10 E7) (A3 (Bx (Co K Pu Qd Qe C0 (qv 9) (Av (Ay C__law_any (hr.mono (by lia)) (Bc Ab Ag (Ae D9 Az Aa)))))))) (An (Ak (Bc (qv 6) (qv 7) (D5 (Zf1 K) T.tuple (Av (qv 9))))))))))))))))))))),?_⟩
  have bg:=big;have nm:∀i:Int,0<=i->i<5->∃x:Str,Cr (ts.map V.str) i=some (.str x):=λi h0 h1=>by
   obtain⟨v,hv,hm⟩:=Kj (xs:=ts.map V.str) h0 (by rw[Pp,lt];exact h1);obtain⟨x,_,rfl⟩:=Ro.mp hm;exact⟨x,hv⟩
  have ad:((ts.map V.str).length:Int)=5:=by rw[Pp,lt];rfl
  walk_at "r1";walk_at "r1";walk_at "r1";refine s_gname ?_;with_reducible refine s_seq ?_
  refine Cv (t:=Cf _ _ _) (R:=λU H'=>eX2 λ(z:Int)(Z:List Int)=>U=[some (.ref a),some (.ref pn),some (.int (dp:Nat)),some (.int z),none,none,none,none,none,none,none]/\SameR a H H'/\H' a=some (.lst (Z.map V.int))/\((Z.length+1=cs.length)\/(Z.length=cs.length/\z=0))) ?_ ?_;rotate_left
  ·intro Y hY;left;refine Cm (SqL.of ea) ?_;left;refine Be (λh=>?_) (λ_=>?_)
   ·have h:(0:Int)<((cs.map V.int).length:Nat):=of_decide_eq_true h;rcases List.eq_nil_or_concat cs with e|⟨b4,z,e⟩
    ·rw[e]at h;exact absurd h (by decide)
    ·rw[List.concat_eq_append]at e;subst e;rw[Qi]at ea;left;refine B6 (SqL.of ea) ?_;refine K8 ea ?_;exact hY _ _ ⟨z,b4,rfl,λb o nb hb=>by rw[Af nb];exact hb,Ac,.inl (by simp)⟩
   ·exact hY _ _ ⟨0,cs,rfl,λb o _ hb=>hb,ea,.inr ⟨rfl,rfl⟩⟩
  rintro _ H1 ⟨z,Z,rfl,r1,e1,b3⟩;have bh:=r1 _ _ av bq;left;refine⟨sz13,λps an=>?_⟩;have s2:=Same.upd (o:=.lst WV) an;have e2:upd H1 ps (.lst WV) ps=some (.lst WV):=Ac;have a9:ps≠a:=λx=>by rw[x,e1]at an;cases an
  have cc:H ps=none:=r1.free a9 an;have r2:=r1.trans (s2.r a);have am:=s2 _ _ e1;have I:=s2 _ _ bh;revert s2 e2 r2 am I;unfold WV;generalize upd H1 ps _=H2;intro s2 e2 r2 am I;have e2:H2 ps=some (.lst (W13.map V.str)):=e2;obtain⟨j0,b6,a7,bo,be,a6⟩:=Zt6 (z:=z);left;refine Bo (SqL.of e2) be ?_;refine s_gname ?_;with_reducible refine s_seq ?_
  refine Cv (t:=Cf _ _ _) (R:=λU H'=>eX2 λ(j:Nat)(wd:Str)=>U=[some (.ref a),some (.ref pn),some (.int (dp:Nat)),some (.int z),some (.int (z / 13)),some (.ref ps),some (.str wd),none,none,none,none]/\H2=H'/\j<13/\W13[j]?=some wd/\(z=0->j=0)/\(dp=0->j<5)) ?_ ?_;rotate_left
  ·intro Y hY;left;refine Be (λh=>?_) (λh=>?_)
   ·obtain⟨j,wd,h1,h2,h3,h4⟩:=Zlm (z:=z);left;refine Bo (SqL.of e2) h3 ?_;exact hY _ _ ⟨j,wd,rfl,rfl,by lia,h2,h4,λ_=>h1⟩
   ·exact hY _ _ ⟨j0,b6,rfl,rfl,a7,bo,a6,λe=>absurd (decide_eq_true (show V.int ((dp:Nat):Int)=.int 0 by rw[e];rfl)) h⟩
  rintro _ _ ⟨j,wd,rfl,rfl,hj,hw,bu,bx⟩;clear bo be a6 a7;have leaf:∀(O:V)(H3:Hp),Same H2 H3->C8 O=true->Dg wd (.flat O) 0->∀a0,H3 a0=none->∀a1,upd H3 a0 (.tup []) a1=none->Q (.ref a1) (upd (upd H3 a0 (.tup [])) a1 (.tup [.str wd,O,.ref a0])):=λO H3 s3 hf ay a0 h0 a1 h1=>by
   have x0:=Same.upd (o:=.tup []) h0;have x1:=Same.upd (o:=.tup [.str wd,O,.ref a0]) h1;have x:=s3.trans (x0.trans x1);exact q _ _ _ Z (r2.trans (x.r a)) (x _ _ am) (by lia) (Zag Ac (x1 _ _ Ac) hf) (Pe ay) (by rw[show(Tr.mk wd (.flat O) []).size=1 by simp[Tr.size,Bs]];lia)
  have bf:(10:Int) ^ Int.toNat 18=1000000000000000000:=by decide
  left;rw[Bq];refine Be (λh=>?_) (λac=>?_)
  ·have h:=of_decide_eq_true h;left;rw[bf];generalize z / 13 % 1000000000000000000=i;refine⟨Bg,λa0 h0=>?_⟩;left;refine⟨Br,λa1 h1=>?_⟩;exact leaf (.int i) H2 (Same.refl _) rfl (by rw[h];exact Zkn) a0 h0 a1 h1
  left;rw[Bq];refine Be (λh=>?_) (λag=>?_)
  ·have h:=of_decide_eq_true h;left;refine⟨Bg,λa0 h0=>?_⟩;left;refine⟨Br,λa1 h1=>?_⟩;exact leaf (.bl _) H2 (Same.refl _) rfl (by rw[h];exact Zhk) a0 h0 a1 h1
  left;rw[Bq];refine Be (λh=>?_) (λbj=>?_)
  ·have h:=of_decide_eq_true h;left;refine Cm (SqL.of I) ?_;rw[ad];refine s_rI (by decide) ?_;obtain⟨x,hx⟩:=nm (z / 13 % 5) (Qc _ (by decide)) (Qh _ (by decide));refine Bo (SqL.of I) hx ?_;left;refine⟨Bg,λa0 h0=>?_⟩;left;refine⟨Br,λa1 h1=>?_⟩;exact leaf (.str x) H2 (Same.refl _) rfl (by rw[h];exact Om) a0 h0 a1 h1
  left;rw[Bq];refine Be (λh=>?_) (λa5=>?_)
  ·have h:=of_decide_eq_true h;left;rw[bf];have o0:0<=z / 13 % 1000000000000000000:=Qc _ (by decide);have o1:z / 13 % 1000000000000000000<10 ^ 18:=Int.lt_of_lt_of_le (Qh _ (by decide)) (by decide);revert o0 o1;generalize z / 13 % 1000000000000000000=i;intro o0 o1;refine Zhc (Zja o0 o1) ?_;have h3:(Qv "=").length=1:=by right
   refine Zba (by rw[h3];have:=Zih o0 o1;lia) ?_;left;refine⟨Bg,λa0 h0=>?_⟩;left;refine⟨Br,λa1 h1=>?_⟩;exact leaf (.str _) H2 (Same.refl _) rfl (by rw[h];exact Zha) a0 h0 a1 h1
  have h4:wd≠"num"/\wd≠"truth"/\wd≠"name"/\wd≠"odd":=⟨λx=>ac (decide_eq_true x),λx=>ag (decide_eq_true x),λx=>bj (decide_eq_true x),λx=>a5 (decide_eq_true x)⟩;clear ac ag bj a5 leaf;obtain⟨k,hk,aq,k3,ba⟩:=Zut hj hw h4;walk_at "r1";walk_at "r1";walk_at "r1";walk_at "r1";refine s_gname ?_;obtain⟨x0,au⟩:=nm (z / 13 % 5) (Qc _ (by decide)) (Qh _ (by decide));obtain⟨x1,b7⟩:=nm (z / 13 / 5 % 5) (Qc _ (by decide)) (Qh _ (by decide));with_reducible refine s_seq ?_
  refine Cv (t:=Cf _ _ _) (R:=λU H'=>∃O:V,U=[some (.ref a),some (.ref pn),some (.int (dp:Nat)),some (.int z),some (.int (z / 13)),some (.ref ps),some (.str wd),some O,none,none,none]/\H2=H'/\((wd="fn"\/wd="let")->O=.str x0)/\(¬(wd="fn"\/wd="let")->O=.non)) ?_ ?_;rotate_left
  ·intro Y hY;left;rw[Bq];refine Be (λh=>?_) (λh1=>?_)
   ·left;refine Cm (SqL.of I) ?_;rw[ad];refine s_rI (by decide) ?_;refine Bo (SqL.of I) au ?_;exact hY _ _ ⟨_,rfl,rfl,λ_=>rfl,λx=>absurd (.inl (of_decide_eq_true h)) x⟩
   left;rw[Bq];refine Be (λh=>?_) (λh2=>?_)
   ·left;refine Cm (SqL.of I) ?_;rw[ad];refine s_rI (by decide) ?_;refine Bo (SqL.of I) au ?_;exact hY _ _ ⟨_,rfl,rfl,λ_=>rfl,λx=>absurd (.inr (of_decide_eq_true h)) x⟩
   ·exact hY _ _ ⟨_,rfl,rfl,λx=>x.elim (λx=>absurd (decide_eq_true x) h1) (λx=>absurd (decide_eq_true x) h2),λ_=>rfl⟩
  rintro _ _ ⟨O,rfl,rfl,ac,ag⟩;with_reducible refine s_seq ?_
  refine Cv (t:=Cf _ _ _) (R:=λU H'=>eX2 λ(O:V)(d:Dt)=>U=[some (.ref a),some (.ref pn),some (.int (dp:Nat)),some (.int z),some (.int (z / 13)),some (.ref ps),some (.str wd),some O,none,none,none]/\Same H2 H'/\IsN K H' O d/\Dg wd d k) ?_ ?_;rotate_left
  ·intro Y hY;left;rw[Bq];refine Be (λh=>?_) (λh1=>?_)
   ·have h:=of_decide_eq_true h;left;refine Cm (SqL.of I) ?_;rw[ad];refine s_rI (by decide) ?_;refine Bo (SqL.of I) au ?_;left;refine Cm (SqL.of I) ?_;rw[ad];refine s_rI ⟨by decide,by decide⟩ ?_;left;refine Cm (SqL.of I) ?_;rw[ad];refine s_rI (by decide) ?_;refine Bo (SqL.of I) b7 ?_;left;refine⟨Bt,λa3 h3=>?_⟩;have s3:=Same.upd (o:=.tup [.str x0,.str x1]) h3;refine hY _ _ ⟨_,.tup [.flat (.str x0),.flat (.str x1)],rfl,s3,.inr ⟨a3,[.str x0,.str x1],rfl,SqT.of Ac,rfl,rfl⟩,?_⟩;have bt:k=1:=by rw[h,show Ha "rec"=some 1 by right]at aq;exact(Qg aq).symm
    rw[h,bt];exact Zfd
   ·refine hY _ _ ⟨O,.flat O,rfl,Same.refl _,?_,Hv aq ⟨h4.1,h4.2.1,h4.2.2.1⟩ ?_⟩
    ·by_cases e:wd="fn"\/wd="let"
     ·rw[ac e];exact .inl ⟨rfl,rfl⟩
     ·rw[ag e];exact .inl ⟨rfl,rfl⟩
    ·exact⟨λe=>⟨x0,by rw[ac e]⟩,λe=>absurd (decide_eq_true e) h1⟩
  clear ac ag O;rintro _ H3 ⟨O,d,rfl,s3,b5,ay⟩;have e3:=s3 _ _ e2;have cb:=s3 _ _ am;have bi:=s3 _ _ I;left;refine⟨sz9,λa4 b9=>?_⟩;have s4:=Same.upd (o:=.lst N9) b9;have e4:upd H3 a4 (.lst N9) a4=some (.lst N9):=Ac;have ak:=s4 _ _ e3;revert s4 e4 ak;unfold N9;generalize upd H3 a4 _=H4;intro s4 e4 ak;left;refine B6 (SqL.of ak) ?_;left;refine⟨ps,wd,W13,j,rfl,rfl,SqL.of ak,hw,Zm7 j wd hj hw,by decide,?_⟩;left;refine⟨_,_,rfl,?_⟩;refine Bo (SqL.of e4) hk ?_;have br:=s3.trans s4;have bb:=s4 _ _ cb;have ap:=s4 _ _ bi;have a8:=b5.same s4.t;left;refine⟨Bg,λpp aa=>?_⟩;have s5:=Same.upd (o:=.lst []) aa;have e5:upd H4 pp (.lst []) pp=some (.lst []):=Ac;have ae:pp≠a:=λx=>by rw[x,bb]at aa;cases aa
  have r4:=r2.trans (br.r a);have bn:H pp=none:=r4.free ae aa;have r5:=r4.trans (s5.r a);have ax:=s5 _ _ bb;have ah:=s5 _ _ ap;have ai:=a8.same s5.t;have b8:pn≠pp:=λx=>by rw[<- x,ap]at aa;cases aa
  revert s5 e5 r5 ax ah ai;generalize upd H4 pp (.lst [])=H5;intro s5 e5 r5 ax ah ai;left;refine⟨by lia,by lia,?_⟩;refine Gu (n:=((k:Nat):Int).toNat) (AnyJ K a pn pp ts Z.length H H5 λvk=>[some (.ref a),some (.ref pn),some (.int (dp:Nat)),some (.int z),some (.int (z / 13)),some (.ref ps),some (.str wd),some O,some (.int (k:Nat)),some (.ref pp),vk])
   ⟨_,[],[],Z,rfl,e5,.nil,(λt h=>nomatch h),rfl,ax,Pl _,by rw[Bs];lia,r5,(Same.refl H5).t,ah⟩ ?_ ?_
  ·rintro i U H6 hi ⟨vk,pv,pt,as,rfl,e6,ao,aw,l6,aj,bv,z6,r6,t6,af⟩;have cg:0<k:=by lia
   have ce:1<=dp:=by
    by_cases e:dp=0
    ·have:=ba (bx e);lia
    ·lia
   obtain⟨dq,rfl⟩:∃dq,dp=dq+1:=⟨dp-1,by lia⟩;left;refine B6 (SqL.of e6) ?_;left;refine⟨a,pn,ts,as,dq,by rw[show(((dq+1:Nat):Int)-1)=((dq:Nat):Int) by lia];rfl,by lia,aj,by lia,af,av,lt,λv t H7 ca r7 bw ci ht bp sz=>?_⟩;have e7:=r7 _ _ ae e6;left;refine Cw e7 (by have:=ao.1;lia) ?_;have t7:=r7.t aj;have tp:=SameT.set (o:=.lst (pv++[v])) e7;have t8:=t7.trans tp;refine⟨_,pv++[v],pt++[t],ca,rfl,Ac,(ao.mono λ_ _ h=>h.sameT t8).snoc (ht.sameT tp),λx hx=>?_,by rw[Pn,Py];lia,by rw[Af ae.symm];exact bw,by lia,by rw[Zg1,Bs,Bs];lia,(r6.trans r7).over bn,t6.trans t8,by rw[Af b8];exact r7 _ _ av af⟩;rcases Q4.mp hx with hx|hx
   ·exact aw x hx
   ·rw[P7.mp hx];exact bp
  ·rintro U H6 ⟨vk,pv,pt,as,rfl,e6,ao,aw,l6,aj,bv,z6,r6,t6,af⟩;left;refine Zhf (SqL.of e6) λp7 h7=>?_;have s7:=Same.upd (o:=.tup pv) h7;left;refine⟨Br,λp8 h8=>?_⟩;have s8:=Same.upd (o:=.tup [.str wd,O,.ref p7]) h8;have al:=s7.trans s8;have b0:pt.length=k:=by lia
   refine q (.ref p8) (.mk wd d pt) _ as (r6.trans (al.r a)) (al _ _ aj) (by lia) (Zb2 Ac ((ai.same t6).same al.t) (s8 _ _ Ac) (ao.mono λ_ _ h=>h.same al)) (.mk (by rw[b0];exact ay) aw) ?_;rw[Tr.size];rcases b3 with hc|⟨hc,hz⟩
   ·lia
   ·have:=ba (by rw[bu hz];decide);lia
theorem Zie (c:Int):∃so:Str,Cr [V.str "num",.str "truth",.str "fun"] (c % 3)=some (.str so):=by
 rcases (show c % 3=0\/c % 3=1\/c % 3=2 by lia) with h|h|h <;> rw[h] <;> exact⟨_,rfl⟩
theorem Dz:Bb ["_law_cells","_law_around","_law_names_here","_law_room","_law_sort","_law_cell_here","_law_pick","_law_one","_law_rest","_law_name","_law_kind","_law_first","_law_other","_law_more","_law_word"] pE (A5 Mx):=by walk_at "sc"
theorem Zpd (F:Fun K "_law_form" "_law_form" Mx f fd)(T:Txt K mg)(C__law_mixed:Ba P w K mg base 1 "_law_mixed" ["_law_cell_here","_law_k"] Mv)(C__law_end:Ba P w K mg base 2 "_law_end" ["_law_cell_here","_law_around","_law_names_here","_law_sort"] (Zaq K))(C__law_form:Ba P w K mg base (n+3) "_law_form" ["_law_cells","_law_around","_law_names_here","_law_room","_law_sort"] (Js K n)):FnOk P w K mg base Aq (n+4) f fd pE (Js K (n+1)):=by
 refine F.okq Dz (λvs H Q E h=>?_) (λbh A outer s H vs Q E hr h=>?_)
 ·obtain⟨a,ar,pn,ts,m,I,so,rfl,_⟩:=h;rfl
 ·obtain⟨a,ar,pn,ts,m,I,so,rfl,S0,hm,h1,hn,q⟩:=h;refine⟨_,Ad (Ao 5 Dz Aa)
   (Ad (Ax (Bp Hd (Bz K T.len Ab) Aa) (A3 (Ao 5 Dz (Mf K Pu Tz T1 M9 Ab))) A0) (Ad (Ao 6 Dz (Ae Bd (qv 5) Aa)) (Ad (Ao 5 Dz (Ay C__law_mixed (hr.mono (by lia)) (Ah (qv 5) (Bz K T.len Ab)))) (Ad (Ax (Bj K hr (qv 6) Aa) (A3 (Ao 4 Dz (Ai K (Bk (Bc Aj Aj Aj)) (Ae Bd (qv 5) Aa)))) A0) (Ad (Ax (QW.qt (Ds (Bp Ey A9 Aa) (D7 (Bp Ey (qv 6) Aa)))) (An (Ay C__law_end (hr.mono (by lia)) (Dh (qv 5) Ag Az A6))) A0) (Ad (Ao 7 Dz (Ae (B5 K) Aa (Ae Bd (qv 5) (Ae D9 A9 Aa)))) (Ad (Ao 8 Dz (Ae D9 (Ae D9 A9 Aa) (qv 7))) (Ad (Ao 9 Dz (Ai K Az (Ae Bd (Ae Cc (qv 5) Aa) Aa))) (Ad (Ax (Bp Ey (qv 6) Aa) (Ad (Ao 10 Dz (Ai K (Bk (Bc Aj Aj Aj)) (Ae Bd (Ae Cc (qv 5) Aa) Aa))) (Ad (Ao 11 Dz (Ay C__law_form (hr.mono (by lia)) (E1 Ab Ag Az (qv 7) (qv 10)))) (An (Ak (Bc Aj (qv 9) (Ak (Ah (qv 11) (Ay C__law_form (hr.mono (by lia)) (E1 Ab (Ae (B5 K) Ag (Bk (Av (Ak (Ah (qv 9) (qv 10)))))) Az (qv 8) A6))))))))) A0) (Ad (Ax (Bp Ey (qv 6) Aa) (Ad (Ao 11 Dz (Ay C__law_form (hr.mono (by lia)) (E1 Ab Ag Az (qv 7) Aj))) (Ad (Ao 12 Dz (Ay C__law_form (hr.mono (by lia)) (E1 Ab Ag Az (Ae Cc (Ae (B5 K) (qv 8) Aa) Aa) A6))) (An (Ak (Bc Aj Hc (Ak (Bc (qv 11) (qv 12) (Ay C__law_form (hr.mono (by lia)) (E1 Ab Ag Az (Ae Cc (Ae (B5 K) (qv 8) Aa) Aa) A6))))))))) A0) (Ad (Ax (QW.qt (Eg (Bj K hr A6 Aj) (Ec (Bp Ey (qv 6) Aa)))) (An (Ak (Bc Aj (qv 9) (Ak (Av (Ay C__law_form (hr.mono (by lia)) (E1 Ab (Ae (B5 K) Ag (Bk (Av (Ak (Ah (qv 9) Aj))))) Az (Ae D9 A9 Aa) Aj))))))) A0) (Ad (Ax (Bj K hr A6 Aj) (Ad (Ao 13 Dz (Ae (B5 K) Ag (Bk (Ah (Ak (Ah (Ai K Az (Ae Bd (Ae Cc (qv 5) Aa) Aa)) Aj)) (Ak (Ah (qv 9) Aj)))))) (An (Ak (Bc Aj (Ak (Ah (Ai K Az (Ae Bd (Ae Cc (qv 5) Aa) Aa)) (qv 9))) (Ak (Av (Ay C__law_form (hr.mono (by lia)) (E1 Ab (qv 13) Az (Ae D9 A9 Aa) Aj)))))))) A0) (Ad (Ax (QW.qt (Eg (Bj K hr A6 Aj) (Ec (Bp Hd (qv 6) Aa)))) (Ad (Ao 11 Dz (Ay C__law_form (hr.mono (by lia)) (E1 Ab Ag Az (qv 7) Aj))) (An (Ak (Bc Aj Hc (Ak (Ah (qv 11) (Ay C__law_form (hr.mono (by lia)) (E1 Ab Ag Az (qv 8) Aj)))))))) A0) (Ad (Ao 14 Dz Aj) (Ad (Ax (Bj K hr A6 Aj) (A3 (Ao 14 Dz (Ai K (Bk (Bc Aj Aj Aj)) (Ae D9 (qv 6) Aa)))) A0) (Ad (Ao 11 Dz (Ay C__law_form (hr.mono (by lia)) (E1 Ab Ag Az (qv 7) Aj))) (An (Ak (Bc (qv 14) Hc (Ak (Ah (qv 11) (Ay C__law_form (hr.mono (by lia)) (E1 Ab Ag Az (qv 8) Aj))))))))))))))))))))))),?_⟩
  have bg:=big;with_reducible refine s_seq ?_
  with_reducible refine s_asg ?_
  with_reducible refine s_c ?_
  refine s_gname ?_;with_reducible refine s_seq ?_
  refine Cv (t:=Cf _ _ _) (R:=λae H'=>∃z:Int,ae=[some (.ref a),some (.ref ar),some (.ref pn),some (.int (I:Nat)),some (.str so),some (.int z),none,none,none,none,none,none,none,none,none]/\FR a H H') ?_ ?_;rotate_left
  ·intro Y hY;obtain⟨cs,ea,lc⟩:=S0.e;left;refine Cm (SqL.of ea) ?_;left;refine Be (λh=>?_) (λ_=>?_)
   ·have h:(0:Int)<((cs.map V.int).length:Nat):=of_decide_eq_true h;rcases List.eq_nil_or_concat cs with e|⟨ax,z,e⟩
    ·rw[e]at h;exact absurd h (by decide)
    ·rw[List.concat_eq_append]at e;subst e;rw[Qi]at ea;rw[Pn]at lc;left;refine B6 (SqL.of ea) ?_;refine K8 ea ?_;exact hY _ _ ⟨z,rfl,λb o nb hb=>by rw[Af nb];exact hb,ax,Ac,by lia⟩
   ·exact hY _ _ ⟨0,rfl,FR.refl S0⟩
  ·rintro _ H1 ⟨z,rfl,r1⟩;have S1:=S0.step r1;obtain⟨bf,ba,bb⟩:=r1.e;left;refine Cm (SqL.of ba) ?_;left;refine⟨z,_,rfl,by lia,by rw[Pp];lia,λc _ _=>?_⟩;refine s_gname ?_;with_reducible refine s_seq ?_
   refine Cv (t:=Cf _ _ _) (R:=λae H'=>∃Z:Str,ae=[some (.ref a),some (.ref ar),some (.ref pn),some (.int (I:Nat)),some (.str Z),some (.int c),some (.int (z % 13)),none,none,none,none,none,none,none,none]/\FR a H H') ?_ ?_;rotate_left
   ·intro Y hY;left;refine Be (λ_=>?_) (λ_=>?_)
    ·left;refine⟨Br,λa2 h2=>?_⟩;obtain⟨Z,a0⟩:=Zie c;left;refine Bo (SqL.of Ac) a0 ?_;exact hY _ _ ⟨Z,rfl,r1.put (Same.upd h2)⟩
    ·exact hY _ _ ⟨so,rfl,r1⟩
   ·rintro _ H2 ⟨Z,rfl,r2⟩;have S2:=S0.step r2;have aw:∀H3 v t,FR a H2 H3->TrAt K H3 v t->Tf t->t.size<=2->Q v H3:=λH3 v t r3 ht tf hz=>q v t H3 (r2.trans r3) ht tf (by lia);have aj:Zaq K [.int c,.ref ar,.ref pn,.str Z] H2 Q E0:=⟨c,ar,pn,Z,ts,m,rfl,S2.bd,by lia,S2.hp,S2.lt,λv t H3 s3 ht tf hz=>aw H3 v t ((FR.refl S2).put s3) ht tf hz⟩;left;refine Be (λ_=>?_) (λh3=>?_)
    ·left;exact aj
    have h3:3<=I:=by
     by_cases y:(I:Int)<3
     ·exact absurd (decide_eq_true y) h3
     ·lia
    left;refine Be (λ_=>?_) (λ_=>?_)
    ·left;exact aj
    left;refine s_rI (by show(0:Int)<(I:Int)-2;lia) ?_;left;obtain⟨k1,au,bj,bp⟩:∃k:Nat,1+c % ((I:Int)-2)=(k:Int)/\1<=k/\k+2<=I:=by
     have y0:=Qc c (show(I:Int)-2≠0 by lia);have y1:=Qh c (show(0:Int)<(I:Int)-2 by lia);exact⟨(1+c % ((I:Int)-2)).toNat,by lia,by lia,by lia⟩
    rw[au];obtain⟨k2,as,bi⟩:∃k:Nat,(I:Int)-1-(k1:Int)=(k:Int)/\k1+k+1=I:=⟨I-1-k1,by lia,by lia⟩;rw[as];obtain⟨x,hx⟩:=S2.nm (i:=c / 7 % 4) (Qc _ (by decide)) (by lia);refine Bo (SqL.of S2.hp) hx ?_;left;refine Be (λ_=>?_) (λ_=>?_)
    ·left;refine⟨Br,λa3 h3=>?_⟩;obtain⟨ki,aq⟩:=Zie (c / 3);have r3:=(FR.refl S2).put (Same.upd (o:=.lst [.str "num",.str "truth",.str "fun"]) h3);left;refine Bo (SqL.of Ac) aq ?_;revert r3;generalize upd H2 a3 (.lst [.str "num",.str "truth",.str "fun"])=H3;intro r3;left;refine⟨a,ar,pn,ts,m,k1,ki,rfl,S2.step r3,by lia,by lia,by lia,λv1 t1 H4 r4 aa ad z1=>?_⟩;have an:=r3.trans r4;have S4:=S2.step an;obtain⟨bs,zs,b1,b2,b3⟩:=S4.bd;left;refine⟨Bt,λU h5=>?_⟩;left;refine⟨Dl,λa6 h6=>?_⟩;have s5:=Same.upd (o:=.tup [.str x,.str ki]) h5;have s6:=Same.upd (o:=.lst [.ref U]) h6;have O:=s5.trans s6;have e5:=s6 _ _ (show upd H4 U (.tup [.str x,.str ki]) U=some (.tup [.str x,.str ki]) from Ac);have e6:upd (upd H4 U (.tup [.str x,.str ki])) a6 (.lst [.ref U]) a6=some (.lst [.ref U]):=Ac;revert O e5 e6;generalize upd (upd H4 U (.tup [.str x,.str ki])) a6 (.lst [.ref U])=H6;intro O e5 e6;refine Iq (O _ _ b1) e6 (by show bs.length+1<=sizeLine;lia) λa7 h7=>?_;have S7:=(S4.step ((FR.refl S4).put O)).more (O _ _ b1) (b2.mono (PrW.same O.t)) b3 (ms:=[.ref U]) (ws:=[(x,ki)]) (Al.nil.snoc ⟨U,rfl,SqT.of e5⟩) rfl h7;have ak:=((FR.refl S4).put O).put (Same.upd (o:=.lst (bs++[.ref U])) h7);revert S7 ak;generalize upd H6 a7 (.lst (bs++[.ref U]))=H7;intro S7 ak;left;refine⟨a,a7,pn,ts,m+1,k2,Z,rfl,S7,by lia,by lia,by lia,λv2 t2 H8 r8 ag af z2=>?_⟩;have ao:=ak.trans r8;left;refine⟨Bt,λp9 h9=>?_⟩;left;refine⟨Br,λb9 ac=>?_⟩;obtain⟨R,TR⟩:=laid (us:=[v1,v2]) (ts:=[t1,t2]) (wd:="let") (nv:=.str x) (n:=.flat (.str x)) (r2.trans (an.trans ao)) (.inl ⟨rfl,rfl⟩) ((Al.nil.snoc (aa.sameT (ao.t S4.e))).snoc ag) h9 ac;exact q _ _ _ R TR (N8 Zk8 ad af) (by rw[Zbp];lia)
    obtain⟨kr,al,bn⟩:∃k:Nat,(I:Int)-1=(k:Int)/\k+1=I:=⟨I-1,by lia,by lia⟩;left;refine Be (λ_=>?_) (λp7=>?_)
    ·left;refine⟨a,ar,pn,ts,m,k1,"truth",rfl,S2,by lia,by lia,by lia,λv1 t1 H4 r4 aa ad z1=>?_⟩;have S4:=S2.step r4;obtain⟨kh,am,be,bo⟩:∃k:Nat,((k2:Int)+1) / 2=(k:Int)/\1<=k/\2*k<=k2+1:=⟨(k2+1) / 2,by lia,by lia,by lia⟩;left;rw[am];refine⟨a,ar,pn,ts,m,kh,Z,rfl,S4,by lia,by lia,by lia,λv2 t2 H5 r5 ag af z2=>?_⟩;have S5:=S4.step r5;left;rw[am];refine⟨a,ar,pn,ts,m,kh,Z,rfl,S5,by lia,by lia,by lia,λv3 t3 H6 r6 ap ay z3=>?_⟩;left;refine⟨Br,λp9 h9=>?_⟩;left;refine⟨Br,λb9 ac=>?_⟩;obtain⟨R,TR⟩:=laid (us:=[v1,v2,v3]) (ts:=[t1,t2,t3]) (wd:="if") (nv:=.non) (n:=.flat .non) (r2.trans (r4.trans (r5.trans r6))) (.inl ⟨rfl,rfl⟩) (((Al.nil.snoc (aa.sameT ((r5.trans r6).t S4.e))).snoc (ag.sameT (r6.t S5.e))).snoc ap) h9 ac;exact q _ _ _ R TR (tf_3 w_if ad af ay) (by rw[sz_3];lia)
    have p7:7<=z % 13:=by
     by_cases y:z % 13<7
     ·exact absurd (decide_eq_true y) p7
     ·lia
    refine s_next ?_;with_reducible refine s_seq ?_
    refine Cv (t:=Cf _ _ _) (R:=λae H'=>ae=[some (.ref a),some (.ref ar),some (.ref pn),some (.int (I:Nat)),some (.str Z),some (.int c),some (.int (z % 13)),some (.int (k1:Nat)),some (.int (k2:Nat)),some (.str x),none,none,none,none,none]/\H2=H') ?_ ?_;rotate_left
    ·intro Y hY;have go:=hY _ _ ⟨rfl,rfl⟩;left;refine Be (λ_=>?_) (λ_=>?_)
     ·left;refine Be (λ_=>?_) (λ_=>go);left;obtain⟨bs,zs,b1,b2,b3⟩:=S2.bd;refine⟨Bt,λU h5=>?_⟩;left;refine⟨Dl,λa6 h6=>?_⟩;have s5:=Same.upd (o:=.tup [.str x,.str "num"]) h5;have s6:=Same.upd (o:=.lst [.ref U]) h6;have O:=s5.trans s6;have e5:=s6 _ _ (show upd H2 U (.tup [.str x,.str "num"]) U=some (.tup [.str x,.str "num"]) from Ac);have e6:upd (upd H2 U (.tup [.str x,.str "num"])) a6 (.lst [.ref U]) a6=some (.lst [.ref U]):=Ac;revert O e5 e6;generalize upd (upd H2 U (.tup [.str x,.str "num"])) a6 (.lst [.ref U])=H6;intro O e5 e6;refine Iq (O _ _ b1) e6 (by show bs.length+1<=sizeLine;lia) λa7 h7=>?_;have S7:=(S2.step ((FR.refl S2).put O)).more (O _ _ b1) (b2.mono (PrW.same O.t)) b3 (ms:=[.ref U]) (ws:=[(x,"num")]) (Al.nil.snoc ⟨U,rfl,SqT.of e5⟩) rfl h7;have ah:=((FR.refl S2).put O).put (Same.upd (o:=.lst (bs++[.ref U])) h7);revert S7 ah;generalize upd H6 a7 (.lst (bs++[.ref U]))=H7;intro S7 ah;left;rw[al];refine⟨a,a7,pn,ts,m+1,kr,"num",rfl,S7,by lia,by lia,by lia,λv1 t1 H8 r8 aa ad z1=>?_⟩;left;refine⟨Dl,λp9 h9=>?_⟩;left;refine⟨Br,λb9 ac=>?_⟩;obtain⟨R,TR⟩:=laid (us:=[v1]) (ts:=[t1]) (wd:="fn") (nv:=.str x) (n:=.flat (.str x)) (r2.trans (ah.trans r8)) (.inl ⟨rfl,rfl⟩) (Al.nil.snoc aa) h9 ac;exact q _ _ _ R TR (tf_1 w_fn ad) (by rw[sz_1];lia)
     ·exact go
    rintro _ _ ⟨rfl,rfl⟩;left;refine Be (λ_=>?_) (λ_=>?_)
    ·obtain⟨bs,zs,b1,b2,b3⟩:=S2.bd;obtain⟨y,hy⟩:=S2.nm (i:=c / 28 % 4) (Qc _ (by decide)) (by lia);left;refine Bo (SqL.of S2.hp) hy ?_;left;refine⟨Bt,λU h5=>?_⟩;left;refine⟨Bt,λa6 h6=>?_⟩;left;refine⟨Bt,λa7 h7=>?_⟩;have s5:=Same.upd (o:=.tup [.str y,.str "fun"]) h5;have s6:=Same.upd (o:=.tup [.str x,.str "num"]) h6;have s7:=Same.upd (o:=.lst [.ref U,.ref a6]) h7;have a4:=s5.trans (s6.trans s7);have e5:=(s6.trans s7) _ _ (show upd H2 U (.tup [.str y,.str "fun"]) U=some (.tup [.str y,.str "fun"]) from Ac);have e6:=s7 _ _ (show upd (upd H2 U (.tup [.str y,.str "fun"])) a6 (.tup [.str x,.str "num"]) a6=some (.tup [.str x,.str "num"]) from Ac);have e7:upd (upd (upd H2 U (.tup [.str y,.str "fun"])) a6 (.tup [.str x,.str "num"])) a7 (.lst [.ref U,.ref a6]) a7=some (.lst [.ref U,.ref a6]):=Ac;revert a4 e5 e6 e7;generalize upd (upd (upd H2 U (.tup [.str y,.str "fun"])) a6 (.tup [.str x,.str "num"])) a7 (.lst [.ref U,.ref a6])=H6;intro O e5 e6 e7;refine Iq (O _ _ b1) e7 (by show bs.length+2<=sizeLine;lia) λa8 h8=>?_;have S7:=(S2.step ((FR.refl S2).put O)).more (O _ _ b1) (b2.mono (PrW.same O.t)) b3 (ms:=[.ref U,.ref a6]) (ws:=[(y,"fun"),(x,"num")]) ((Al.nil.snoc ⟨U,rfl,SqT.of e5⟩).snoc ⟨a6,rfl,SqT.of e6⟩) rfl h8;have ah:=((FR.refl S2).put O).put (Same.upd (o:=.lst (bs++[.ref U,.ref a6])) h8);revert S7 ah;generalize upd H6 a8 (.lst (bs++[.ref U,.ref a6]))=H7;intro S7 ah;left;refine Bo (SqL.of S7.hp) hy ?_;left;refine⟨Bt,λa9 h9=>?_⟩;have s9:=Same.upd (o:=.tup [.str y,.str x]) h9;have e9:upd H7 a9 (.tup [.str y,.str x]) a9=some (.tup [.str y,.str x]):=Ac;have ai:=(FR.refl S7).put s9;revert ai e9;generalize upd H7 a9 (.tup [.str y,.str x])=H9;intro e9 ai;have S9:=S7.step ai;left;rw[al];refine⟨a,a8,pn,ts,m+2,kr,"num",rfl,S9,by lia,by lia,by lia,λv1 t1 H8 r8 aa ad z1=>?_⟩;left;refine⟨Dl,λp9 h9=>?_⟩;left;refine⟨Br,λb9 ac=>?_⟩;obtain⟨R,TR⟩:=laid (us:=[v1]) (ts:=[t1]) (wd:="rec") (nv:=.ref a9) (n:=.tup [.flat (.str y),.flat (.str x)]) (r2.trans (ah.trans (ai.trans r8))) (.inr ⟨a9,[.str y,.str x],rfl,SqT.of (((r8.t S9.e) a9).1 _ e9),rfl,rfl⟩) (Al.nil.snoc aa) h9 ac;exact q _ _ _ R TR (tf_1 Zfd ad) (by rw[sz_1];lia)
    refine s_next ?_;with_reducible refine s_seq ?_
    refine Cv (t:=Cf _ _ _) (R:=λae H'=>ae=[some (.ref a),some (.ref ar),some (.ref pn),some (.int (I:Nat)),some (.str Z),some (.int c),some (.int (z % 13)),some (.int (k1:Nat)),some (.int (k2:Nat)),some (.str x),none,none,none,none,none]/\H2=H'/\(Z="num" -> z % 13<=9)) ?_ ?_;rotate_left
    ·intro Y hY;left;rw[Bq];by_cases hs:Z="num"
     ·rw[decide_eq_true hs];left;refine Be (λ_=>?_) (λy=>?_)
      ·left;refine⟨a,ar,pn,ts,m,k1,"fun",rfl,S2,by lia,by lia,by lia,λv1 t1 H4 r4 aa ad z1=>?_⟩;have S4:=S2.step r4;left;refine⟨a,ar,pn,ts,m,k2,"num",rfl,S4,by lia,by lia,by lia,λv2 t2 H5 r5 ag af z2=>?_⟩;left;refine⟨Bt,λp9 h9=>?_⟩;left;refine⟨Br,λb9 ac=>?_⟩;obtain⟨R,TR⟩:=laid (us:=[v1,v2]) (ts:=[t1,t2]) (wd:="call") (nv:=.non) (n:=.flat .non) (r2.trans (r4.trans r5)) (.inl ⟨rfl,rfl⟩) ((Al.nil.snoc (aa.sameT (r5.t S4.e))).snoc ag) h9 ac;exact q _ _ _ R TR (N8 (Zel (by right)) ad af) (by rw[Zbp];lia)
      ·refine hY _ _ ⟨rfl,rfl,λ_=>?_⟩;by_cases y':9<z % 13
       ·exact absurd (decide_eq_true y') y
       ·lia
     ·rw[decide_eq_false hs];left;exact hY _ _ ⟨rfl,rfl,λh=>absurd h hs⟩
    rintro _ _ ⟨rfl,rfl,p9⟩;with_reducible refine s_seq ?_
    with_reducible refine s_asg ?_
    with_reducible refine s_c ?_
    refine s_gname ?_;with_reducible refine s_seq ?_
    refine Cv (t:=Cf _ _ _) (R:=λae H'=>∃wd:Str,ae=[some (.ref a),some (.ref ar),some (.ref pn),some (.int (I:Nat)),some (.str Z),some (.int c),some (.int (z % 13)),some (.int (k1:Nat)),some (.int (k2:Nat)),some (.str x),none,none,none,none,some (.str wd)]/\wd∈TWO/\FR a H2 H') ?_ ?_;rotate_left
    ·intro Y hY;left;rw[Bq];by_cases hs:Z="num"
     ·have p9:=p9 hs;rw[decide_eq_true hs];left;refine⟨Br,λU h5=>?_⟩;obtain⟨wd,av,hb⟩:∃wd:Str,Cr [V.str "plus",.str "plus",.str "minus"] (z % 13-7)=some (.str wd)/\wd∈TWO:=by
       rcases (show z % 13-7=0\/z % 13-7=1\/z % 13-7=2 by lia) with h|h|h <;> rw[h] <;> exact⟨_,rfl,by right⟩
      left;refine Bo (SqL.of Ac) av ?_;exact hY _ _ ⟨wd,rfl,hb,(FR.refl S2).put (Same.upd h5)⟩
     ·rw[decide_eq_false hs];left;exact hY _ _ ⟨"less",rfl,by right,FR.refl S2⟩
    rintro _ H3 ⟨wd,rfl,hb,r3⟩;have r2:=r2.trans r3;have S2:=S2.step r3;left;refine⟨a,ar,pn,ts,m,k1,"num",rfl,S2,by lia,by lia,by lia,λv1 t1 H4 r4 aa ad z1=>?_⟩;have S4:=S2.step r4;left;refine⟨a,ar,pn,ts,m,k2,"num",rfl,S4,by lia,by lia,by lia,λv2 t2 H5 r5 ag af z2=>?_⟩;left;refine⟨Bt,λp9 h9=>?_⟩;left;refine⟨Br,λb9 ac=>?_⟩;obtain⟨R,TR⟩:=laid (us:=[v1,v2]) (ts:=[t1,t2]) (wd:=wd) (nv:=.non) (n:=.flat .non) (r2.trans (r4.trans r5)) (.inl ⟨rfl,rfl⟩) ((Al.nil.snoc (aa.sameT (r5.t S4.e))).snoc ag) h9 ac;exact q _ _ _ R TR (N8 (Zel hb) ad af) (by rw[Zbp];lia)
def Zi5 (K:Ph):Sp:=λvs H Q _=>eX2 λ(v:V)(t:Tr)=>vs=[v]/\TrAt K H v t/\Tf t/\t.size<=100/\∀(v':V)(t':Tr)(H':Hp),Same H H'->TrAt K H' v' t'->Tf t'->Ki t'->t'.size<=t.size+2->Q v' H'
theorem Zo6:Bb ["_law_form_here"] ["_law_form_here"] (A5 Zal):=by walk_at "sc"
theorem Zvp (F:Fun K "_law_with_gap" "_law_with_gap" Zal f fd)(T:Txt K mg)(C__law_gaps:Ba P w K mg base 151 "_law_gaps" ["_law_form_here","_law_place","_law_bound"] (Ix K 150)):FnOk P w K mg base Aq 152 f fd ["_law_form_here"] (Zi5 K):=by
 refine F.okq Zo6 (λvs H Q E h=>?_) (λac A outer s H vs Q E hr h=>?_)
 ·obtain⟨v,t,rfl,_⟩:=h;rfl
 ·obtain⟨v,t,rfl,ht,tf,hz,q⟩:=h;refine⟨_,Ad (Ax (Bp (Zmr K hr.u200) (Ay C__law_gaps hr.m (Bc Ab (Ak Bh) (Bk Bh))) (Bk Bh)) (An (Ak (Bc Aj Hc (Ak (Ah Ab (Ak (Bc Aj Hc (Ak Bh)))))))) A0)
   (An Ab),?_⟩
  left;refine⟨Bg,λp4 h4=>?_⟩;have s4:=Same.upd (o:=.tup []) h4;left;refine⟨Bg,λp5 h5=>?_⟩;have s5:=Same.upd (o:=.lst []) h5;left;refine⟨v,t,p4,p5,[],0,420,F0,rfl,ht.same (s4.trans s5),tf,s5 _ _ Ac,⟨[],[],Ac,.nil,Pl _⟩,by lia,by simp;lia,by lia,by decide,(λz hz=>hz.elim),id,λrg ws H7 s7 e7 aa=>?_⟩;have Z:=s4.trans (s5.trans s7);left;refine⟨Bg,λp8 h8=>?_⟩;have s8:=Same.upd (o:=.lst []) h8;left;refine Zu5 (SqL.of (s8 _ _ e7)) (SqL.of Ac) ?_;have I:=Z.trans s8;left;cases ws with
  |cons y r =>
   rw[show(y::r).isEmpty=false from rfl];left;refine q v t _ I (ht.same I) tf ?_ (by lia);have hl:=aa.1;obtain⟨x,hx⟩:∃x,x∈(walk [] t).filter Gk:=List.exists_mem_of_length_pos (by rw[<- hl];exact Us _);obtain⟨h1,h2⟩:=Sq.mp hx;exact⟨x,h1,of_decide_eq_true h2⟩
  |nil =>
   rw[show([]:List V).isEmpty=true from rfl];left;refine⟨Bg,λg0 k0=>?_⟩;have y0:=Same.upd (o:=.tup []) k0;left;refine⟨Br,λg1 k1=>?_⟩;have y1:=Same.upd (o:=.tup [.str "gap",.non,.ref g0]) k1;left;refine⟨Bt,λg2 k2=>?_⟩;have y2:=Same.upd (o:=.tup [v,.ref g1]) k2;left;refine⟨Br,λg3 k3=>?_⟩;have y3:=Same.upd (o:=.tup [.str "plus",.non,.ref g2]) k3;have O:=y2.trans y3;have Y:=y1.trans O;have U:=y0.trans Y;refine q (.ref g3) (.mk "plus" (.flat .non) [t,.mk "gap" (.flat .non) []]) _ (I.trans U) (Zb2 Ac (.inl ⟨rfl,rfl⟩) (y3 _ _ Ac) ((Al.nil.snoc (ht.same (I.trans U))).snoc (Zag (O _ _ Ac) (Y _ _ Ac) rfl))) (N8 (Zel (by right)) tf (Pe Zko)) ⟨([1],.mk "gap" (.flat .non) []),?_,rfl⟩ (by simp[Tr.size,Bs];lia);rw[walk,Bm,Bm,Bm,walk,Bm];simp
end
structure MdT (t:Tr)(o:Er):Prop where
 m:∀(j:Nat)(r:Rx),o.2.1[j]?=some r->∃x∈walk [] t,x.2.wd≠"let"/\Kt j x r
 l:o.2.1.length<=21
 t:TOk o.2.1.length o.1
 n:0<=o.2.2/\o.2.2<=500
theorem Zuq (h:Ce t pl=some g)(ql:List Nat):Ce t (pl++ql)=Ce g ql:=by
 induction pl generalizing t with
 |nil=>rw[Go]at h;cases h;rfl
 |cons i r O =>
  cases t with
  |mk w n ts =>
   rw[Fa]at h;obtain⟨u,I,h⟩:=Wf.mp h;rw[Ry,Fa,I,Rz];exact O h
theorem Zvz (s:K19.Sub t pl):K19.withAt (K19.withAt t pl f) (pl++ql) l=K19.withAt t pl (K19.withAt f ql l):=by
 induction s with
 |nil t=>rw[K19.with_nil,K19.with_nil,Sf]
 | @cons w n ts j t r h s O =>
  have I:=(Ps.mp h).1;rw[K19.with_cons h,Ry,K19.with_cons (Rr I),O,K19.with_cons h,List.set_set]
theorem Zg8 (s:K19.Sub t pl)(s':K19.Sub f ql):K19.Sub (K19.withAt t pl f) (pl++ql):=by
 induction s with
 |nil t=>rw[K19.with_nil];exact s'
 | @cons w n ts j t r h s I =>
  rw[K19.with_cons h];exact .cons (Rr (Ps.mp h).1) I
theorem O4 (s:K19.Sub t pl):pl.length+1<=t.size:=by
 induction s with
 |nil t=>cases t;rw[Tr.size];show 0+1<=_;lia
 | @cons w n ts j t r h s I =>
  rw[Tr.size,Qa];have:=K3 h;lia
theorem Zsa (tf:Tf t)(ff:Tf f)(fl:Tf l)(hz:t.size<=100)(hf:f.size<=100)(hl:l.size<=100)(s:K19.Sub t pl)(hg:Ce t pl=some g)(hw:g.wd="gap")(s2:K19.Sub f ql)(hg2:Ce f ql=some g2)(hw2:g2.wd="gap")(md:MdT t o) :
  ∃e1 e2:Option Er,Gg (C6 (K19.withAt t pl f)) pl o.2.1 o.1 o.2.2 e1/\Gg (C6 (K19.withAt t pl (K19.withAt f ql l))) pl o.2.1 o.1 o.2.2 e2/\(e1=none->e2=none)/\(∀o,e2=some o->Gn o)/\∀o',e1=some o'->Gn o'/\Gg (C6 (K19.withAt (K19.withAt t pl f) (pl++ql) l)) (pl++ql) o'.2.1 o'.1 o'.2.2 e2:=by
 obtain⟨F1,p1⟩:=Zi0 (f:=f) tf s hg hw;have z1:=L7 (f:=f) s;have I:=Zkr s tf ff;have sa:=Zg8 s s2;have ga:Ce (K19.withAt t pl f) (pl++ql)=some g2:=by rw[Pf s];exact hg2
 obtain⟨F2,p2⟩:=Zi0 (f:=l) I sa ga hw2;have z2:=L7 (f:=l) sa;have ac:=Zkr sa I fl;have pp:(C6 (K19.withAt (K19.withAt t pl f) (pl++ql) l) pl).isSome=true:=by
  by_cases e:pl=pl++ql
  ·rw[<- e]at p2 ⊢;exact p2
  ·obtain⟨x,hx⟩:=R6.mp p1;rw[F2.o _ _ hx e];rfl
 have S1:=Zkf I (show _<=5000 by lia);rw[<- Zvz s];refine Znu S1 (Zkf ac (by lia)) F2 p1 pp p2 md.n.1 md.n.2 (by have:=md.l;have:=md.n.1;lia) md.t λj r hr=>?_;obtain⟨x,hx,U,m⟩:=md.m j r hr;obtain⟨sx,ex⟩:=Za2 t x hx;rw[Zb9 sx]at ex;have lx:=O4 sx;have Z:=m.p;have Y:C6 t x.1=some (r.wd,Fw x.2):=by rw[Kc,ex,m.w];rfl
 have aa:C7 r.pl=x.1:=by rw[Z,Fi]
 have h2:=O9 r.wd;refine⟨⟨by rw[show([]:List (Str×V)).length+j=j from Sv j];exact m.a,by rw[show([]:List (Str×V)).length+j=j from Sv j];exact m.o,by rw[Z];unfold Ap;rw[Pp];lia,by rw[m.n];exact h2,by have:=m.l;have:=md.n.1;lia,λ_=>by have:=m.l;have:=md.n.1;lia,λO=>⟨⟨Fw x.2,?_⟩,by rw[aa];exact Z,λh=>?_,λh=>?_,by rw[m.w];exact U⟩⟩,λO e=>?_⟩
 ·rw[aa];exact F1.o _ _ Y λe=>O (by rw[Z,e])
 ·have hn:=m.n;rw[show Fb r.wd=2 by unfold Fb;rw[if_pos h]]at hn
  match r.ops,hn with
  |[x,y],_=>exact⟨x,y,rfl⟩
 ·have hn:=m.n;rw[h,show Fb "if"=1 by right]at hn
  match r.ops,hn with
  |[x],_=>exact⟨x,rfl⟩
 ·have ad:x.1=pl++ql:=Zap (by rw[<- Z];exact e);have hq:ql≠[]:=λz=>O (by rw[e,z,Q0]);rw[ad]at sx ex;have:=Pf (f:=g) s ql;have sg:=Zuq hg ql;rw[ex]at sg;have hp:g.ps=[]:=by
   have:=(Kk (J9 tf hg).1).p;rw[hw,show Ha "gap"=some 0 by right]at this;exact R5 (Qg this).symm
  cases ql with
  |nil=>exact hq rfl
  |cons i r =>
   cases g with
   |mk w n ts =>
    have hp:ts=[]:=hp;subst hp;rw[Fa]at sg;cases sg
section
variable {P:Program}{w:World}{K:Ph}{mg:Str->Option Value}{base:Heap}
def J1 (K:Ph)(n:Nat):Sp:=λvs H Q _=>eX6 λ(v f:V)(t tf:Tr)(p:Addr)(pl:List Nat)=>vs=[v,.ref p,f]/\TrAt K H v t/\SqT K H p (A2 pl)/\K19.Sub t pl/\pl.length<n/\pl.length<=1000/\t.size<=1000/\TrAt K H f tf/\∀v' H',Same H H'->TrAt K H' v' (K19.withAt t pl tf)->Q v' H'
theorem Zgy:Bb ["_law_tree","_law_place","_law_form_here","_law_parts"] pN (A5 Mh):=by walk_at "sc"
theorem Ztx (F:Fun K "_law_filled" "_law_filled" Mh f fd)(T:Txt K mg)(C__law_filled:Ba P w K mg base (n+1) "_law_filled" ["_law_tree","_law_place","_law_form_here"] (J1 K n)):FnOk P w K mg base Aq (n+2) f fd pN (J1 K (n+1)):=by
 refine F.okq Zgy (λvs H Q E h=>?_) (λal A outer s H vs Q E hr h=>?_)
 ·obtain⟨v,f,t,tf,p,pl,rfl,_⟩:=h;rfl
 ·obtain⟨v,f,t,tf,p,pl,rfl,ht,hp,hs,hl,ai,hz,hf,q⟩:=h;refine⟨_,Ad (Ax (Bp (Zkp K hr.u200) Ag (Ak Bh)) (An Az) A0)
   (Ad (Ao 3 Zgy (D5 (K1 K) T.list (Av (Ai K Ab Aa)))) (Ad (Ek (Ay C__law_filled (hr.mono (by lia)) (Bc (Ai K A9 (Ai K Ag Aa)) (Eh (E3 K) Ag (Ci Aa) Fz) Az)) (Zl3 A9 (Ai K Ag Aa) Zrp)) (An (Ak (Bc (Ai K Ab Aa) (Ai K Ab Aa) (D5 (Zf1 K) T.tuple (Av A9))))))),?_⟩
  have bg:=big;left;refine⟨Bg,λa0 h0=>?_⟩;have s0:=Same.upd (o:=.tup []) h0;have e0:SqT K (upd H a0 (.tup [])) a0 (([]:List Int).map V.int):=SqT.of Ac;revert s0 e0;generalize upd H a0 (.tup [])=H0;intro s0 e0;refine Ze9 (xs:=Ap pl) (ys:=[]) (by rw[Fl];exact s0.tup hp) e0 ?_;left;cases pl with
  |nil =>
   refine Jv (by rfl) ?_;left;refine q _ _ s0 ?_;cases t with
   |mk w nt ts=>exact hf.same s0
  |cons k rest =>
  refine Fy (decide_eq_false (λe=>nomatch e)) ?_;cases hs with
  | @cons w nt ts _ u _ hu aj =>
  cases ht with
  | @mk b pp _ nv _ I _ qb hn qp l ah =>
  have hk:k<ts.length:=(Ps.mp hu).1;have af:k<I.length:=by lia
  have ae:=Pj af;have am:=s0.tup hp;have lz:ts.length<=1000:=by
   have:ts.length<=Bs ts:=Nz ts;rw[Tr.size]at hz;lia
  left;refine A1 (s0.tup qb) rfl ?_;refine⟨pp,I,rfl,.inr (s0.tup qp),λlp ag=>?_⟩;have s1:=Same.upd (o:=.lst I) ag;have e1:upd H0 lp (.lst I) lp=some (.lst I):=Ac;have n1:H lp=none:=s0.free ag;revert s1 e1;generalize upd H0 lp (.lst I)=H1;intro s1 e1;have ad:=s0.trans s1;left;refine A1 (v:=.int (k:Nat)) (ad.tup hp) (Cp (j:=0) rfl) ?_;left;refine Bo (SqL.of e1) (Cp ae) ?_;left;refine .inr (.inr ⟨p,_,rfl,ad.tup hp,?_,λk1 h1=>?_⟩)
  ·rintro⟨z,_⟩;have:HT.sIx (A2 (k::rest)).length 0 (some ((1:Nat):Int))=0:=z;rw[HT.sIx_nat]at this;rw[show(A2 (k::rest)).length=rest.length+1 by unfold A2;simp]at this;lia
  have ec:Bf (A2 (k::rest)) (some 1) none=A2 rest:=(Zdz _ 1).trans rfl;rw[ec];have s2:=Same.upd (o:=.tup (A2 rest)) h1;have e2:SqT K (upd H1 k1 (.tup (A2 rest))) k1 (A2 rest):=SqT.of Ac;revert s2 e2;generalize upd H1 k1 (.tup (A2 rest))=H2;intro s2 e2;have aa:=ad.trans s2;rw[Qa]at hl ai;have an:=K3 hu;rw[Tr.size]at hz;left;refine⟨I[k],f,u,tf,k1,rest,rfl,(ah k _ _ ae hu).same aa,e2,aj,by lia,by lia,by lia,hf.same aa,λY H3 s3 ak=>?_⟩;have ac:=aa.trans s3;left;refine A1 (v:=.int (k:Nat)) (ac.tup hp) (Cp (j:=0) rfl) ?_;have e3:=(s2.trans s3) _ _ e1;refine Zvg e3 (k:=(k:Nat)) (j:=k) ?_ ?_
  ·unfold F8;rw[if_pos (by lia),if_pos (by lia)];rfl
  have tS:=SameT.set (o:=.lst (I.set k Y)) e3;have s4:=ac.over (o:=.lst (I.set k Y)) n1;have e4:upd H3 lp (.lst (I.set k Y)) lp=some (.lst (I.set k Y)):=Ac;have Z:=ak.sameT tS;have O:∀j v t,I[j]?=some v->ts[j]?=some t->TrAt K (upd H3 lp (.lst (I.set k Y))) v t:=λj v t h1 h2=>((ah j v t h1 h2).same ac).sameT tS;revert s4 e4 Z O;generalize upd H3 lp (.lst (I.set k Y))=H4;intro s4 e4 Z O;left;refine A1 (s4.tup qb) rfl ?_;left;refine A1 (s4.tup qb) rfl ?_;left;refine Zhf (SqL.of e4) λp7 h7=>?_;have s7:=Same.upd (o:=.tup (I.set k Y)) h7;left;refine⟨Br,λp8 h8=>?_⟩;have s8:=Same.upd (o:=.tup [.str w,nv,.ref p7]) h8;have U:=s7.trans s8;refine q _ _ (s4.trans U) ?_;rw[K19.with_cons hu];refine .mk (SqT.of Ac) (hn.same (s4.trans U).t) (s8.tup (SqT.of Ac)) (by rw[Te,Te,l]) λj v t h1 h2=>?_;by_cases e:j=k
  ·subst e;rw[Rr af]at h1;rw[Rr hk]at h2;cases h1;cases h2;exact Z.same U
  ·rw[T8 (λz=>e z.symm)]at h1 h2;exact(O j v t h1 h2).same U
noncomputable def LETS:Str:="abcdefghijklmnopqrstuvwxyz_"
theorem Zky:LETS.cps.toList.length=27:=by right
theorem Zqh:LETS.length<=sizeLine:=by right
theorem Zty (u v:Str):(u++v).length=u.length+v.length:=by
 show(u.cps++v.cps).size=_;simp[Str.length]
theorem Zks (c:Nat):(⟨#[c]⟩:Str).length=1:=rfl
def Zkb:Sp:=λvs H Q _=>∃(a:Int),vs=[.int a,.int 5]/\∀(p:Addr)(ts:List Str)(H':Hp),Same H H'->H p=none->ts.length=5->H' p=some (.lst (ts.map V.str))->Q (.ref p) H'
theorem E5:Bb ["_law_cell_here","_law_many","_law_signs","_law_kept","_law_size","_law_at","_law_names_here","_law_k","_law_word","_law_j","_law_step"] qC (A5 Ny):=by walk_at "sc"
noncomputable def Nh:List V:=[.str "let",.str "in",.str "if",.str "then",.str "else",.str "fn",.str "rec",.str "yes",.str "no"]
def NmJ (H:Hp)(a:Int)(D p:Addr)(j:Nat)(σ':St)(H':Hp):Prop:=eX5 λ(v7 v8 v9 v10:Option V)(ts:List Str)=>σ'=[some (.int a),some (.int 5),some (.str LETS),some (.ref D),some (.int (1+a % 8)),some (.int (a / 8 % (1+a % 8))),some (.ref p),v7,v8,v9,v10]/\H' D=some (.lst Nh)/\H' p=some (.lst (ts.map V.str))/\ts.length=j/\Same H H'
theorem Zmp (F:Fun K "_law_names" "_law_names" Ny f fd)(T:Txt K mg)(C__law_mixed:Ba P w K mg base 1 "_law_mixed" ["_law_cell_here","_law_k"] Mv):FnOk P w K mg base Aq 2 f fd qC Zkb:=by
 refine F.okq E5 (λvs H Q E h=>?_) (λak A outer s H vs Q E hr h=>?_)
 ·obtain⟨a,rfl,_⟩:=h;rfl
 ·obtain⟨a0,rfl,q⟩:=h;refine⟨_,Ad (Ao 2 E5 Aj)
   (Ad (Ao 3 E5 (Bk (Il (xs:=[.str "let",.str "in",.str "if",.str "then",.str "else",.str "fn",.str "rec",.str "yes",.str "no"]) rfl))) (Ad (Ao 0 E5 (Ay C__law_mixed hr.m (Ah Ab Aa))) (Ad (Ao 4 E5 (Ae (B5 K) Aa (Ae Bd Ab Aa))) (Ad (Ao 5 E5 (Ae Bd (Ae Cc Ab Aa) A6)) (Ad (Ao 6 E5 (Bk Bh)) (Ad (Dw Qk rfl (He rfl T.range (Av Ag)) (Da 7 E5) (Ad (Ao 8 E5 Aj) (Ad (Dw Qk rfl (He rfl T.range (Av A6)) (Da 9 E5) (Ad (Ao 10 E5 (Ae (B5 K) (Ae Cc (Ae Cc Ab Aa) (Ae (B5 K) (qv 9) Aa)) (Ae Fd Aa (qv 9)))) (A3 (Ao 8 E5 (Ae (B5 K) (qv 8) (Ai K Az (Ae Bd (Ae (B5 K) (qv 10) (Ae Fd (qv 7) (D5 L8 T.int (Av (E6 K hr (qv 9) (qv 5)))))) Aa))))))) (Ad (Ax (Bp (Hj K) (qv 8) A9) (A3 (Ao 8 E5 (Ae (B5 K) (qv 8) Aj))) A0) (A3 (Bx (Co K Pu Qd Qe C0 (qv 6) (Av (qv 8))))))))) (An (qv 6)))))))),?_⟩
  have bg:=big;left;refine⟨sz9,λD hD=>?_⟩;left;refine⟨a0,3,rfl,by decide,by decide,λa an ao=>?_⟩;have al:0<=a % 8:=Qc a (by decide);have am:a % 8<8:=Qh a (by decide);left;refine s_rI (by show(0:Int)<1+a % 8;lia) ?_;left;refine⟨Bg,λp hp=>?_⟩;have ae:D≠p:=λz=>by rw[<- z,Ac]at hp;cases hp
  have ag:H p=none:=(Same.upd hD).free hp;have ai:Same H (upd (upd H D (.lst Nh)) p (.lst [])):=(Same.upd (o:=.lst Nh) hD).put hp;have ah:upd (upd H D (.lst Nh)) p (.lst []) D=some (.lst Nh):=by rw[Af ae];exact Ac
  left;refine⟨by decide,by decide,?_⟩;refine Gu (n:=5) (NmJ H a D p) ⟨_,_,_,_,[],rfl,ah,Ac,rfl,ai⟩ ?_ ?_
  ·rintro j O H2 hj ⟨v7,v8,v9,aa,ts,rfl,ac,I,Y,Z⟩;left;refine⟨by lia,by lia,?_⟩;refine Gu (n:=(1+a % 8).toNat) (λk O H'=>eX3 λv9 aa t=>O=[some (.int a),some (.int 5),some (.str LETS),some (.ref D),some (.int (1+a % 8)),some (.int (a / 8 % (1+a % 8))),some (.ref p),some (.int (0+j)),some (.str t),v9,aa]/\t.length=k/\H'=H2) ⟨_,_,Str.empty,rfl,rfl,rfl⟩ ?_ ?_
   ·rintro k O H3 hk ⟨af,U,t,rfl,aj,rfl⟩;left;refine s_rI (by show(0:Int)<0+k+1/\(0:Int)+k+1<1073741824;lia) ?_;left;refine s_mul_r (by split <;> decide) (by split <;> decide) ?_;left;obtain⟨c,hc,_⟩:=Kj (xs:=LETS.cps.toList) (i:=(a / 64 / (0+(k:Int)+1)+5*(0+(k:Int))+(0+(j:Int))*(if decide (V.int (0+(k:Int))=V.int (a / 8 % (1+a % 8)))=true then 1 else 0)) % 27) (Qc _ (by decide)) (by rw[Zky];exact Qh _ (by decide));refine Ztf Zqh hc ?_;refine Zba (by rw[Zks];lia) ?_;exact⟨_,_,_,rfl,by rw[Zty,Zks];lia,rfl⟩
   ·rintro O H3 ⟨af,U,t,rfl,aj,rfl⟩;left;refine Fg (.inl (SqL.of ac)) rfl rfl ?_;have ad:∀(t':Str),NmJ H a D p (j+1) [some (.int a),some (.int 5),some (.str LETS),some (.ref D),some (.int (1+a % 8)),some (.int (a / 8 % (1+a % 8))),some (.ref p),some (.int (0+(j:Int))),some (.str t'),af,U] (upd H3 p (.lst (ts.map V.str++[.str t']))):=λt' =>
     ⟨_,_,_,_,ts++[t'],rfl,by rw[Af ae];exact ac,by rw[Ac,Qi];rfl,by simp[Y],Z.over ag⟩
    left;refine Be (λ_=>?_) (λ_=>?_)
    ·left;have l1:(Qv "_").length=1:=by right
     refine Zba (by rw[l1];lia) ?_;left;refine B6 (SqL.of I) ?_;left;refine Cw I (by rw[Pp];lia) ?_;exact ad _
    ·left;refine B6 (SqL.of I) ?_;left;refine Cw I (by rw[Pp];lia) ?_;exact ad _
  ·rintro O H2 ⟨v7,v8,v9,aa,ts,rfl,ac,I,Y,Z⟩;left;exact q p ts _ Z ag Y I
def Zki (K:Ph):Sp:=λvs H Q _=>∃(a:Addr),vs=[.ref a]/\Script K H a/\∀b,Q (.bl b) H
theorem Ztb:Bb pW pW (A5 Zbg):=by walk_at "sc"
theorem Zt5 (F:Fun K "_law_is_free" "_law_is_free" Zbg f fd)(T:Txt K mg)(C__law_cell:Ba P w K mg base 1 "_law_cell" ["_law_script","_law_k"] (Zbf K)):FnOk P w K mg base Aq 2 f fd pW (Zki K):=by
 refine F.okq Ztb (λvs H Q E h=>?_) (λO A outer s H vs Q E I h=>?_)
 ·obtain⟨a,rfl,_⟩:=h;rfl
 ·obtain⟨a,rfl,S,q⟩:=h;refine⟨_,An (E6 K I (Ae Bd (Ay C__law_cell I.m (Ah Ab Aa)) Aa) Aa),?_⟩;left;refine⟨a,0,rfl,S,by decide,by decide,λz=>?_⟩;left;exact q _
def AD (H:Hp)(D:Addr):Addr->Prop:=λb=>b=D\/H b≠none
def Zka (K:Ph):Sp:=λvs H Q _=>eX7 λ(q0 rl:Addr)(av:V)(n:Int)(rv:List V)(rows:List Rx)(A:Addr->Prop)=>vs=[.ref q0]/\SqT K H q0 [av,.ref rl,.int n]/\H rl=some (.lst rv)/\Al (RwX K A H) rv rows/\rows.length<=3000 /\
 ∀(r q:Addr)(ws:List V)(H':Hp),Same H H'->SqT K H' r [av,.ref q,.int n]->H q=none->H' q=some (.lst ws)->Al (RwX K (AD H q) H') ws rows->Q (.ref r) H'
theorem Zox:(["_law_row_here"]:List Str).Nodup:=by right
theorem sc_law_copy:Bb ["_law_record","_law_rows"] ["_law_record"] (A5 N3):=by walk_at "sc"
theorem Zsx {α:Type}{l:List α}{i:Nat}{c:α}(h:l[i]?=some c):l.take (i+1)=l.take i++[c]:=by rw[Sa,h];rfl
theorem Zng (F:Fun K "_law_copy" "_law_copy" N3 f fd)(T:Txt K mg):FnOk P w K mg base Aq 1 f fd ["_law_record"] (Zka K):=by
 refine F.okq sc_law_copy (λvs H Q E h=>?_) (λaw A outer s H vs Q E hr h=>?_)
 ·obtain⟨q0,rl,av,n,rv,rows,A,rfl,_⟩:=h;rfl
 ·obtain⟨q0,rl,av,n,rv,rows,A,rfl,ad,ae,ag,aj,q⟩:=h;refine⟨_,Ad (Of (i:=1) (N:=["_law_row_here"]) (σ0:=Fv 1 []) rfl (J2 rfl (by right) (by right) (by right)) (El K (Ai K Ab Aa)) (Jt rfl (by rfl)) (λ_ _ _ _=>Gr (i:=0) Zox rfl (Or.inl rfl)) (λ_ _ _ _=>Kv) (λ_ _ _ _=>Ak (Dh (Ai K Ab Aa) (Ai K Ab Aa) (D5 (K1 K) T.list (Av (Ai K Ab Aa))) (D5 (K1 K) T.list (Av (Ai K Ab Aa))))) sc_law_copy.nd rfl (Or.inl rfl))
   (An (Ak (Bc (Ai K Ab Aa) Ag (Ai K Ab Aa)))),?_⟩
  have bg:=big;have au:rv.length<=3000:=by rw[ag.1];exact aj
  left;refine A1 ad rfl ?_;refine .inl ⟨rl,rfl,⟨_,SqL.of ae⟩,λD hD=>?_⟩;have nD:rl≠D:=C9 ae hD;refine Np (K:=K) (a:=rl) (xs:=rv) (Pv:=λi ys ac H'=>∃v0,ac=[v0]/\H' rl=some (.lst rv)/\ys.length=i/\Al (RwX K (AD H D) H') ys (rows.take i)/\Same H H') ⟨none,rfl,by rw[Af nD];exact ae,rfl,.nil,Same.upd hD⟩ ?_ ?_ ?_
  ·rintro i ys ac H' _ ⟨_,_,e,_⟩;exact SqL.of e
  ·rintro i x ys ac H' hx O ⟨v0,rfl,e,al,aa,sm⟩;have hi:=(Ps.mp hx).1;obtain⟨rz,ao,aq⟩:=ag.get hx;obtain⟨⟨a,_,o,er,ov,ev,rfl,h2,_,h4,h5,h6,h7,_,_⟩,a2,p,o2,as,ea,ap,am⟩:=RwX.same sm.a _ _ aq;cases ea;left;refine A1 h2 rfl ?_;left;refine A1 ap rfl ?_;left;refine A1 h2 rfl ?_;refine⟨o,ov,rfl,.inl (SqL.of h4),λc1 ak=>?_⟩;have s1:=Same.upd (o:=.lst ov) ak;left;refine A1 (s1.tup h2) rfl ?_;refine⟨er,ev,rfl,.inl (SqL.of (s1 _ _ h6)),λc2 ah=>?_⟩;have s2:=Same.upd (o:=.lst ev) ah;have e1:=s2 c1 _ (Ac (H:=H') (o:=.lst ov));have e2:upd (upd H' c1 (.lst ov)) c2 (.lst ev) c2=some (.lst ev):=Ac;have af:=s1.trans s2;have Y:H' c1=none:=ak;have U:H' c2=none:=s1.free ah;revert e1 e2 af;generalize upd (upd H' c1 (.lst ov)) c2 (.lst ev)=H2;intro e1 e2 af;left;refine⟨Gz,λt ht=>?_⟩;have s3:=Same.upd (o:=.tup [.str rz.wd,.ref p,.ref c1,.ref c2]) ht;have I:=af.trans s3;have Z:=I _ _ O;have n1:c1≠D:=λz=>by rw[z,O]at Y;cases Y
   have n2:c2≠D:=λz=>by rw[z,O]at U;cases U
   have tS:=SameT.set (o:=.lst (ys++[.ref t])) Z;left;refine⟨_,Z,by lia,_,Ac,?_⟩;refine⟨_,rfl,?_,by simp[al],?_,(sm.trans I).over hD⟩
   ·rw[Af nD];exact I _ _ e
   ·rw[Zsx ao];refine(aa.mono (RwX.same (I.a.trans (SameA.set Z (.inl rfl))))).snoc ?_;have ai:upd (upd H2 t (.tup [.str rz.wd,.ref p,.ref c1,.ref c2])) D (.lst (ys++[.ref t])) p=some (.tup (rz.pl.map V.int)):=((I.t.trans tS) p).1 _ am;refine⟨⟨t,p,c1,c2,ov,ev,rfl,tS.tup (SqT.of Ac),SqT.of ai,?_,h5.mono (ThAt.same (I.t.trans tS)),?_,h7.mono (PrAt.same (I.t.trans tS)),?_,?_⟩,t,p,c1,c2,rfl,tS.tup (SqT.of Ac),ai⟩
    ·rw[Af n1];exact s3 _ _ e1
    ·rw[Af n2];exact s3 _ _ e2
    ·rintro(z|z)
     ·exact n1 z
     ·exact z (sm.free Y)
    ·rintro(z|z)
     ·exact n2 z
     ·exact z (sm.free U)
  ·rintro ys ac H' O ⟨v0,rfl,e,al,aa,sm⟩;rw[ag.1,Uh]at aa;left;refine A1 (sm.tup ad) rfl ?_;left;refine A1 (sm.tup ad) rfl ?_;left;refine⟨Br,λr an=>?_⟩;have s9:Same H' (upd H' r (.tup [av,.ref D,.int n])):=Same.upd an;exact q r D ys _ (sm.trans s9) (SqT.of Ac) hD (s9 _ _ O) (aa.mono (RwX.same s9.a))
def Iz (K:Ph)(n:Nat):Sp:=λvs H Q _=>eX4 λ(x y:V)(d:Dt)(m:Nat)=>vs=[x,y]/\m<n/\IsD K H m x d/\IsD K H m y d/\Fm d/\∀H',Same H H'->Q (.bl true) H'
theorem Zjn:Bb ["_law_found","_law_due","_law_k"] pZ (A5 Ms):=by walk_at "sc"
theorem Zom (F:Fun K "_law_same" "_law_same" Ms f fd)(T:Txt K mg)(C__law_same:Ba P w K mg base (n+1) "_law_same" ["_law_found","_law_due"] (Iz K n)):FnOk P w K mg base Aq (n+2) f fd pZ (Iz K (n+1)):=by
 refine F.okq Zjn (λvs H Q E h=>?_) (λad A outer s H vs Q E hr h=>?_)
 ·obtain⟨x,y,d,m,rfl,_⟩:=h;rfl
 ·obtain⟨x,y,d,m,rfl,hm,hx,hy,hd,q⟩:=h;refine⟨_,Ad (Ax (QW.qt (Ds (B0 (B1 (B9 K "bool") T.isinstance (Ah Ab (Ca (v:=.ty "bool") (by rfl) T.bool (by right) rfl)))) (D7 (B0 (B1 (B9 K "bool") T.isinstance (Ah Ag (Ca (v:=.ty "bool") (by rfl) T.bool (by right) rfl))))))) (An (Ga (B1 (B9 K "bool") T.isinstance (Ah Ab (Ca (v:=.ty "bool") (by rfl) T.bool (by right) rfl))) (Ga (B1 (B9 K "bool") T.isinstance (Ah Ag (Ca (v:=.ty "bool") (by rfl) T.bool (by right) rfl))) (Gf (E6 K hr Ab Ag))))) A0)
   (Ad (Ax (QW.qt (Ds (B0 (B1 (B9 K "list") T.isinstance (Ah Ag (Ca (v:=.ty "list") (by rfl) T.list (by right) rfl)))) (D7 (B0 (B1 (B9 K "tuple") T.isinstance (Ah Ag (Ca (v:=.ty "tuple") (by rfl) T.tuple (by right) rfl))))))) (Ad (Ax (QW.qt (Eg (De (B0 (B1 (B9 K "list") T.isinstance (Ah Ab (Ca (v:=.ty "list") (by rfl) T.list (by right) rfl))))) (Ec (De (B0 (B1 (B9 K "tuple") T.isinstance (Ah Ab (Ca (v:=.ty "tuple") (by rfl) T.tuple (by right) rfl)))))))) (An Cy) A0) (Ad (Ax (QW.qt (Ds (Bp (Fq K hr.u200) (B1 (B9 K "list") T.isinstance (Ah Ab (Ca (v:=.ty "list") (by rfl) T.list (by right) rfl))) (B1 (B9 K "list") T.isinstance (Ah Ag (Ca (v:=.ty "list") (by rfl) T.list (by right) rfl)))) (D7 (Bp (Fq K hr.u200) (Bz K T.len Ab) (Bz K T.len Ag))))) (An Cy) A0) (Ad (Dw Qk rfl (He rfl T.range (Av (Bz K T.len Ag))) (Da 2 Zjn) (A3 (Ax (De (B0 (Ay C__law_same (hr.mono (by lia)) (Ah (Ai K Ab Az) (Ai K Ag Az))))) (An Cy) A0))) (An Cy)))) A0) (Ad (Ax (B0 (B1 (B9 K "str") T.isinstance (Ah Ag (Ca (v:=.ty "str") (by rfl) T.str (by right) rfl)))) (An (Ga (B1 (B9 K "str") T.isinstance (Ah Ab (Ca (v:=.ty "str") (by rfl) T.str (by right) rfl))) (Gf (E6 K hr Ab Ag)))) A0) (Ad (Ax (B0 (B1 (B9 K "int") T.isinstance (Ah Ag (Ca (v:=.ty "int") (by rfl) T.int (by right) rfl)))) (An (Ga (B1 (B9 K "int") T.isinstance (Ah Ab (Ca (v:=.ty "int") (by rfl) T.int (by right) rfl))) (Gf (E6 K hr Ab Ag)))) A0) (An (Ga (Lw (Ij Ab)) (Gf (Lw (Ij Ag)))))))),?_⟩
  have bg:=big;cases hx with
  |flat hv =>
   cases hy with
   |flat _ =>
   cases x with
   |non =>
    left;refine B7 (b:=false) .non rfl ?_;left;refine B7 (b:=false) .non rfl ?_;left;refine B7 (b:=false) .non rfl ?_;left;refine B7 (b:=false) .non rfl ?_;left;refine B7 (b:=false) .non rfl ?_;left;refine B7 (b:=false) .non rfl ?_;left;rw[decide_eq_true (Eq.refl _)];left;rw[decide_eq_true (Eq.refl _)];left;exact q H (Same.refl _)
   |bl b =>
    left;refine B7 (b:=true) (.bl b) rfl ?_;left;refine B7 (b:=true) (.bl b) rfl ?_;left;refine B7 (b:=true) (.bl b) rfl ?_;left;rw[decide_eq_true (Eq.refl _)];left;exact q H (Same.refl _)
   |int b =>
    left;refine B7 (b:=false) (.int b) rfl ?_;left;refine B7 (b:=false) (.int b) rfl ?_;left;refine B7 (b:=false) (.int b) rfl ?_;left;refine B7 (b:=false) (.int b) rfl ?_;left;refine B7 (b:=false) (.int b) rfl ?_;left;refine B7 (b:=true) (.int b) rfl ?_;left;refine B7 (b:=true) (.int b) rfl ?_;left;rw[decide_eq_true (Eq.refl _)];left;exact q H (Same.refl _)
   |str b =>
    left;refine B7 (b:=false) (.str b) rfl ?_;left;refine B7 (b:=false) (.str b) rfl ?_;left;refine B7 (b:=false) (.str b) rfl ?_;left;refine B7 (b:=false) (.str b) rfl ?_;left;refine B7 (b:=true) (.str b) rfl ?_;left;refine B7 (b:=true) (.str b) rfl ?_;left;rw[decide_eq_true (Eq.refl _)];left;exact q H (Same.refl _)
   |_=>exact absurd hv (by simp[C8])
  | @tup k a vs ds Y la ha =>
   cases hy with
   | @tup _ c ws _ U lc hc =>
   cases hd with
   |tup hl ac =>
   left;refine Fe (b:=false) Y rfl ?_;left;refine Fe (b:=false) U rfl ?_;left;refine Fe (b:=false) U rfl ?_;left;refine Fe (b:=true) U rfl ?_;left;refine Fe (b:=false) Y rfl ?_;left;refine Fe (b:=true) Y rfl ?_;left;refine Fe (b:=false) Y rfl ?_;left;refine Fe (b:=false) U rfl ?_;left;rw[decide_eq_true (Eq.refl _)];left;refine Ej Y ?_;left;refine Ej U ?_;left;rw[la,lc,decide_eq_true (Eq.refl _)];left;refine Ej U ?_;left;rw[lc];refine⟨by lia,by lia,?_⟩;refine Gu (n:=(ds.length:Int).toNat) (λi I H'=>∃v2,I=[some (.ref a),some (.ref c),v2]/\Same H H') ⟨none,rfl,Same.refl _⟩ ?_ ?_
   ·rintro i I H' hi ⟨v2,rfl,O⟩;have hi:i<ds.length:=by lia
    have e0:(0:Int)+(i:Int)=((i:Nat):Int):=by lia
    rw[e0];have Z:i<vs.length:=by lia
    have aa:i<ws.length:=by lia
    left;refine A1 (O.tup Y) (Cp (Pj Z)) ?_;left;refine A1 (O.tup U) (Cp (Pj aa)) ?_;left;refine⟨vs[i],ws[i],ds[i],k,rfl,by lia,(ha i _ _ (Pj Z) (Pj hi)).same O,(hc i _ _ (Pj aa) (Pj hi)).same O,ac _ (Vl hi),λH2 s2=>?_⟩;left;exact⟨_,rfl,O.trans s2⟩
   ·rintro I H' ⟨v2,rfl,O⟩;left;exact q H' O
  | @lst k a vs ds Y la ha =>
   cases hy with
   | @lst _ c ws _ U lc hc =>
   cases hd with
   |lst hl ac =>
   left;refine G0 (b:=false) Y rfl ?_;left;refine G0 (b:=false) U rfl ?_;left;refine G0 (b:=true) U rfl ?_;left;refine G0 (b:=true) Y rfl ?_;left;refine G0 (b:=true) Y rfl ?_;left;refine G0 (b:=true) U rfl ?_;left;rw[decide_eq_true (Eq.refl _)];left;refine Cm Y ?_;left;refine Cm U ?_;left;rw[la,lc,decide_eq_true (Eq.refl _)];left;refine Cm U ?_;left;rw[lc];refine⟨by lia,by lia,?_⟩;refine Gu (n:=(ds.length:Int).toNat) (λi I H'=>∃v2,I=[some (.ref a),some (.ref c),v2]/\Same H H') ⟨none,rfl,Same.refl _⟩ ?_ ?_
   ·rintro i I H' hi ⟨v2,rfl,O⟩;have hi:i<ds.length:=by lia
    have e0:(0:Int)+(i:Int)=((i:Nat):Int):=by lia
    rw[e0];have Z:i<vs.length:=by lia
    have aa:i<ws.length:=by lia
    left;refine Bo (O.seq Y) (Cp (Pj Z)) ?_;left;refine Bo (O.seq U) (Cp (Pj aa)) ?_;left;refine⟨vs[i],ws[i],ds[i],k,rfl,by lia,(ha i _ _ (Pj Z) (Pj hi)).same O,(hc i _ _ (Pj aa) (Pj hi)).same O,ac _ (Vl hi),λH2 s2=>?_⟩;left;exact⟨_,rfl,O.trans s2⟩
   ·rintro I H' ⟨v2,rfl,O⟩;left;exact q H' O
theorem Zbv (ms:List Int)(lo hi:Option Int):∃ds:List Int,Bf (ms.map V.int) lo hi=ds.map V.int/\ds.length<=ms.length:=by
 refine⟨(ms.drop (HT.sIx (ms.map V.int).length 0 lo)).take (HT.sIx (ms.map V.int).length (ms.map V.int).length hi-HT.sIx (ms.map V.int).length 0 lo),?_,?_⟩
 ·unfold Bf;rw[List.map_take,List.map_drop]
 ·rw[Qp,Sn];lia
def ScN (K:Ph)(H:Hp)(a pm:Addr):Prop:=∃ns:List Int,ns.length<=63/\(Rd H a (.lst (ns.map V.int))/\a≠pm\/∀H',SqL K H' a (ns.map V.int))
theorem ScN.pop (h:ScN K H a pm)(s:SameR pm H H'):ScN K H' a pm:=by
 obtain⟨ns,l,⟨h,n⟩|h⟩:=h
 ·refine⟨ns,l,.inl ⟨?_,n⟩⟩;rcases h with h|⟨o,h⟩
  ·exact .inl (s _ _ n h)
  ·exact .inr ⟨o,s _ _ n h⟩
 ·exact⟨ns,l,.inr h⟩
theorem ScN.sc (h:ScN K H a pm):Script K H a:=by
 obtain⟨ns,l,⟨h,n⟩|h⟩:=h
 ·exact⟨ns,.inl h,l⟩
 ·exact⟨ns,h _,l⟩
theorem ScN.of (h:Script K H a)(hp:H pm=none):ScN K H a pm:=by
 obtain⟨ns,h|h,l⟩:=h
 ·refine⟨ns,l,.inl ⟨h,λz=>?_⟩⟩;rw[<- z]at hp;rcases h with h|⟨o,h⟩ <;> rw[hp]at h <;> cases h
 ·exact⟨ns,l,.inr λ_=>.inr h⟩
theorem O2 {ms:List Int}(h:ms.length<=63)(lo hi:Option Int):∃ds:List Int,B8 3 (Bf (ms.map V.int) lo hi)=ds.map V.int/\ds.length<=21:=by
 obtain⟨I,e,l⟩:=Zbv ms lo hi;refine⟨B8 3 I,by rw[e,Zbh],?_⟩;have:=Znv I;lia
theorem FR.of (s:Same H H')(e:∃cs:List Int,H a=some (.lst (cs.map V.int))/\cs.length<=63):FR a H H':=⟨λb o _ h=>s b o h,let ⟨cs,e,l⟩:=e;⟨cs,s _ _ e,l⟩⟩
theorem Zo4 (hz:t.size<=100)(md:MdT t o):Gn o:=by
 refine⟨md.t,λk r I=>?_,by have:=md.l;lia,λr I=>?_,md.n.2⟩
 ·obtain⟨_,_,_,m⟩:=md.m k r I;exact⟨m.a,m.o⟩
 ·obtain⟨k,O⟩:=Wj I;obtain⟨x,U,_,m⟩:=md.m k r O;have:=O4 (Za2 t x U).1;have:=O9 r.wd;exact⟨by rw[m.p];unfold Ap;rw[Pp];lia,by rw[m.n];lia,by have:=m.l;lia⟩
theorem MdC.t' {t:Tr}{us:List Str}{o:Er}(h:MdC ((walk [] t).filter (Eu us)) o)(hu:("let":Str)∈us):MdT t o:=by
 refine⟨λj r O=>?_,h.l,h.t,h.n⟩;obtain⟨x,I,m⟩:=h.m j r O;obtain⟨h1,h2⟩:=Sq.mp I;refine⟨x,h1,λe=>?_,m⟩;have h2:(!decide (x.2.wd∈us))=true:=h2;rw[e,decide_eq_true hu]at h2;cases h2
theorem RecQ.x (h:RecQ K H H' ss v o):RcX K F0 H' v o/\Same H H'/\MdC ss o:=by
 obtain⟨r,rd,Y,I,e,s,q,th,U,_,O,m⟩:=h;exact⟨⟨r,rd,Y,I,e,q,th,U,id,O.mono (RwX.mono λb hb _=>hb.elim)⟩,s,m⟩
structure LM (K:Ph)(a pn pm:Addr)(ts:List Str)(t:Tr)(tv v:V)(o:Er)(pp:Addr)(pl:List Nat)(pb:Addr)(H:Hp):Prop where
 sc:ScN K H a pm
 n:H pn=some (.lst (ts.map V.str))
 np:pn≠pm
 t:TrAt K H tv t
 r:RcX K (λb=>b=pm) H v o
 p:H pp=some (.tup (A2 pl))
 b:BdAt K H pb 140
 nb:pb≠pm
 e:∃cs:List Int,H pm=some (.lst (cs.map V.int))/\cs.length<=63
theorem FR.tup (x:FR a H H')(e:∃cs:List Int,H a=some (.lst (cs.map V.int))/\cs.length<=63)(h:H p=some (.tup xs)):H' p=some (.tup xs):=x.r _ _ (λz=>by obtain⟨cs,e,_⟩:=e;rw[z,e]at h;cases h) h
theorem FR.bd (x:FR a H H')(e:∃cs:List Int,H a=some (.lst (cs.map V.int))/\cs.length<=63)(h:BdAt K H b n)(nb:b≠a):BdAt K H' b n:=by
 obtain⟨bs,zs,b1,b2,I⟩:=h;exact⟨bs,zs,x.r _ _ nb b1,b2.mono (PrW.same (x.t e)),I⟩
theorem LM.step {K:Ph}{a pn pm:Addr}{ts:List Str}{t:Tr}{tv v:V}{o:Er}{pp:Addr}{pl:List Nat}{pb:Addr}{H H':Hp}(h:LM K a pn pm ts t tv v o pp pl pb H)(x:FR pm H H'):LM K a pn pm ts t tv v o pp pl pb H' :=
 ⟨h.sc.pop x.r,x.r _ _ h.np h.n,h.np,h.t.sameT (x.t h.e),h.r.same ⟨x.t h.e,λb xs nb e=>x.r _ _ nb e⟩,x.tup h.e h.p,x.bd h.e h.b h.nb,h.nb,x.e⟩
theorem Zg3 (hG:Ki t):0<((walk [] t).filter Gk).length:=by
 obtain⟨x,I,e⟩:=hG;exact List.length_pos_of_mem (Sq.mpr ⟨I,decide_eq_true e⟩)
theorem Zjq {t:Tr}{i:Nat}{x:List Nat×Tr}(h:((walk [] t).filter Gk)[i]?=some x):K19.Sub t x.1/\Ce t x.1=some x.2/\x.2.wd="gap":=by
 obtain⟨h1,h2⟩:=Sq.mp (Qs h);obtain⟨I,O⟩:=Za2 t x h1;exact⟨I,by rw[<- Zb9 I];exact O,of_decide_eq_true h2⟩
inductive LA (K:Ph)(a pn:Addr)(c:Int)(Hn:Hp)(σ:St)(H:Hp):Prop
 |mk (v3:Option V) (tv v:V) (t:Tr) (o:Er) (_:σ=[some (.ref a),some (.ref pn),some (.int c),v3,some tv,some v,none,none,none,none,none,none,none,none,none,none,none]) (_:Same Hn H) (_:TrAt K H tv t) (_:Tf t) (_:Ki t) (_:t.size<=70) (_:RcX K F0 H v o) (_:MdT t o)
def Zhj (K:Ph):Sp:=λvs H Q _=>eX2 λ(a:Addr)(ns:List Int)=>vs=[.ref a]/\SqL K H a (ns.map V.int)/\ns.length<=63/\∀H',Q (.bl true) H'
theorem Dd:Bb ["_law_script","_law_names_here","_law_cell_here","_law_cells","_law_tree","_law_record","_law_spots_here","_law_place","_law_bound","_law_more","_law_form_here","_law_inner","_law_last","_law_handed","_law_found","_law_right","_law_left"] pW (A5 Zan):=by walk_at "sc"
theorem Zo1 (F:Fun K "law" "law" Zan f fd)(T:Txt K mg)(C__law_cell:Ba P w K mg base 1 "_law_cell" ["_law_script","_law_k"] (Zbf K))(C__law_mixed:Ba P w K mg base 1 "_law_mixed" ["_law_cell_here","_law_k"] Mv)(C__law_names:Ba P w K mg base 2 "_law_names" ["_law_cell_here","_law_many"] Zkb)(C__law_form:Ba P w K mg base 23 "_law_form" ["_law_cells","_law_around","_law_names_here","_law_room","_law_sort"] (Js K 20))(C__law_is_free:Ba P w K mg base 2 "_law_is_free" ["_law_script"] (Zki K))(C__law_any:Ba P w K mg base 33 "_law_any" ["_law_cells","_law_names_here","_law_deep"] (Jq K 32))(C__law_with_gap:Ba P w K mg base 152 "_law_with_gap" ["_law_form_here"] (Zi5 K))(C__law_free_record:Ba P w K mg base 73 "_law_free_record" ["_law_tree","_law_cells","_law_script"] (Zgr K))(C__law_made_up:Ba P w K mg base 73 "_law_made_up" ["_law_tree","_law_cells","_law_steps"] (Zj2 K))(C__law_gaps:Ba P w K mg base 151 "_law_gaps" ["_law_form_here","_law_place","_law_bound"] (Ix K 150))(C__law_copy:Ba P w K mg base 1 "_law_copy" ["_law_record"] (Zka K))(C__law_go_on:Ba P w K mg base 9 "_law_go_on" ["_law_tree","_law_record","_law_place","_law_form_here"] (Zbt K TL))(C__law_filled:Ba P w K mg base 202 "_law_filled" ["_law_tree","_law_place","_law_form_here"] (J1 K 201))(C__law_same:Ba P w K mg base 8 "_law_same" ["_law_found","_law_due"] (Iz K 7))(C__law_is_record:Ba P w K mg base 3 "_law_is_record" ["_law_found"] (Zhb K)):FnOk P w K mg base Aq 203 f fd pW (Zhj K):=by
 refine F.okq Dd (λvs H Q E h=>?_) (λel A outer s H vs Q E I h=>?_)
 ·obtain⟨a,ns,rfl,_⟩:=h;rfl
 ·obtain⟨a,ms,rfl,hS,hn,q⟩:=h;refine⟨_,Ad (Ao 1 Dd (Ay C__law_names I.m (Ah (Ay C__law_cell I.m (Ah Ab Aa)) Aa)))
   (Ad (Ao 2 Dd (Ay C__law_mixed I.m (Ah (Ay C__law_cell I.m (Ah Ab Aa)) Aa))) (Ad (Ao 3 Dd (Ic K (Ic K (Eh (E3 K) Ab (Ci Aa) (Ci Aa)) (Ci Aa)) (Ci (Ii Ir Aa)))) (Ad (Ax (B0 (Ay C__law_is_free I.m (Av Ab))) (Ad (Ao 4 Dd (Ay C__law_with_gap I.m (Av (Ay C__law_any I.m (Bc A9 Ag Aa))))) (A3 (Ao 5 Dd (Ay C__law_free_record I.m (Bc A6 (Ic K (Eh (E3 K) Ab (Ci Aa) (Ci Aa)) (Ci Aa)) Ab))))) (Ad (Ao 4 Dd (Ay C__law_with_gap I.m (Av (Ay C__law_form I.m (E1 A9 (Bk Bh) Ag (Ae (B5 K) Aa (Ae Bd (Ay C__law_cell I.m (Ah Ab Aa)) Aa)) Aj))))) (A3 (Ao 5 Dd (Ay C__law_made_up I.m (Bc A6 (Ic K (Eh (E3 K) Ab (Ci Aa) (Ci Aa)) (Ci Aa)) (Ae Bd (Ay C__law_mixed I.m (Ah (Ay C__law_cell I.m (Ah Ab Aa)) Aa)) Aa))))))) (Ad (Ao 6 Dd (Ay C__law_gaps I.m (Bc A6 (Ak Bh) (Bk Bh)))) (Ad (Ek (Ai K (qv 6) (Ae Bd (Ae Cc Az Aa) (Bz K T.len (qv 6)))) (Gj K Dd 7 8)) (Ad (Ao 9 Dd (Ic K (Ic K (Eh (E3 K) Ab (Ci Aa) (Ci Aa)) (Ci Aa)) (Ci (Ii Ir Aa)))) (Ad (Ax (B0 (Ay C__law_is_free I.m (Av Ab))) (A3 (Ao 10 Dd (Ay C__law_any I.m (Bc (Eh (E3 K) (qv 9) (Ci Aa) Fz) Ag Aa)))) (A3 (Ao 10 Dd (Ay C__law_form I.m (E1 (qv 9) (qv 8) Ag (Ae (B5 K) Aa (Ae Bd (Ae Cc Az Aa) Aa)) (Ai K (Bk (Bc Aj Aj Aj)) (Ae Bd Az Aa))))))) (Ad (Ao 10 Dd (Ay C__law_with_gap I.m (Av (qv 10)))) (Ad (Ao 6 Dd (Ay C__law_gaps I.m (Bc (qv 10) (Ak Bh) (qv 8)))) (Ad (Ek (Ai K (qv 6) (Ae Bd (Ae Cc Az Aa) (Bz K T.len (qv 6)))) (Gj K Dd 11 8)) (Ad (Ao 12 Dd (Ay C__law_form I.m (E1 (qv 9) (qv 8) Ag (Ae (B5 K) Aa (Ae Bd (Ae Cc Az Aa) Aa)) Aj))) (Ad (Ax (B0 (Ay C__law_is_free I.m (Av Ab))) (A3 (Ao 12 Dd (Ay C__law_any I.m (Bc (Eh (E3 K) (Ic K (Ic K (Eh (E3 K) Ab (Ci Aa) (Ci Aa)) (Ci Aa)) (Ci (Ii Ir Aa))) Fz (Ci Aa)) Ag Aa)))) A0) (Ad (Ao 13 Dd (Ay C__law_copy I.m (Av (qv 5)))) (Ad (Ao 14 Dd (Ay C__law_go_on I.m (Dh A6 (qv 13) (qv 7) (qv 10)))) (Ad (Ao 15 Dd (Ay C__law_go_on I.m (Dh A6 (qv 13) (qv 7) (Ay C__law_filled I.m (Bc (qv 10) (qv 11) (qv 12)))))) (Ad (Ax (De (B0 (Ay C__law_same I.m (Ah (qv 13) (qv 5))))) (An Cy) A0) (Ad (Ax (O6 (Ij (qv 14))) (An (Lw (Ij (qv 15)))) A0) (Ad (Ax (De (B0 (Ay C__law_is_record I.m (Av (qv 14))))) (An Cy) A0) (Ad (Ao 16 Dd (Ay C__law_go_on I.m (Dh (Ay C__law_filled I.m (Bc A6 (qv 7) (qv 10))) (qv 14) (Ae (Jo K) (qv 7) (qv 11)) (qv 12)))) (Ad (Ax (QW.qt (Ds (O6 (Ij (qv 16))) (D7 (O6 (Ij (qv 15)))))) (An (Ga (Lw (Ij (qv 16))) (Gf (Lw (Ij (qv 15)))))) A0) (An (Ga (Ay C__law_is_record I.m (Av (qv 16))) (Gf (Ay C__law_same I.m (Ah (qv 15) (qv 16)))))))))))))))))))))))))),?_⟩
  have bg:=big;left;refine⟨a,1,rfl,⟨ms,hS,hn⟩,by decide,by decide,λz1=>?_⟩;left;refine⟨z1,rfl,λpn ts Hn sn cu ae ai=>?_⟩;have as:=sn.seq hS;have ah:Script K Hn a:=⟨ms,as,hn⟩;clear hS cu sn;left;refine⟨a,2,rfl,ah,by decide,by decide,λz2=>?_⟩;left;refine⟨z2,0,rfl,by decide,by decide,λc ej ek=>?_⟩;left;dsimp only[J7];left;refine Gc as λp1 h1=>?_;left;refine⟨p1,_,3,rfl,rfl,by decide,SqL.of Ac,λp2 h2=>?_⟩;left;refine⟨p2,_,-1,rfl,rfl,by decide,SqL.of Ac,λpc h3=>?_⟩;have bw:Hn pc=none:=((Same.upd h1).trans (Same.upd h2)).free h3;obtain⟨d3,e3,l3⟩:=O2 hn (some 3) (some 63);rw[e3]at h3;rw[e3,Zbh];have lc:(B8 (-1) d3).length<=21:=Qb (Zaf _ _) l3;generalize B8 (-1) d3=dc at lc ⊢;have s3:=(Same.upd (o:=.lst (Bf (ms.map V.int) (some 3) (some 63))) h1).trans ((Same.upd (o:=.lst (d3.map V.int)) h2).trans (Same.upd (o:=.lst (dc.map V.int)) h3));have ec:(upd (upd (upd Hn p1 (.lst (Bf (ms.map V.int) (some 3) (some 63)))) p2 (.lst (d3.map V.int))) pc (.lst (dc.map V.int))) pc=some (.lst (dc.map V.int)):=Ac;revert s3 ec;generalize (upd (upd (upd Hn p1 (.lst (Bf (ms.map V.int) (some 3) (some 63)))) p2 (.lst (d3.map V.int))) pc (.lst (dc.map V.int)))=H3;intro s3 ec;have bx:pn≠pc:=λz=>by rw[z,bw]at ai;cases ai
  have up:∀{H6},SameR pc H3 H6->Same Hn H6:=λr b o hb=>r b o (λz=>by rw[z,bw]at hb;cases hb) (s3 _ _ hb);clear h1 h2 h3 e3 l3 bw;refine s_gname ?_;with_reducible refine s_seq ?_
  refine Cv (t:=Cf _ _ _) (R:=LA K a pn c Hn) ?_ ?_;rotate_left
  ·intro Y hY;obtain⟨d4,e4,l4⟩:=O2 hn (some 4) (some 63);left;refine⟨a,rfl,ah.same s3,λbb=>?_⟩;left;refine Be (λ_=>?_) (λ_=>?_)
   ·left;refine⟨pc,pn,ts,dc,30,rfl,by decide,ec,by lia,s3 _ _ ai,bx,ae,λbn t0 H4 ee fr _ _ T0 a9 cw=>?_⟩;have s4:=up fr;left;refine⟨bn,t0,rfl,T0,a9,by lia,λtv t H5 s5 T5 am g5 dr=>?_⟩;have ac:=s4.trans s5;left;dsimp only[J7];left;refine Gc (ac.seq as) λq1 k1=>?_;left;refine⟨q1,_,3,rfl,rfl,by decide,SqL.of Ac,λq2 k2=>?_⟩;rw[e4];have s6:=(Same.upd (o:=.lst (Bf (ms.map V.int) (some 4) (some 63))) k1).trans (Same.upd (o:=.lst (d4.map V.int)) k2);left;refine⟨tv,q2,a,t,d4,rfl,T5.same s6,am,by lia,g5,Ac,l4,ah.same (ac.trans s6),λv o H7 R=>?_⟩;obtain⟨rx,s7,m⟩:=R.x;left;exact hY _ _ ⟨_,tv,v,t,o,rfl,ac.trans (s6.trans s7),T5.same (s6.trans s7),am,g5,by lia,rx,m.t' (by right)⟩
   ·left;refine⟨Bg,λar bq=>?_⟩;have sa:=Same.upd (o:=.lst []) bq;have dt:ar≠pc:=λz=>by rw[z,ec]at bq;cases bq
    left;refine⟨a,0,rfl,ah.same (s3.trans sa),by decide,by decide,λz3=>?_⟩;obtain⟨aa,er,rl,ru⟩:∃k:Nat,1+z3 % 14=(k:Int)/\1<=k/\k<=14:=⟨(1+z3 % 14).toNat,by lia,by lia,by lia⟩;left;rw[er];refine⟨pc,ar,pn,ts,0,aa,"num",rfl,⟨⟨dc,sa _ _ ec,by lia⟩,⟨[],[],Ac,.nil,Pl _⟩,dt,(s3.trans sa) _ _ ai,bx,ae⟩,by lia,rl,by lia,λbn t0 H4 fr T0 a9 cw=>?_⟩;have s4:Same Hn H4:=up λb o nb hb=>fr.r b o nb (sa _ _ hb);left;refine⟨bn,t0,rfl,T0,a9,by lia,λtv t H5 s5 T5 am g5 dr=>?_⟩;have ac:=s4.trans s5;left;dsimp only[J7];left;refine Gc (ac.seq as) λq1 k1=>?_;left;refine⟨q1,_,3,rfl,rfl,by decide,SqL.of Ac,λq2 k2=>?_⟩;rw[e4];have s6:=(Same.upd (o:=.lst (Bf (ms.map V.int) (some 4) (some 63))) k1).trans (Same.upd (o:=.lst (d4.map V.int)) k2);left;refine⟨a,0,rfl,ah.same (ac.trans s6),by decide,by decide,λz4=>?_⟩;left;refine⟨z4,0,rfl,by decide,by decide,λz5 b0 b1=>?_⟩;left;refine⟨tv,q2,z5 % 99,t,d4,rfl,T5.same s6,am,by lia,g5,Ac,l4,by lia,by lia,λv o H7 R=>?_⟩;obtain⟨rx,s7,m⟩:=R.x;left;exact hY _ _ ⟨_,tv,v,t,o,rfl,ac.trans (s6.trans s7),T5.same (s6.trans s7),am,g5,by lia,rx,m.t' (by right)⟩
  clear up ec bx s3 H3 pc dc lc;rintro _ H4 ⟨v3,tv,v,t,o,rfl,s4,T4,tf,hG,hz,rx,md⟩;left;refine⟨Bg,λp5 h5=>?_⟩;have s5:=Same.upd (o:=.tup []) h5;left;refine⟨Bg,λp6 h6=>?_⟩;have s6:=Same.upd (o:=.lst []) h6;left;refine⟨tv,t,p5,p6,[],0,140,F0,rfl,T4.same (s5.trans s6),tf,s6 _ _ Ac,⟨[],[],Ac,.nil,Pl _⟩,by lia,by simp;lia,by lia,by decide,(λz hz=>hz.elim),id,λrg ws H5 s7 e7 a6=>?_⟩;have sB:=s5.trans (s6.trans s7);have w0:0<ws.length:=by rw[a6.1];exact Zg3 hG
  obtain⟨i,hi,ad⟩:∃i:Nat,c / 192 % (ws.length:Nat)=(i:Nat)/\i<ws.length:=by
   have b0:=Qc (c / 192) (show((ws.length:Nat):Int)≠0 by lia);have b1:=Qh (c / 192) (show(0:Int)<(ws.length:Nat) by lia);exact⟨(c / 192 % (ws.length:Nat)).toNat,by lia,by lia⟩
  have hw:=Pj ad;obtain⟨⟨pl,g⟩,hx⟩:∃x,((walk [] t).filter Gk)[i]?=some x:=⟨_,Pj (by rw[<- a6.1];exact ad)⟩;obtain⟨ga,pp,pb,ev,qa,ep,bd,_⟩:=a6.2 i _ _ hw hx;obtain⟨O,a8,bj⟩:=Zjq hx;left;refine Cm (SqL.of e7) ?_;left;refine s_rI (by lia) ?_;rw[hi];refine Bo (SqL.of e7) (Cp hw) ?_;rw[ev];left;refine Du qa rfl ?_;left;dsimp only[J7];left;have an:=s4.trans sB;refine Gc (an.seq as) λq1 k1=>?_;left;refine⟨q1,_,3,rfl,rfl,by decide,SqL.of Ac,λq2 k2=>?_⟩;left;refine⟨q2,_,-1,rfl,rfl,by decide,SqL.of Ac,λpm k3=>?_⟩;have ap:H5 pm=none:=((Same.upd k1).trans (Same.upd k2)).free k3;obtain⟨d5,e5,l5⟩:=O2 hn (some 5) (some 63);rw[e5]at k3;rw[e5,Zbh];have ld:(B8 (-1) d5).length<=21:=Qb (Zaf _ _) l5;generalize B8 (-1) d5=dm at ld ⊢;have sm:=(Same.upd (o:=.lst (Bf (ms.map V.int) (some 5) (some 63))) k1).trans ((Same.upd (o:=.lst (d5.map V.int)) k2).trans (Same.upd (o:=.lst (dm.map V.int)) k3));have em:(upd (upd (upd H5 q1 (.lst (Bf (ms.map V.int) (some 5) (some 63)))) q2 (.lst (d5.map V.int))) pm (.lst (dm.map V.int))) pm=some (.lst (dm.map V.int)):=Ac;revert sm em;generalize (upd (upd (upd H5 q1 (.lst (Bf (ms.map V.int) (some 5) (some 63)))) q2 (.lst (d5.map V.int))) pm (.lst (dm.map V.int)))=Hm;intro sm em;have lm:LM K a pn pm ts t tv v o pp pl pb Hm:=by
   refine⟨(ScN.of (ah.same an) ap).pop λb o _ h=>sm b o h,sm _ _ (an _ _ ai),(λz=>by have h:=an _ _ ai;rw[z,ap]at h;cases h),T4.same (sB.trans sm),?_,sm _ _ ep,bd.same sm,(λz=>by obtain⟨bs,zs,h,_⟩:=bd;rw[z,ap]at h;cases h),dm,em,by lia⟩;exact((rx.same sB.a).mono λb hb di=>absurd (by rw[show b=pm from hb];exact ap) di).same sm.a
  clear k1 k2 k3 e5 l5 ap h5 h6 s5 s6 s7 e7 a6 w0 hi ad hw hx ev qa ep bd an T4 rx sB hG;refine s_gname ?_;with_reducible refine s_seq ?_
  refine Cv (t:=Cf _ _ _) (R:=λbp H'=>eX2 λ(fv:V)(f:Tr)=>bp=[some (.ref a),some (.ref pn),some (.int c),v3,some tv,some v,some (.ref rg),some (.ref pp),some (.ref pb),some (.ref pm),some fv,none,none,none,none,none,none]/\FR pm Hm H'/\TrAt K H' fv f/\Tf f/\f.size<=66) ?_ ?_;rotate_left
  ·intro Y hY;left;refine⟨a,rfl,lm.sc.sc,λbb=>?_⟩;left;refine Be (λ_=>?_) (λ_=>?_)
   ·left;refine Gc (SqL.of em) λq1 k1=>?_;obtain⟨d6,e6,l6⟩:=Zbv dm (some 10) none;rw[e6];have s1:=Same.upd (o:=.lst (d6.map V.int)) k1;left;refine⟨q1,pn,ts,d6,20,rfl,by decide,Ac,by lia,s1 _ _ lm.n,(λz=>by have h:=lm.n;rw[z,k1]at h;cases h),ae,λfv f H6 eg fr _ _ T6 ff dq=>?_⟩;exact hY _ _ ⟨fv,f,rfl,FR.of (λb o hb=>fr b o (λz=>by rw[z,k1]at hb;cases hb) (s1 _ _ hb)) lm.e,T6,ff,by lia⟩
   ·obtain⟨aa,er,rl,ru⟩:∃k:Nat,1+c / 3 % 8=(k:Int)/\1<=k/\k<=8:=⟨(1+c / 3 % 8).toNat,by lia,by lia,by lia⟩;obtain⟨so,du⟩:∃so:Str,Cr [V.str "num",.str "truth",.str "fun"] (c % 3)=some (.str so):=by
     rcases (show c % 3=0\/c % 3=1\/c % 3=2 by lia) with h|h|h <;> rw[h] <;> exact⟨_,rfl⟩
    left;rw[er];refine⟨Br,λq1 k1=>?_⟩;have s1:=Same.upd (o:=.lst [.str "num",.str "truth",.str "fun"]) k1;left;refine Bo (SqL.of Ac) du ?_;have l1:=lm.step (FR.of s1 lm.e);left;refine⟨pm,pb,pn,ts,140,aa,so,rfl,⟨l1.e,l1.b,l1.nb,l1.n,l1.np,ae⟩,by lia,rl,by lia,λfv f H7 fr T7 ff dy=>?_⟩;exact hY _ _ ⟨fv,f,rfl,(FR.of s1 lm.e).trans fr,T7,ff,by lia⟩
  rintro _ H6 ⟨c2,f0,rfl,x6,T6,b7,dq⟩;have ci:=lm.step x6;left;refine⟨c2,f0,rfl,T6,b7,by lia,λfv f H7 s7 T7 ff b3 dy=>?_⟩;have x7:=x6.trans (FR.of s7 ci.e);have ay:=lm.step x7;clear ci x6 T6 b7 em ld;left;refine⟨Bg,λp8 h8=>?_⟩;have s8:=Same.upd (o:=.tup []) h8;have ax:=ay.step (FR.of s8 ay.e);left;refine⟨fv,f,p8,pb,[],140,300,λb=>b=pm,rfl,T7.same s8,ff,Ac,ax.b,by lia,by simp;lia,by lia,by decide,(λz hz=>by obtain⟨cs,e,_⟩:=ax.e;rw[show z=pm from hz,e];exact λz=>nomatch z),ax.nb,λcx aj H9 s9 e9 a7=>?_⟩;have br:=s8.trans s9;have x9:=x7.trans (FR.of br ay.e);have ak:=lm.step x9;have T9:=T7.same br;have w0:0<aj.length:=by rw[a7.1];exact Zg3 b3
  obtain⟨i,hi,ad⟩:∃i:Nat,c / 5000 % (aj.length:Nat)=(i:Nat)/\i<aj.length:=by
   have b0:=Qc (c / 5000) (show((aj.length:Nat):Int)≠0 by lia);have b1:=Qh (c / 5000) (show(0:Int)<(aj.length:Nat) by lia);exact⟨(c / 5000 % (aj.length:Nat)).toNat,by lia,by lia⟩
  have hw:=Pj ad;obtain⟨⟨ql,g2⟩,hx⟩:∃x,((walk [] f).filter Gk)[i]?=some x:=⟨_,Pj (by rw[<- a7.1];exact ad)⟩;obtain⟨ga,qp,qb,ev,qa,ep,bd,b6⟩:=a7.2 i _ _ hw hx;obtain⟨Z,ck,b5⟩:=Zjq hx;left;refine Cm (SqL.of e9) ?_;left;refine s_rI (by lia) ?_;rw[hi];refine Bo (SqL.of e9) (Cp hw) ?_;rw[ev];left;refine Du qa rfl ?_;obtain⟨aa,er,rl,ru⟩:∃k:Nat,1+c / 24 % 8=(k:Int)/\1<=k/\k<=8:=⟨(1+c / 24 % 8).toNat,by lia,by lia,by lia⟩;left;rw[er];refine⟨pm,qb,pn,ts,300,aa,"num",rfl,⟨ak.e,bd,b6,ak.n,ak.np,ae⟩,by lia,rl,by lia,λdf l0 bi a0 cj cp cb=>?_⟩;have xl:=x9.trans a0;have bv:=T9.sameT (a0.t ak.e);have ba:=a0.tup ak.e ep;clear ay x7 T7 h8 s8 ax s9 e9 a7 br w0 hi ad hw hx ev qa ep bd b6 b3 s7;refine s_gname ?_;with_reducible refine s_seq ?_
  refine Cv (t:=Cf _ _ _) (R:=λbp H'=>eX2 λ(lv:V)(l:Tr)=>bp=[some (.ref a),some (.ref pn),some (.int c),v3,some tv,some v,some (.ref cx),some (.ref pp),some (.ref qb),some (.ref pm),some fv,some (.ref qp),some lv,none,none,none,none]/\FR pm Hm H'/\TrAt K H' fv f/\H' qp=some (.tup (A2 ql))/\TrAt K H' lv l/\Tf l/\l.size<=66) ?_ ?_;rotate_left
  ·intro Y hY;have au:=lm.step xl;obtain⟨m2,dg,dn⟩:=au.sc.sc;left;refine⟨a,rfl,au.sc.sc,λbb=>?_⟩;left;refine Be (λ_=>?_) (λ_=>?_)
   ·left;dsimp only[J7];left;refine Gc dg λq1 k1=>?_;left;refine⟨q1,_,3,rfl,rfl,by decide,SqL.of Ac,λq2 k2=>?_⟩;left;refine⟨q2,_,-1,rfl,rfl,by decide,SqL.of Ac,λq3 k3=>?_⟩;left;refine Gc (SqL.of Ac) λq4 k4=>?_;have sl:=(Same.upd k1).trans ((Same.upd k2).trans (Same.upd (o:=.lst (B8 (-1) (B8 3 (Bf (m2.map V.int) (some 5) (some 63))))) k3));have n4:=sl.free k4;obtain⟨d5,e5,l5⟩:=O2 dn (some 5) (some 63);obtain⟨d6,e6,l6⟩:=Zbv (B8 (-1) d5) none (some 10);have l7:=Zaf (-1) d5;have e7:Bf (B8 (-1) (B8 3 (Bf (m2.map V.int) (some 5) (some 63)))) none (some 10)=d6.map V.int:=by rw[e5,Zbh];exact e6
    have e8:(upd (upd (upd (upd bi q1 (.lst (Bf (m2.map V.int) (some 5) (some 63)))) q2 (.lst (B8 3 (Bf (m2.map V.int) (some 5) (some 63))))) q3 (.lst (B8 (-1) (B8 3 (Bf (m2.map V.int) (some 5) (some 63)))))) q4 (.lst (Bf (B8 (-1) (B8 3 (Bf (m2.map V.int) (some 5) (some 63)))) none (some 10)))) q4=some (.lst (d6.map V.int)):=by rw[<- e7];exact Ac
    have s8:=sl.trans (Same.upd (o:=.lst (Bf (B8 (-1) (B8 3 (Bf (m2.map V.int) (some 5) (some 63)))) none (some 10))) k4);revert e8 s8;generalize upd (upd (upd (upd bi q1 (.lst (Bf (m2.map V.int) (some 5) (some 63)))) q2 (.lst (B8 3 (Bf (m2.map V.int) (some 5) (some 63))))) q3 (.lst (B8 (-1) (B8 3 (Bf (m2.map V.int) (some 5) (some 63)))))) q4 (.lst (Bf (B8 (-1) (B8 3 (Bf (m2.map V.int) (some 5) (some 63)))) none (some 10)))=H8;intro e8 s8;left;refine⟨q4,pn,ts,d6,12,rfl,by decide,e8,by lia,s8 _ _ au.n,(λz=>by have h:=au.n;rw[z,n4]at h;cases h),ae,λlv l H9 en fr _ _ T9 fl ei=>?_⟩;have u9:Same bi H9:=λb o hb=>fr b o (λz=>by rw[z,n4]at hb;cases hb) (s8 _ _ hb);exact hY _ _ ⟨lv,l,rfl,xl.trans (FR.of u9 au.e),bv.same u9,u9 _ _ ba,T9,fl,by lia⟩
   ·left;exact hY _ _ ⟨df,l0,rfl,xl,bv,ba,cj,cp,by lia⟩
  clear xl bv ba cj cp cb;rintro _ HA ⟨lv,l,rfl,xA,be,ce,b8,fl,et⟩;have lA:=lm.step xA;clear lm xA ak x9 T9 a0;obtain⟨e1,e2,G1,G2,Jg,dv,g1⟩:=Zsa tf ff fl (by lia) (by lia) (by lia) O a8 bj Z ck b5 md;have z1:(K19.withAt t pl f).size<=t.size+f.size:=L7 O;have z2:(K19.withAt f ql l).size<=f.size+l.size:=L7 Z;have ef:pl.length+1<=t.size:=O4 O;have eo:ql.length+1<=f.size:=O4 Z;have ml:=md.l;have RG:=Zo4 (by lia) md;obtain⟨r0,rd,av,rv,rfl,q0,dj,de,ed,dw⟩:=id lA.r;left;refine⟨r0,rd,av,o.2.2,rv,o.2.1,λb=>b=pm,rfl,q0,de,dw,by lia,λrh qh wh HB sB qr nq eq b4=>?_⟩;have bu:=ThAt.same sB.t _ _ dj;have cq:=b4.mono (RwX.mono (B:=λb=>b=qh) λb hb _=>.inl hb);left;refine lgR (TL:=TL) (o:=o) (lA.t.same sB) (by lia) (SqT.of (sB _ _ lA.p)) (by lia) O a8 bj (be.same sB) md.n.2 (by lia) qr bu eq cq G1 λv1 HC sC D1=>?_;left;have a5:=sB.trans sC;refine⟨fv,lv,f,l,qp,ql,rfl,be.same a5,SqT.of (a5 _ _ ce),Z,by lia,by lia,by lia,b8.same a5,λeu HD sD TD=>?_⟩;left;have ag:=sC.trans sD;have ch:=sB.trans ag;refine lgR (TL:=TL) (o:=o) (lA.t.same ch) (by lia) (SqT.of (ch _ _ lA.p)) (by lia) O a8 bj TD md.n.2 (by lia) (ag.tup qr) (ThAt.same ag.t _ _ bu) (ag _ _ eq) (cq.mono (RwX.same ag.a)) G2 λv2 HE sE D2=>?_;have cn:=ag.trans sE;have c3:RcX K F0 HB (.ref rh) o:=⟨rh,qh,av,wh,rfl,qr,bu,eq,id,b4.mono (RwX.mono λb hb _=>hb.elim)⟩;left;refine⟨_,_,_,6,rfl,by decide,(c3.same cn.a).at.d,(lA.r.same (sB.trans cn).a).at.d,Zg9 RG,λHF sF=>?_⟩;left;cases D1 with
  |none cv bh =>
   subst bh;have al:=Jg cv;refine Jv (by simp) ?_;left;cases D2 with
   |none _ aq=>subst aq;exact q _
   |some o2 _ _ _ _ U=>rw[al]at U;cases U
  |some o1 qf rf af c5 c0 bh cm b9 cc cf ea =>
   subst bh;obtain⟨ao,G3⟩:=g1 o1 c0;refine Fy (by simp) ?_;left;have bo:=sD.trans (sE.trans sF);have cz:RcX K F0 HC (.ref qf) o1:=⟨qf,rf,af,c5,rfl,cm,b9,cc,id,cf.mono (RwX.mono λb hb _=>hb.elim)⟩;refine⟨_,o1,rfl,(cz.same bo.a).at,ao.t,ao.l,ao.n,?_⟩;left;have aw:=a5.trans bo;refine⟨tv,fv,t,f,pp,pl,rfl,lA.t.same aw,SqT.of (aw _ _ lA.p),O,by lia,by lia,by lia,be.same aw,λdz HG sG TG=>?_⟩;left;have bt:=aw.trans sG;refine .inr ⟨pp,qp,_,_,rfl,rfl,bt _ _ lA.p,bt _ _ ce,by rw[Kf,Kf];lia,λr8 H8 s8 q8=>?_⟩;have q8:H8 r8=some (.tup (A2 (pl++ql))):=by
    have e:A2 pl++A2 ql=A2 (pl++ql):=by unfold A2;rw[Qi]
    rw[<- e];exact q8
   left;have a4:=bo.trans (sG.trans s8);have db:=bt.trans s8;refine lgR (TL:=TL) (o:=o1) (TG.same s8) (by lia) (SqT.of q8) (by rw[Pn];lia) (Zg8 O Z) (by rw[Pf O];exact ck) b5 (b8.same db) ao.s ao.n (a4.tup cm) (ThAt.same a4.t _ _ b9) (a4 _ _ cc) ((cf.mono (RwX.mono λb hb _=>.inl hb)).mono (RwX.same a4.a)) G3 λvL HI sI D3=>?_;left;cases D2 with
   |none al aq =>
    subst aq;cases D3 with
    |some o2 _ _ _ _ U=>rw[al]at U;cases U
    |none _ bf =>
     subst bf;refine Jv (by simp) ?_;left;refine Jv (by simp) ?_;left;exact q _
   |some o2 q2 r2 a2 c7 U aq c4 dl c1 dh eb =>
    subst aq;cases D3 with
    |none al _=>rw[al]at U;cases U
    |some o3 q3 r3 a3 c6 ca bf cy cr c9 da eh =>
     subst bf;rw[U]at ca;cases ca;have gd:=dv o2 U;have c8:RcX K F0 HE (.ref q2) o2:=⟨q2,r2,a2,c7,rfl,c4,dl,c1,id,dh.mono (RwX.mono λb hb _=>hb.elim)⟩;have cg:RcX K F0 HI (.ref q3) o2:=⟨q3,r3,a3,c6,rfl,cy,cr,c9,id,da.mono (RwX.mono λb hb _=>hb.elim)⟩;have dk:=sF.trans (sG.trans (s8.trans sI));refine Fy (by simp) ?_;left;refine Fy (by simp) ?_;left;refine⟨_,o2,rfl,cg.at,gd.t,gd.l,gd.n,?_⟩;left;refine⟨_,_,_,6,rfl,by decide,(c8.same dk.a).at.d,cg.at.d,Zg9 gd,λHJ sJ=>?_⟩;left;exact q _
end
local macro_rules | `(tactic| walk_at "zA")=>`(tactic| exact(let +zeta a:=_; let +zeta b:=_; let +zeta c:=_; have +usedOnly q:(‹Stmt›:Stmt)=.Assign a b c:=rfl; .Assign a b c))
local macro_rules | `(tactic| walk_at "zC")=>`(tactic| exact(let +zeta a:=_; let +zeta b:=_; let +zeta c:=_; let +zeta d:=_; let +zeta e:=_; let +zeta f:=_; let +zeta g:=_; let +zeta h:=_; let +zeta i:=_; let +zeta j:=_; let +zeta k:=_; have +usedOnly q:(‹Stmt›:Stmt)=.ClassDef a b c d e f g h i j k:=rfl; .ClassDef a b c d e f g h i j k))
local macro_rules | `(tactic| walk_at "zF")=>`(tactic| exact(let +zeta a:=_; let +zeta b:=_; let +zeta c:=_; let +zeta d:=_; let +zeta e:=_; let +zeta f:=_; let +zeta g:=_; let +zeta h:=_; let +zeta i:=_; let +zeta j:=_; have +usedOnly q:(‹Stmt›:Stmt)=.FunctionDef a b c d e f g h i j:=rfl; .FunctionDef a b c d e f g h i j))
noncomputable def w0:Stmt:=by let +zeta s:=Au 0;walk_at "zA"
noncomputable def w1:Stmt:=by let +zeta s:=Au 1;walk_at "zC"
noncomputable def w2:Stmt:=by let +zeta s:=Au 2;walk_at "zC"
noncomputable def w3:Stmt:=by let +zeta s:=Au 3;walk_at "zC"
noncomputable def w4:Stmt:=by let +zeta s:=Au 4;walk_at "zC"
noncomputable def w5:Stmt:=by let +zeta s:=Au 5;walk_at "zA"
noncomputable def w6:Stmt:=by let +zeta s:=Au 6;walk_at "zF"
noncomputable def w7:Stmt:=by let +zeta s:=Au 7;walk_at "zA"
noncomputable def w8:Stmt:=by let +zeta s:=Au 8;walk_at "zF"
noncomputable def w9:Stmt:=by let +zeta s:=Au 9;walk_at "zF"
noncomputable def w10:Stmt:=by let +zeta s:=Au 10;walk_at "zF"
noncomputable def w11:Stmt:=by let +zeta s:=Au 11;walk_at "zF"
noncomputable def w12:Stmt:=by let +zeta s:=Au 12;walk_at "zF"
noncomputable def w13:Stmt:=by let +zeta s:=Au 13;walk_at "zF"
noncomputable def w14:Stmt:=by let +zeta s:=Au 14;walk_at "zA"
noncomputable def w15:Stmt:=by let +zeta s:=Au 15;walk_at "zF"
noncomputable def w16:Stmt:=by let +zeta s:=Au 16;walk_at "zA"
noncomputable def w17:Stmt:=by let +zeta s:=Au 17;walk_at "zF"
noncomputable def w18:Stmt:=by let +zeta s:=Au 18;walk_at "zA"
noncomputable def w19:Stmt:=by let +zeta s:=Au 19;walk_at "zF"
noncomputable def w20:Stmt:=by let +zeta s:=Au 20;walk_at "zA"
noncomputable def w21:Stmt:=by let +zeta s:=Au 21;walk_at "zA"
noncomputable def w22:Stmt:=by let +zeta s:=Au 22;walk_at "zA"
noncomputable def w23:Stmt:=by let +zeta s:=Au 23;walk_at "zA"
noncomputable def w24:Stmt:=by let +zeta s:=Au 24;walk_at "zF"
noncomputable def w25:Stmt:=by let +zeta s:=Au 25;walk_at "zF"
noncomputable def Zk3:Stmt:=by let +zeta s:=(Cn 26 0);walk_at "zF"
noncomputable def Zrc:Stmt:=by let +zeta s:=(Cn 26 1);walk_at "zF"
noncomputable def Zrm:Stmt:=by let +zeta s:=(Cn 26 2);walk_at "zF"
noncomputable def Zul:Stmt:=by let +zeta s:=(Cn 26 3);walk_at "zF"
noncomputable def Zl5:Stmt:=by let +zeta s:=(Cn 26 4);walk_at "zF"
noncomputable def Zp5:Stmt:=by let +zeta s:=(Cn 26 5);walk_at "zF"
noncomputable def Zrt:Stmt:=by let +zeta s:=(Cn 26 6);walk_at "zF"
noncomputable def Zn5:Stmt:=by let +zeta s:=(Cn 26 7);walk_at "zF"
noncomputable def Zlq:Stmt:=by let +zeta s:=(Cn 26 8);walk_at "zF"
noncomputable def Zv2:Stmt:=by let +zeta s:=(Cn 26 9);walk_at "zF"
noncomputable def Zve:Stmt:=by let +zeta s:=(Cn 26 10);walk_at "zF"
noncomputable def Zm1:Stmt:=by let +zeta s:=(Cn 26 11);walk_at "zF"
noncomputable def Zun:Stmt:=by let +zeta s:=(Cn 26 12);walk_at "zF"
noncomputable def w26:Stmt:=let +zeta a:=_;let +zeta b:=_;let +zeta c:=_;let +zeta d:=_;let +zeta e:=_;let +zeta f:=_;let +zeta g:=_;let +zeta h:=_;let +zeta i:=_;let +zeta j:=_;let +zeta k:=_;have +usedOnly q:Au 26=.ClassDef a b c d e f g h i j k:=rfl;.ClassDef a b c [Zk3,Zrc,Zrm,Zul,Zl5,Zp5,Zrt,Zn5,Zlq,Zv2,Zve,Zm1,Zun] e f g h i j k
noncomputable def w27:Stmt:=by let +zeta s:=Au 27;walk_at "zA"
noncomputable def w28:Stmt:=by let +zeta s:=Au 28;walk_at "zF"
noncomputable def w29:Stmt:=by let +zeta s:=Au 29;walk_at "zF"
noncomputable def w30:Stmt:=by let +zeta s:=Au 30;walk_at "zF"
noncomputable def w31:Stmt:=by let +zeta s:=Au 31;walk_at "zA"
noncomputable def w32:Stmt:=by let +zeta s:=Au 32;walk_at "zF"
noncomputable def w33:Stmt:=by let +zeta s:=Au 33;walk_at "zF"
noncomputable def w34:Stmt:=by let +zeta s:=Au 34;walk_at "zF"
noncomputable def w35:Stmt:=by let +zeta s:=Au 35;walk_at "zF"
noncomputable def w36:Stmt:=by let +zeta s:=Au 36;walk_at "zF"
noncomputable def w37:Stmt:=by let +zeta s:=Au 37;walk_at "zF"
noncomputable def w38:Stmt:=by let +zeta s:=Au 38;walk_at "zF"
noncomputable def w39:Stmt:=by let +zeta s:=Au 39;walk_at "zF"
noncomputable def w40:Stmt:=by let +zeta s:=Au 40;walk_at "zF"
noncomputable def w41:Stmt:=by let +zeta s:=Au 41;walk_at "zF"
noncomputable def w42:Stmt:=by let +zeta s:=Au 42;walk_at "zF"
noncomputable def w43:Stmt:=by let +zeta s:=Au 43;walk_at "zF"
noncomputable def w44:Stmt:=by let +zeta s:=Au 44;walk_at "zF"
noncomputable def w45:Stmt:=by let +zeta s:=Au 45;walk_at "zF"
noncomputable def w46:Stmt:=by let +zeta s:=Au 46;walk_at "zF"
noncomputable def w47:Stmt:=by let +zeta s:=Au 47;walk_at "zF"
noncomputable def w48:Stmt:=by let +zeta s:=Au 48;walk_at "zF"
noncomputable def w49:Stmt:=by let +zeta s:=Au 49;walk_at "zF"
noncomputable def w50:Stmt:=by let +zeta s:=Au 50;walk_at "zF"
noncomputable def w51:Stmt:=by let +zeta s:=Au 51;walk_at "zF"
noncomputable def w52:Stmt:=by let +zeta s:=Au 52;walk_at "zF"
noncomputable def w53:Stmt:=by let +zeta s:=Au 53;walk_at "zF"
noncomputable def w54:Stmt:=by let +zeta s:=Au 54;walk_at "zF"
noncomputable def w55:Stmt:=by let +zeta s:=Au 55;walk_at "zF"
noncomputable def w56:Stmt:=by let +zeta s:=Au 56;walk_at "zF"
noncomputable def w57:Stmt:=by let +zeta s:=Au 57;walk_at "zF"
noncomputable def pk0 (r:List Stmt):List Stmt:=w0::w1::w2::w3::w4::w5::w6::w7::r
noncomputable def pk1 (r:List Stmt):List Stmt:=w8::w9::w10::w11::w12::w13::w14::w15::r
noncomputable def pk2 (r:List Stmt):List Stmt:=w16::w17::w18::w19::w20::w21::w22::w23::r
noncomputable def pk3 (r:List Stmt):List Stmt:=w24::w25::w26::w27::w28::w29::w30::w31::r
noncomputable def pk4 (r:List Stmt):List Stmt:=w32::w33::w34::w35::w36::w37::w38::w39::r
noncomputable def pk5 (r:List Stmt):List Stmt:=w40::w41::w42::w43::w44::w45::w46::w47::r
noncomputable def pk6 (r:List Stmt):List Stmt:=w48::w49::w50::w51::w52::w53::w54::w55::r
noncomputable def pk7 (r:List Stmt):List Stmt:=w56::w57::r
noncomputable def PWc:Program:=let +zeta a:=_;let +zeta b:=_;let +zeta c:=_;let +zeta d:=_;let +zeta e:=_;let +zeta f:=_;let +zeta g:=_;let +zeta h:=_;let +zeta i:=_;let +zeta j:=_;have +usedOnly q:Sz=⟨⟨a,b,c,d,e⟩,f,g,h,i,j⟩:=rfl;⟨⟨pk0 (pk1 (pk2 (pk3 (pk4 (pk5 (pk6 (pk7 []))))))),b,c,d,e⟩,f,g,h,i,j⟩
theorem e_PW:PWc=PWc:=rfl
name_quick x_PW for K59.PWc by K59.e_PW
end K59
noncomputable def PySem.W.Fast.tw15280097636233169172:PySem.Program:=PySem.W.Fast.tw13203577539177253995
theorem PySem.W.Fast.te15280097636233169172:Sz=PySem.W.Fast.tw15280097636233169172:=(rfl:Sz=K59.PWc).trans PySem.W.Fast.te13203577539177253995
namespace K59
open PySem L2
noncomputable def vk0 (r:List Stmt):List Stmt:=w1::w2::w3::w4::w6::w8::w9::w10::r
noncomputable def vk1 (r:List Stmt):List Stmt:=w11::w12::w13::w15::w17::w19::w21::w22::r
noncomputable def vk2 (r:List Stmt):List Stmt:=w23::w24::w25::w26::w28::w29::w30::w32::r
noncomputable def vk3 (r:List Stmt):List Stmt:=w33::w34::w35::w36::w37::w38::w39::w40::r
noncomputable def vk4 (r:List Stmt):List Stmt:=w41::w42::w43::w44::w45::w46::w47::w48::r
noncomputable def vk5 (r:List Stmt):List Stmt:=w49::w50::w51::w52::w53::w54::w55::w56::r
noncomputable def vk6 (r:List Stmt):List Stmt:=w57::r
noncomputable def VWc:Program:={ Sz with main:={ Sz.main with body:=vk0 (vk1 (vk2 (vk3 (vk4 (vk5 (vk6 [])))))) } }
noncomputable def S0:List Stmt:=[w26]
noncomputable def S1:List Stmt:=[w0,w1]
noncomputable def S2:List Stmt:=[w52,w53,w54,w55,w56,w57]
noncomputable def S3:List Stmt:=[w27,w28,w29,w30,w31,w32,w33,w34,w35,w36,w37,w38,w39]
noncomputable def S4:List Stmt:=[w25]
noncomputable def S5:List Stmt:=[w40,w41,w42,w43,w44,w45,w46,w47,w48,w49,w50,w51]
noncomputable def S6:List Stmt:=[w2]
noncomputable def S7:List Stmt:=[w3]
noncomputable def S8:List Stmt:=[w4,w5,w6,w7,w8,w9,w10]
noncomputable def S9:List Stmt:=[w11,w12,w13,w14,w15,w16,w17,w18,w19,w20,w21,w22,w23,w24]
noncomputable def SB:Program×List (List Stmt):=(VWc,[S0,S1,S2,S3,S4,S5,S6,S7,S8,S9])
theorem e_SB:SB=SB:=rfl
name_quick x_SB for K59.SB by K59.e_SB
end K59
noncomputable def PySem.W.Fast.tw17905794393548390953:PySem.Program:=PySem.W.Fast.tw6022003870836516045
theorem PySem.W.Fast.te17905794393548390953:K59.VWc=PySem.W.Fast.tw17905794393548390953:=PySem.W.Fast.te6022003870836516045
noncomputable def PySem.W.Fast.tw6490540459688515714:List Rq:=PySem.W.Fast.tw11814912600902895809
theorem PySem.W.Fast.te6490540459688515714:K59.S0=PySem.W.Fast.tw6490540459688515714:=PySem.W.Fast.te11814912600902895809
noncomputable def PySem.W.Fast.tw15580221122008713669:List Rq:=PySem.W.Fast.tw7741032352362581532
theorem PySem.W.Fast.te15580221122008713669:K59.S1=PySem.W.Fast.tw15580221122008713669:=PySem.W.Fast.te7741032352362581532
noncomputable def PySem.W.Fast.tw17459587133830601221:List Rq:=PySem.W.Fast.tw15013219050067304843
theorem PySem.W.Fast.te17459587133830601221:K59.S2=PySem.W.Fast.tw17459587133830601221:=PySem.W.Fast.te15013219050067304843
noncomputable def PySem.W.Fast.tw16020336319171159914:List Rq:=PySem.W.Fast.tw8258945011725427933
theorem PySem.W.Fast.te16020336319171159914:K59.S3=PySem.W.Fast.tw16020336319171159914:=PySem.W.Fast.te8258945011725427933
noncomputable def PySem.W.Fast.tw1650235574268206288:List Rq:=PySem.W.Fast.tw7843098951293748424
theorem PySem.W.Fast.te1650235574268206288:K59.S4=PySem.W.Fast.tw1650235574268206288:=PySem.W.Fast.te7843098951293748424
noncomputable def PySem.W.Fast.tw3207309433679670515:List Rq:=PySem.W.Fast.tw668966518697141472
theorem PySem.W.Fast.te3207309433679670515:K59.S5=PySem.W.Fast.tw3207309433679670515:=PySem.W.Fast.te668966518697141472
noncomputable def PySem.W.Fast.tw3870701138011717588:List Rq:=PySem.W.Fast.tw4765962333269917657
theorem PySem.W.Fast.te3870701138011717588:K59.S6=PySem.W.Fast.tw3870701138011717588:=PySem.W.Fast.te4765962333269917657
noncomputable def PySem.W.Fast.tw11377318378865976791:List Rq:=PySem.W.Fast.tw9285683761358033497
theorem PySem.W.Fast.te11377318378865976791:K59.S7=PySem.W.Fast.tw11377318378865976791:=PySem.W.Fast.te9285683761358033497
noncomputable def PySem.W.Fast.tw15268620122693951581:List Rq:=PySem.W.Fast.tw14963876669860993350
theorem PySem.W.Fast.te15268620122693951581:K59.S8=PySem.W.Fast.tw15268620122693951581:=PySem.W.Fast.te14963876669860993350
noncomputable def PySem.W.Fast.tw15007647357975831966:List Rq:=PySem.W.Fast.tw16341689482247835789
theorem PySem.W.Fast.te15007647357975831966:K59.S9=PySem.W.Fast.tw15007647357975831966:=PySem.W.Fast.te16341689482247835789
namespace K59
open PySem L2 PySem.W
noncomputable def zs (i j:Nat):Stmt:=match Au i with|.ClassDef _ _ _ b _ _ _ _ _ _ _=>b.getD j (.Pass ⟨0,0,0,0⟩)|s=>s
noncomputable def ze (P:Params)(s:Str)(t:Tok)(v:Value):DictEntry:=⟨PyData.keyHash P s,.str s t,v⟩
noncomputable abbrev B:=Q9
noncomputable def evb (l:List Obj):Bool->List Obj:=@List.rec Obj (λ_=>Bool->List Obj) (λ_=>[]) (λa _ I b=>@Bool.rec (λ_=>List Obj) (I true) (a::I false) b) l
noncomputable def tO (l:List Obj):B:=@Nat.rec (λ_=>List Obj->B) (λ_=>.nil) (λ_ I l=>@List.rec Obj (λ_=>B) .nil (λx r _=>.node x (I (evb r true)) (I (evb r false))) l) 12 l
noncomputable def zv:List (Str×Tok)->List Value
 |[]=>[]
 | (a,b)::t=>.str a b::zv t
noncomputable def zu (l:List (Str×Tok)):Obj:=⟨.type "tuple",none,.seq ⟨zv l⟩,#[]⟩
noncomputable def zt (c:String)(d:Data):Obj:=⟨.type c,none,d,#[]⟩
noncomputable def zf (n q:Str)(s:Stmt)(m:Str)(t:Tok)(c:Addr):Obj:=⟨.type "function",none,.func (Sg n q (Hu s) (Gh s) (A5 s) .none .none .none (.str m t) none (.ref c) .none),#[]⟩
noncomputable def zh (n q:Str)(s:Stmt):Obj:=⟨.none,none,.func ⟨n,q,Hu s,.stmts (Gh s),A5 s,0,[],.none,.none,.none,.none,none,.none,.none,0⟩,#[]⟩
noncomputable def zk (n q:Str)(t:Tok)(l a g:Int)(r:Addr)(b:Bool)(x:Value)(u:Int)(v:Tok):Obj:=⟨.type "code",none,.fields #[.str n t,.str q (t+1),.str "/claim/cut.py" (t+2),.int l 0,.int a 0,.int 0 0,.int 0 0,.int g 0,.ref r,.bool b,.int 181 0,.ref (r+1),.none,.none,.none,x,.int u 0,.int l 0,.str "/claim/cut.py" v],#[]⟩
noncomputable def zw:List (Int×Int×Addr)->List Value
 |[]=>[]
 | (a,b,c)::t=>.int a 0::.int b 0::.ref c::zw t
noncomputable def zy (l:List (Int×Int×Addr)):Obj:=⟨.none,none,.fields ⟨zw l⟩,#[]⟩
noncomputable def zc (n q:Str)(t:Tok)(l a g:Int)(r:Addr)(u:Int)(v:Tok):Obj:=⟨.type "code",none,.fields #[.str n t,.str q (t+1),.str "/claim/cut.py" (t+2),.int l 0,.int a 0,.int 0 0,.int 0 0,.int g 0,.ref r,.bool true,.int 181 0,.ref (r+1),.none,.ref (r+2),.ref (r+3),.ref (r+4),.int u 0,.int l 0,.str "/claim/cut.py" v],#[]⟩
structure zG where
 n:Str
 q:Str
 m:Str×Tok
 t:Tok
 r:Addr
def zA (n:Str)(m:Str×Tok)(t:Tok)(r:Addr):zG:=⟨n,n,m,t,r⟩
noncomputable def zN:List (Str×NameKind)->Tok->List Value
 |[],_=>[]
 | (n,.local)::l,t=>.str n t::zN l (t+1)
 |_::l,t=>zN l t
noncomputable def zln (s:Stmt):Int:=match s with|.FunctionDef _ _ _ _ _ _ _ _ _ p=>p.line|_=>0
noncomputable def zfo (g:zG)(s:Stmt):Obj:=zf g.n g.q s g.m.1 g.m.2 (g.r+5)
noncomputable def zjo (g:zG)(s:Stmt):Obj:=zf g.n g.q s g.m.1 g.m.2 (g.r+3)
noncomputable def zal (s:Stmt):Int:=(Hu s).args.length
noncomputable def zco (g:zG)(s:Stmt):Obj:=zc g.n g.q g.t (zln s) (zal s) 3 g.r (g.t+3+(zN (A5 s).names 0).length:Nat) (g.t+4+(zN (A5 s).names 0).length)
noncomputable def zko (g:zG)(s:Stmt):Obj:=zk g.n g.q g.t (zln s) (zal s) 3 g.r true (.ref (g.r+2)) (g.t+3:Nat) (g.t+4)
noncomputable def zem:Obj:=zt "tuple" (.seq #[])
noncomputable def zmt:Obj:=⟨.none,none,.fields #[],#[]⟩
noncomputable def A8 (g:zG)(s:Stmt)(t:List Obj):List Obj:=zem::zmt::zt "tuple" (.seq ⟨zN (A5 s).names (g.t+3)⟩)::zem::zh g.n g.q s::zco g s::zfo g s::t
noncomputable def Ei (g:zG)(s:Stmt)(t:List Obj):List Obj:=zem::zmt::zh g.n g.q s::zko g s::zjo g s::t
noncomputable section
def d0 (P:Params):=[ze P "__name__" 165 (.str "gapscribe.errors" 187),ze P "__doc__" 166 .none,ze P "__package__" 167 .none,ze P "__loader__" 168 (.builtin "__main__.__loader__#opaque"),ze P "__spec__" 169 .none,ze P "__annotations__" 170 (.ref 6),ze P "__builtins__" 171 (.ref 4),ze P "__file__" 173 (.str "/claim/cut.py" 172),ze P "__cached__" 174 .none,ze P "GapError" 206 (.ref 24),ze P "NoDeed" 222 (.ref 37)]
def z0 (P:Params):=zt "dict" (.dict ⟨d0 P⟩ 11)
def z1:=zt "tuple" (.seq #[])
noncomputable def y0:List (Int×Int×Addr):=[(2,0,20),(4,0,33)]
def z2:=zy y0
def z3:=zk "<module>" "<module>" 182 1 0 0 11 false .none 185 186
noncomputable def Ko (x0:Nat)(x1:Nat)(x2:Str)(x3:Nat):Obj:=Obj.mk (.type "frame") none Data.plain #[some (.ref x0),some (.ref 3),some (.ref x1),none,some (.str x2 x3),none,some (.ref 0)]
def z4:=Ko 13 3 "__main__" 164
def z5:=zt "tuple" (.seq #[.type "ValueError"])
def z6:=zt "builtin_function_or_method" (.fields #[.builtin "type.__prepare__",.type "type"])
def zq1 (P:Params)(x0:Nat)(x1:Str)(x2:Int)(x3:Nat):Obj:=zt "dict" (.dict #[ze P "__module__" x0 (.str "gapscribe.errors" 187),ze P "__qualname__" (x0+2) (.str x1 (x0+1)),ze P "__firstlineno__" (x0+4) (.int x2 (x0+3)),ze P "__static_attributes__" (x0+5) (.ref x3)] 4)
def z7 (P:Params):=zq1 P 196 "GapError" 2 22
noncomputable def z8:=Obj.mk .none none (.fields #[]) #[]
def z9:=zk "GapError" "GapError" 191 2 0 0 18 false .none 194 195
def z10:=Ko 20 17 "gapscribe.errors" 187
def z11 (P:Params):=zt "dict" (.dict #[ze P "__module__" 196 (.str "gapscribe.errors" 187),ze P "__firstlineno__" 200 (.int 2 199),ze P "__static_attributes__" 201 (.ref 22),ze P "__weakref__" 203 (.ref 25),ze P "__doc__" 204 .none] 3)
noncomputable def zq2 (x0:List Value):Obj:=Obj.mk (.type "type") none (.cls (ClassData.mk "GapError" [.type "ValueError"] [.ref 24,.type "ValueError",.type "Exception",.type "BaseException",.type "object"] 23 "GapError" true [] x0 false none false)) #[some (.ref 15),none,some (.str "GapError" 189),some (.str "GapError" 197),some (.builtin "ValueError.__new__"),some (.bool true)]
def z12:=zq2 [.ref 37]
def z13:=zt "getset_descriptor" (.fields #[.str "__weakref__" 202,.ref 24,.builtin "ExceptionGroup.__weakref__",.none])
def z14:=zt "super" (.fields #[.ref 24,.ref 24,.ref 24])
def zq3 (x0:Nat):Obj:=zt "builtin_function_or_method" (.fields #[.builtin "object.__init_subclass__",.ref x0])
def z15:=zq3 24
def z16:=zt "tuple" (.seq #[.ref 24])
def z17 (P:Params):=zq1 P 214 "NoDeed" 4 35
def z18:=zk "NoDeed" "NoDeed" 209 4 0 0 31 false .none 212 213
def z19:=Ko 33 30 "gapscribe.errors" 187
def z20 (P:Params):=zt "dict" (.dict #[ze P "__module__" 214 (.str "gapscribe.errors" 187),ze P "__firstlineno__" 218 (.int 4 217),ze P "__static_attributes__" 219 (.ref 35),ze P "__doc__" 220 .none] 2)
noncomputable def zq4 (x0:Str)(x1:Nat)(x2:Nat)(x3:Nat)(x4:Nat):Obj:=Obj.mk (.type "type") none (.cls (ClassData.mk x0 [.ref 24] [.ref x1,.ref 24,.type "ValueError",.type "Exception",.type "BaseException",.type "object"] x2 x0 true [] [] false none false)) #[some (.ref x3),none,some (.str x0 x4),some (.str x0 (x4+8)),some (.builtin "ValueError.__new__"),some (.bool true)]
def z21:=zq4 "NoDeed" 37 36 28 207
def z22:=zt "super" (.fields #[.ref 37,.ref 37,.ref 37])
def z23:=zq3 37
def h0_0 (P:Params)(t:List Obj):=(boot_o_0 P)::(boot_o_1 P)::(boot_o_2 P)::(z0 P)::(boot_o_4 P)::(boot_o_5 P)::(boot_o_6 P)::(boot_o_7 P)::(boot_o_8 P)::(boot_o_9 P)::(boot_o_10 P)::z1::z2::z3::t
def h1_0 (P:Params)(t:List Obj):=z4::z5::z6::(z7 P)::z1::z8::z9::z10::z1::(z11 P)::z12::z13::z14::z15::t
def h2_0 (P:Params)(t:List Obj):=z16::z6::(z17 P)::z1::z8::z18::z19::z1::(z20 P)::z21::z22::z23::t
def Rtree_78:Params->B:=λP=>tO (h0_0 P (h1_0 P (h2_0 P [])))
def d1 (P:Params):=d0 P++[ze P "TooLong" 238 (.ref 49)]
def z24 (P:Params):=zt "dict" (.dict ⟨d1 P⟩ 12)
def y1:List (Int×Int×Addr):=y0++[(6,0,45)]
def z25:=zy y1
def z26:=zq2 [.ref 37,.ref 49]
def z27 (P:Params):=zq1 P 230 "TooLong" 6 47
def z28:=zk "TooLong" "TooLong" 225 6 0 0 43 false .none 228 229
def z29:=Ko 45 42 "gapscribe.errors" 187
def z30 (P:Params):=zt "dict" (.dict #[ze P "__module__" 230 (.str "gapscribe.errors" 187),ze P "__firstlineno__" 234 (.int 6 233),ze P "__static_attributes__" 235 (.ref 47),ze P "__doc__" 236 .none] 2)
def z31:=zq4 "TooLong" 49 48 40 223
def z32:=zt "super" (.fields #[.ref 49,.ref 49,.ref 49])
def z33:=zq3 49
def Hb (P:Params)(x0 x1:Obj)(t:List Obj):List Obj:=(boot_o_0 P)::(boot_o_1 P)::(boot_o_2 P)::x0::(boot_o_4 P)::(boot_o_5 P)::(boot_o_6 P)::(boot_o_7 P)::(boot_o_8 P)::(boot_o_9 P)::(boot_o_10 P)::z1::x1::z3::t
def h3_0 (P:Params)(t:List Obj):=Hb P (z24 P) z25 t
def h4_0 (P:Params)(t:List Obj):=z4::z5::z6::(z7 P)::z1::z8::z9::z10::z1::(z11 P)::z26::z13::z14::z15::t
def Gy (P:Params)(t:List Obj):List Obj:=z16::z6::(z17 P)::z1::z8::z18::z19::z1::(z20 P)::z21::z22::z23::z16::z6::t
def h6_0 (P:Params)(t:List Obj):=(z27 P)::z1::z8::z28::z29::z1::(z30 P)::z31::z32::z33::t
def Rtree_93:Params->B:=λP=>tO (h3_0 P (h4_0 P (Gy P (h6_0 P []))))
def d2 (P:Params):=[ze P "__name__" 165 (.str "gapscribe.places" 273),ze P "__doc__" 166 .none,ze P "__package__" 167 .none,ze P "__loader__" 168 (.builtin "__main__.__loader__#opaque"),ze P "__spec__" 169 .none,ze P "__annotations__" 170 (.ref 6),ze P "__builtins__" 171 (.ref 4),ze P "__file__" 173 (.str "/claim/cut.py" 172),ze P "__cached__" 174 .none,ze P "GapError" 206 (.ref 24),ze P "NoDeed" 222 (.ref 37),ze P "TooLong" 238 (.ref 49),ze P "NoPlace" 263 (.ref 68),ze P "is_whole" 272 (.ref 77),ze P "placed_forms" 286 (.ref 84),ze P "has_part" 294 (.ref 91),ze P "forms_down_to" 304 (.ref 98)]
def z34 (P:Params):=zt "dict" (.dict ⟨d2 P⟩ 17)
def y2:List (Int×Int×Addr):=y1++[(8,0,57),(13,0,76),(16,0,83),(25,0,90),(27,0,97)]
def z35:=zy y2
def z36:=zq2 [.ref 37,.ref 49,.ref 68]
def d3 (P:Params):=[ze P "__module__" 246 (.str "gapscribe.errors" 187),ze P "__qualname__" 248 (.str "NoPlace" 247),ze P "__firstlineno__" 250 (.int 8 249),ze P "__init__" 258 (.ref 65),ze P "__static_attributes__" 260 (.ref 66)]
def z37 (P:Params):=zt "dict" (.dict ⟨d3 P⟩ 5)
noncomputable def y3:List (Int×Int×Addr):=[(10,4,64)]
def z38:=zy y3
def z39:=zk "NoPlace" "NoPlace" 241 8 0 0 55 false .none 244 245
def z40:=Ko 57 54 "gapscribe.errors" 187
def gm0:Str×Tok:=("gapscribe.errors",187)
def g0:zG:=zG.mk "__init__" "NoPlace.__init__" gm0 251 59
def z41:=zu [("place",259)]
def z42 (P:Params):=zt "dict" (.dict #[ze P "__module__" 246 (.str "gapscribe.errors" 187),ze P "__firstlineno__" 250 (.int 8 249),ze P "__init__" 258 (.ref 65),ze P "__static_attributes__" 260 (.ref 66),ze P "__doc__" 261 .none] 2)
def z43:=zq4 "NoPlace" 68 67 52 239
def z44:=zt "super" (.fields #[.ref 68,.ref 68,.ref 68])
def z45:=zq3 68
def gm1:Str×Tok:=("gapscribe.forms",264)
def g1:zG:=zA "is_whole" gm1 266 71
def K9:Str×Tok:=("gapscribe.places",273)
def g2:zG:=zA "placed_forms" K9 275 78
def g3:zG:=zA "has_part" K9 287 85
def g4:zG:=zA "forms_down_to" K9 295 92
def h7_0 (P:Params)(t:List Obj):=Hb P (z34 P) z35 t
def Hf (P:Params)(t:List Obj):List Obj:=z4::z5::z6::(z7 P)::z1::z8::z9::z10::z1::(z11 P)::z36::z13::z14::z15::t
def G9 (P:Params)(t:List Obj):List Obj:=(z27 P)::z1::z8::z28::z29::z1::(z30 P)::z31::z32::z33::z16::z6::(z37 P)::z1::t
def Zuc (P:Params)(t:List Obj):List Obj:=z38::z39::z40::A8 g0 (Cn 4 0) (z41::(z42 P)::z43::z44::z45::A8 g1 Me (A8 g2 L9 (A8 g3 Mb (A8 g4 M8 t))))
def Rtree_143:Params->B:=λP=>tO (h7_0 P (Hf P (Gy P (G9 P (Zuc P [])))))
def d4 (P:Params):=[ze P "__name__" 165 (.str "gapscribe.machine" 364),ze P "__doc__" 166 .none,ze P "__package__" 167 .none,ze P "__loader__" 168 (.builtin "__main__.__loader__#opaque"),ze P "__spec__" 169 .none,ze P "__annotations__" 170 (.ref 6),ze P "__builtins__" 171 (.ref 4),ze P "__file__" 173 (.str "/claim/cut.py" 172),ze P "__cached__" 174 .none,ze P "GapError" 206 (.ref 24),ze P "NoDeed" 222 (.ref 37),ze P "TooLong" 238 (.ref 49),ze P "NoPlace" 263 (.ref 68),ze P "is_whole" 272 (.ref 77),ze P "placed_forms" 286 (.ref 84),ze P "has_part" 294 (.ref 91),ze P "forms_down_to" 304 (.ref 98),ze P "form_at" 312 (.ref 105),ze P "with_part" 322 (.ref 112),ze P "with_at" 334 (.ref 119),ze P "refuse_no_gap" 343 (.ref 126),ze P "is_finished" 353 (.ref 133),ze P "names_bound" 363 (.ref 140),ze P "MOST_STEPS" 367 (.int 500 366),ze P "PARTS_AWAITED" 390 (.ref 141),ze P "WORDS_WITH_AROUND" 395 (.ref 148),ze P "are_numbers" 401 (.ref 153)]
def z46 (P:Params):=zt "dict" (.dict ⟨d4 P⟩ 27)
def y4:List (Int×Int×Addr):=y2++[(34,0,104),(36,0,111),(39,0,118),(45,0,125),(49,0,132),(52,0,139),(64,0,152)]
def z47:=zy y4
def g5:zG:=zA "form_at" K9 305 99
def g6:zG:=zA "with_part" K9 313 106
def g7:zG:=zA "with_at" K9 323 113
def gm3:Str×Tok:=("gapscribe.deeds",335)
def g8:zG:=zA "refuse_no_gap" gm3 337 120
def gm4:Str×Tok:=("gapscribe.rows",344)
def g9:zG:=zA "is_finished" gm4 346 127
def gm5:Str×Tok:=("gapscribe.scopes",354)
def g10:zG:=zA "names_bound" gm5 356 134
def z48 (P:Params):=zt "dict" (.dict #[ze P "plus" 368 (.ref 142),ze P "minus" 371 (.ref 143),ze P "less" 374 (.ref 144),ze P "call" 377 (.ref 145),ze P "if" 380 (.ref 146),ze P "let" 382 (.ref 147)] 6)
def z49:=zt "tuple" (.seq #[.int 1 369,.int 0 370])
def z50:=zt "tuple" (.seq #[.int 1 372,.int 0 373])
def z51:=zt "tuple" (.seq #[.int 1 375,.int 0 376])
def z52:=zt "tuple" (.seq #[.int 1 378,.int 0 379])
def z53:=zt "tuple" (.seq #[.int 0 381])
def z54:=zt "tuple" (.seq #[.int 0 383])
def z55:=zu [("gap",391),("fn",392),("rec",393),("if",394)]
def En:Str×Tok:=("gapscribe.machine",364)
def g11:zG:=zA "are_numbers" En 396 149
def Zlb (P:Params)(t:List Obj):List Obj:=Hb P (z46 P) z47 t
def Hq (P:Params)(t:List Obj):List Obj:=z38::z39::z40::A8 g0 (Cn 4 0) (z41::(z42 P)::z43::z44::z45::A8 g1 Me (A8 g2 L9 (A8 g3 Mb (A8 g4 M8 (A8 g5 Oy t)))))
def Hx (P:Params)(t:List Obj):List Obj:=A8 g6 Zad (A8 g7 Ox (A8 g8 Zam (A8 g9 O3 (A8 g10 Pa ((z48 P)::z49::z50::z51::z52::z53::z54::z55::Ei g11 N1 t)))))
def Rtree_200:Params->B:=λP=>tO (Zlb P (Hf P (Gy P (G9 P (Hq P (Hx P []))))))
def d5 (P:Params):=d4 P++[ze P "reckoned" 410 (.ref 160)]
def z56 (P:Params):=zt "dict" (.dict ⟨d5 P⟩ 28)
def y5:List (Int×Int×Addr):=y4++[(66,0,159)]
def z57:=zy y5
def Jg:zG:=zA "reckoned" En 402 154
def Zs6 (P:Params)(t:List Obj):List Obj:=Hb P (z56 P) z57 t
def Znb (P:Params)(t:List Obj):List Obj:=A8 Jg Le t
def Rtree_211:Params->B:=λP=>tO (Zs6 P (Hf P (Gy P (G9 P (Hq P (Hx P (Znb P [])))))))
def d6 (P:Params):=d5 P++[ze P "Machine" 560 (.ref 259)]
def z58 (P:Params):=zt "dict" (.dict ⟨d6 P⟩ 29)
def y6:List (Int×Int×Addr):=y5++[(72,0,166)]
def z59:=zy y6
def d7 (P:Params):=[ze P "__module__" 418 (.str "gapscribe.machine" 364),ze P "__qualname__" 420 (.str "Machine" 419),ze P "__firstlineno__" 422 (.int 72 421),ze P "__init__" 431 (.ref 174),ze P "make_steps" 439 (.ref 181),ze P "new_row" 451 (.ref 188),ze P "thing_of_form" 460 (.ref 195),ze P "thing_of_parts" 470 (.ref 202),ze P "thing_at_the_end" 480 (.ref 209),ze P "come_to" 486 (.ref 214),ze P "thing_of_leaf" 498 (.ref 221),ze P "go_further" 509 (.ref 228),ze P "taken_things" 518 (.ref 235),ze P "is_function" 526 (.ref 242),ze P "call" 535 (.ref 249),ze P "go_within" 547 (.ref 256),ze P "__static_attributes__" 553 (.ref 257)]
def z60 (P:Params):=zt "dict" (.dict ⟨d7 P⟩ 17)
noncomputable def y7:List (Int×Int×Addr):=[(74,4,173),(82,4,180),(87,4,187),(92,4,194),(96,4,201),(101,4,208),(110,4,213),(120,4,220),(128,4,227),(142,4,234),(147,4,241),(150,4,248),(154,4,255)]
def z61:=zy y7
def z62:=zk "Machine" "Machine" 413 72 0 0 164 false .none 416 417
def z63:=Ko 166 163 "gapscribe.machine" 364
def g13:zG:=zG.mk "__init__" "Machine.__init__" En 423 168
def g14:zG:=zG.mk "make_steps" "Machine.make_steps" En 432 175
def g15:zG:=zG.mk "new_row" "Machine.new_row" En 440 182
def g16:zG:=zG.mk "thing_of_form" "Machine.thing_of_form" En 452 189
def g17:zG:=zG.mk "thing_of_parts" "Machine.thing_of_parts" En 461 196
def g18:zG:=zG.mk "thing_at_the_end" "Machine.thing_at_the_end" En 471 203
def g19:zG:=zG.mk "come_to" "Machine.come_to" En 481 210
def g20:zG:=zG.mk "thing_of_leaf" "Machine.thing_of_leaf" En 487 215
def g21:zG:=zG.mk "go_further" "Machine.go_further" En 499 222
def g22:zG:=zG.mk "taken_things" "Machine.taken_things" En 510 229
def g23:zG:=zG.mk "is_function" "Machine.is_function" En 519 236
def g24:zG:=zG.mk "call" "Machine.call" En 527 243
def g25:zG:=zG.mk "go_within" "Machine.go_within" En 536 250
def z64:=zu [("forms",548),("rows",549),("steps",550),("things",551),("waiting",552)]
def d8 (P:Params):=[ze P "__module__" 418 (.str "gapscribe.machine" 364),ze P "__firstlineno__" 422 (.int 72 421),ze P "__init__" 431 (.ref 174),ze P "make_steps" 439 (.ref 181),ze P "new_row" 451 (.ref 188),ze P "thing_of_form" 460 (.ref 195),ze P "thing_of_parts" 470 (.ref 202),ze P "thing_at_the_end" 480 (.ref 209),ze P "come_to" 486 (.ref 214),ze P "thing_of_leaf" 498 (.ref 221),ze P "go_further" 509 (.ref 228),ze P "taken_things" 518 (.ref 235),ze P "is_function" 526 (.ref 242),ze P "call" 535 (.ref 249),ze P "go_within" 547 (.ref 256),ze P "__static_attributes__" 553 (.ref 257),ze P "__dict__" 555 (.ref 260),ze P "__weakref__" 557 (.ref 261),ze P "__doc__" 558 .none]
def z65 (P:Params):=zt "dict" (.dict ⟨d8 P⟩ 4)
noncomputable def z66:=Obj.mk (.type "type") none (.cls (ClassData.mk "Machine" [.type "object"] [.ref 259,.type "object"] 258 "Machine" true [] [] false none false)) #[none,none,some (.str "Machine" 411),some (.str "Machine" 419),some (.builtin "object.__new__"),some (.bool true)]
def z67:=zt "getset_descriptor" (.fields #[.str "__dict__" 554,.ref 259,.builtin "function.__dict__",.builtin "function.__dict__#set"])
def z68:=zt "getset_descriptor" (.fields #[.str "__weakref__" 556,.ref 259,.builtin "ExceptionGroup.__weakref__",.none])
def z69:=zt "super" (.fields #[.ref 259,.ref 259,.ref 259])
def z70:=zq3 259
def Znd (P:Params)(t:List Obj):List Obj:=Hb P (z58 P) z59 t
def Nj (P:Params)(t:List Obj):List Obj:=A8 Jg Le (z1::z6::(z60 P)::z1::z61::z62::z63::A8 g13 Lg (A8 g14 Kn (A8 g15 Ln (A8 g16 Mo (A8 g17 Nw t)))))
def Lv (P:Params)(t:List Obj):List Obj:=A8 g18 Mm (Ei g19 Kw (A8 g20 Nr (A8 g21 Mj (A8 g22 Lq (A8 g23 Ni t)))))
def Zt2 (P:Params)(t:List Obj):List Obj:=A8 g24 Lr (A8 g25 Nv (z64::(z65 P)::z66::z67::z68::z69::z70::t))
def Rtree_316:Params->B:=λP=>tO (Znd P (Hf P (Gy P (G9 P (Hq P (Hx P (Nj P (Lv P (Zt2 P [])))))))))
def d9 (P:Params):=[ze P "__module__" 418 (.str "gapscribe.machine" 364),ze P "__qualname__" 420 (.str "Machine" 419),ze P "__firstlineno__" 422 (.int 72 421),ze P "__init__" 431 (.ref 174),ze P "make_steps" 439 (.ref 181),ze P "new_row" 451 (.ref 188),ze P "thing_of_form" 460 (.ref 195),ze P "thing_of_parts" 470 (.ref 202),ze P "thing_at_the_end" 480 (.ref 209),ze P "come_to" 486 (.ref 214),ze P "thing_of_leaf" 498 (.ref 221),ze P "go_further" 509 (.ref 228),ze P "taken_things" 518 (.ref 235)]
def z71 (P:Params):=zt "dict" (.dict ⟨d9 P⟩ 13)
noncomputable def y8:List (Int×Int×Addr):=[(74,4,173),(82,4,180),(87,4,187),(92,4,194),(96,4,201),(101,4,208),(110,4,213),(120,4,220),(128,4,227),(142,4,234)]
def z72:=zy y8
def z73:=zu [("self",522),("thing",523)]
def z74:=zh "is_function" "Machine.is_function" Ni
def z75:=zc "is_function" "Machine.is_function" 519 147 2 3 236 524 525
def Zod (P:Params)(t:List Obj):List Obj:=Hb P (z56 P) z59 t
def Znf (P:Params)(t:List Obj):List Obj:=A8 Jg Le (z1::z6::(z71 P)::z1::z72::z62::z63::A8 g13 Lg (A8 g14 Kn (A8 g15 Ln (A8 g16 Mo (A8 g17 Nw t)))))
def Zl2 (P:Params)(t:List Obj):List Obj:=A8 g18 Mm (Ei g19 Kw (A8 g20 Nr (A8 g21 Mj (A8 g22 Lq (z1::z8::z73::z1::z74::z75::t)))))
def Rtree_398:Params->B:=λP=>tO (Zod P (Hf P (Gy P (G9 P (Hq P (Hx P (Znf P (Zl2 P []))))))))
def d10 (P:Params):=[ze P "__name__" 165 (.str "law_gapscribe_k59_whole_filled_in_two_steps" 593),ze P "__doc__" 166 .none,ze P "__package__" 167 .none,ze P "__loader__" 168 (.builtin "__main__.__loader__#opaque"),ze P "__spec__" 169 .none,ze P "__annotations__" 170 (.ref 6),ze P "__builtins__" 171 (.ref 4),ze P "__file__" 173 (.str "/claim/cut.py" 172),ze P "__cached__" 174 .none,ze P "GapError" 206 (.ref 24),ze P "NoDeed" 222 (.ref 37),ze P "TooLong" 238 (.ref 49),ze P "NoPlace" 263 (.ref 68),ze P "is_whole" 272 (.ref 77),ze P "placed_forms" 286 (.ref 84),ze P "has_part" 294 (.ref 91),ze P "forms_down_to" 304 (.ref 98),ze P "form_at" 312 (.ref 105),ze P "with_part" 322 (.ref 112),ze P "with_at" 334 (.ref 119),ze P "refuse_no_gap" 343 (.ref 126),ze P "is_finished" 353 (.ref 133),ze P "names_bound" 363 (.ref 140),ze P "MOST_STEPS" 367 (.int 500 366),ze P "PARTS_AWAITED" 390 (.ref 141),ze P "WORDS_WITH_AROUND" 395 (.ref 148),ze P "are_numbers" 401 (.ref 153),ze P "reckoned" 410 (.ref 160),ze P "Machine" 560 (.ref 259),ze P "thing_now" 570 (.ref 270),ze P "thing_of_row" 576 (.ref 275),ze P "go_on" 592 (.ref 282),ze P "_law_cell" 602 (.ref 289),ze P "_law_mixed" 610 (.ref 296),ze P "_law_same" 619 (.ref 303),ze P "_law_names" 636 (.ref 310),ze P "_law_number" 643 (.ref 317),ze P "_law_is_free" 650 (.ref 324),ze P "_law_any" 667 (.ref 331),ze P "_law_end" 673 (.ref 336)]
def z76 (P:Params):=zt "dict" (.dict ⟨d10 P⟩ 40)
def y9:List (Int×Int×Addr):=y6++[(158,0,269),(160,0,274),(169,0,281),(178,0,288),(182,0,295),(184,0,302),(201,0,309),(217,0,316),(223,0,323),(225,0,330),(252,0,335)]
def z77:=zy y9
def gm7:Str×Tok:=("gapscribe.going",561)
def g26:zG:=zA "thing_now" gm7 563 264
def g27:zG:=zA "thing_of_row" gm7 571 271
def g28:zG:=zA "go_on" gm7 577 276
def Cu:Str×Tok:=("law_gapscribe_k59_whole_filled_in_two_steps",593)
def g29:zG:=zA "_law_cell" Cu 595 283
def g30:zG:=zA "_law_mixed" Cu 603 290
def g31:zG:=zA "_law_same" Cu 611 297
def g32:zG:=zA "_law_names" Cu 620 304
def g33:zG:=zA "_law_number" Cu 637 311
def g34:zG:=zA "_law_is_free" Cu 644 318
def g35:zG:=zA "_law_any" Cu 651 325
def g36:zG:=zA "_law_end" Cu 668 332
def Zny (P:Params)(t:List Obj):List Obj:=Hb P (z76 P) z77 t
def Pd (P:Params)(t:List Obj):List Obj:=A8 g24 Lr (A8 g25 Nv (z64::(z65 P)::z66::z67::z68::z69::z70::A8 g26 O7 (Ei g27 Oc (A8 g28 Zau (A8 g29 Za3 t)))))
def Zak (P:Params)(t:List Obj):List Obj:=A8 g30 Zaj (A8 g31 Ms (A8 g32 Ny (A8 g33 Og (A8 g34 Zbg (A8 g35 L0 t)))))
def Zmz (P:Params)(t:List Obj):List Obj:=Ei g36 Nt t
def Rtree_476:Params->B:=λP=>tO (Zny P (Hf P (Gy P (G9 P (Hq P (Hx P (Nj P (Lv P (Pd P (Zak P (Zmz P [])))))))))))
def d11 (P:Params):=d10 P++[ze P "_law_form" 694 (.ref 343),ze P "_law_is_thing" 702 (.ref 350),ze P "_law_is_row" 712 (.ref 357),ze P "_law_is_record" 720 (.ref 364),ze P "_law_go_on" 731 (.ref 371),ze P "_law_copy" 737 (.ref 376),ze P "_law_filled" 747 (.ref 383),ze P "_law_gaps" 762 (.ref 390),ze P "_law_next" 770 (.ref 397),ze P "_law_thing" 778 (.ref 404),ze P "_law_spots" 794 (.ref 411),ze P "_law_digit" 803 (.ref 418)]
def z78 (P:Params):=zt "dict" (.dict ⟨d11 P⟩ 52)
def y10:List (Int×Int×Addr):=y9++[(269,0,342),(303,0,349),(313,0,356),(329,0,363),(338,0,370),(345,0,375),(348,0,382),(354,0,389),(367,0,396),(369,0,403),(375,0,410),(388,0,417)]
def z79:=zy y10
def g37:zG:=zA "_law_form" Cu 674 337
def g38:zG:=zA "_law_is_thing" Cu 695 344
def g39:zG:=zA "_law_is_row" Cu 703 351
def g40:zG:=zA "_law_is_record" Cu 713 358
def g41:zG:=zA "_law_go_on" Cu 721 365
def g42:zG:=zA "_law_copy" Cu 732 372
def g43:zG:=zA "_law_filled" Cu 738 377
def g44:zG:=zA "_law_gaps" Cu 748 384
def g45:zG:=zA "_law_next" Cu 763 391
def g46:zG:=zA "_law_thing" Cu 771 398
def g47:zG:=zA "_law_spots" Cu 779 405
def g48:zG:=zA "_law_digit" Cu 795 412
def Zsg (P:Params)(t:List Obj):List Obj:=Hb P (z78 P) z79 t
def Zcf (P:Params)(t:List Obj):List Obj:=Ei g36 Nt (A8 g37 Mx (A8 g38 Zae (A8 g39 Os (A8 g40 N2 (A8 g41 Zab t)))))
def Zdv (P:Params)(t:List Obj):List Obj:=Ei g42 N3 (A8 g43 Mh (A8 g44 Lo (A8 g45 N4 (A8 g46 Zay (A8 g47 Lm t)))))
def Zso (P:Params)(t:List Obj):List Obj:=A8 g48 Nl t
def Rtree_560:Params->B:=λP=>tO (Zsg P (Hf P (Gy P (G9 P (Hq P (Hx P (Nj P (Lv P (Pd P (Zak P (Zcf P (Zdv P (Zso P [])))))))))))))
def d12 (P:Params):=d11 P++[ze P "_law_free_row" 821 (.ref 425),ze P "_law_free_record" 835 (.ref 432),ze P "_law_row" 852 (.ref 439),ze P "_law_made_up" 865 (.ref 446),ze P "_law_with_gap" 872 (.ref 453),ze P "law" 895 (.ref 460)]
def z80 (P:Params):=zt "dict" (.dict ⟨d12 P⟩ 58)
def y11:List (Int×Int×Addr):=y10++[(396,0,424),(409,0,431),(416,0,438),(429,0,445),(438,0,452),(442,0,459)]
def z81:=zy y11
def g49:zG:=zA "_law_free_row" Cu 804 419
def g50:zG:=zA "_law_free_record" Cu 822 426
def g51:zG:=zA "_law_row" Cu 836 433
def g52:zG:=zA "_law_made_up" Cu 853 440
def g53:zG:=zA "_law_with_gap" Cu 866 447
def g54:zG:=zA "law" Cu 873 454
def Zfl (P:Params)(t:List Obj):List Obj:=Hb P (z80 P) z81 t
def Zhp (P:Params)(t:List Obj):List Obj:=A8 g48 Nl (A8 g49 Za4 (A8 g50 Zaw (A8 g51 Zbi (A8 g52 Zax (A8 g53 Zal t)))))
def Zhd (P:Params)(t:List Obj):List Obj:=A8 g54 Zan t
def Rtree_604:Params->B:=λP=>tO (Zfl P (Hf P (Gy P (G9 P (Hq P (Hx P (Nj P (Lv P (Pd P (Zak P (Zcf P (Zdv P (Zhp P (Zhd P []))))))))))))))
def Rheap_605:Params->Heap:=λP=>⟨⟨Zfl P (Hf P (Gy P (G9 P (Hq P (Hx P (Nj P (Lv P (Pd P (Zak P (Zcf P (Zdv P (Zhp P (Zhd P [])))))))))))))⟩,Life.mk [] [] [] 0 [] [] false #[] [] 0 false false false 0 [2000,10,10] false 0 true [] [] 0 false⟩
end
noncomputable def KK:Params->Ph:=λP=>(nat_lit 2,boot_o_2 P)::(nat_lit 3,z80 P)::(nat_lit 23,z11 P)::(nat_lit 24,z36)::(nat_lit 36,z20 P)::(nat_lit 37,z21)::(nat_lit 48,z30 P)::(nat_lit 49,z31)::(nat_lit 67,z42 P)::(nat_lit 68,z43)::(nat_lit 76,zco g1 Me)::(nat_lit 77,zfo g1 Me)::(nat_lit 83,zco g2 L9)::(nat_lit 84,zfo g2 L9)::(nat_lit 90,zco g3 Mb)::(nat_lit 91,zfo g3 Mb)::(nat_lit 97,zco g4 M8)::(nat_lit 98,zfo g4 M8)::(nat_lit 104,zco g5 Oy)::(nat_lit 105,zfo g5 Oy)::(nat_lit 111,zco g6 Zad)::(nat_lit 112,zfo g6 Zad)::(nat_lit 118,zco g7 Ox)::(nat_lit 119,zfo g7 Ox)::(nat_lit 125,zco g8 Zam)::(nat_lit 126,zfo g8 Zam)::(nat_lit 132,zco g9 O3)::(nat_lit 133,zfo g9 O3)::(nat_lit 139,zco g10 Pa)::(nat_lit 140,zfo g10 Pa)::(nat_lit 141,z48 P)::(nat_lit 142,z49)::(nat_lit 143,z50)::(nat_lit 144,z51)::(nat_lit 145,z52)::(nat_lit 146,z53)::(nat_lit 147,z54)::(nat_lit 148,z55)::(nat_lit 152,zko g11 N1)::(nat_lit 153,zjo g11 N1)::(nat_lit 159,zco Jg Le)::(nat_lit 160,zfo Jg Le)::(nat_lit 173,zco g13 Lg)::(nat_lit 174,zfo g13 Lg)::(nat_lit 180,zco g14 Kn)::(nat_lit 181,zfo g14 Kn)::(nat_lit 187,zco g15 Ln)::(nat_lit 188,zfo g15 Ln)::(nat_lit 194,zco g16 Mo)::(nat_lit 195,zfo g16 Mo)::(nat_lit 201,zco g17 Nw)::(nat_lit 202,zfo g17 Nw)::(nat_lit 208,zco g18 Mm)::(nat_lit 209,zfo g18 Mm)::(nat_lit 213,zko g19 Kw)::(nat_lit 214,zjo g19 Kw)::(nat_lit 220,zco g20 Nr)::(nat_lit 221,zfo g20 Nr)::(nat_lit 227,zco g21 Mj)::(nat_lit 228,zfo g21 Mj)::(nat_lit 234,zco g22 Lq)::(nat_lit 235,zfo g22 Lq)::(nat_lit 241,zco g23 Ni)::(nat_lit 242,zfo g23 Ni)::(nat_lit 248,zco g24 Lr)::(nat_lit 249,zfo g24 Lr)::(nat_lit 255,zco g25 Nv)::(nat_lit 256,zfo g25 Nv)::(nat_lit 258,z65 P)::(nat_lit 259,z66)::(nat_lit 269,zco g26 O7)::(nat_lit 270,zfo g26 O7)::(nat_lit 274,zko g27 Oc)::(nat_lit 275,zjo g27 Oc)::(nat_lit 281,zco g28 Zau)::(nat_lit 282,zfo g28 Zau)::(nat_lit 288,zco g29 Za3)::(nat_lit 289,zfo g29 Za3)::(nat_lit 295,zco g30 Zaj)::(nat_lit 296,zfo g30 Zaj)::(nat_lit 302,zco g31 Ms)::(nat_lit 303,zfo g31 Ms)::(nat_lit 309,zco g32 Ny)::(nat_lit 310,zfo g32 Ny)::(nat_lit 316,zco g33 Og)::(nat_lit 317,zfo g33 Og)::(nat_lit 323,zco g34 Zbg)::(nat_lit 324,zfo g34 Zbg)::(nat_lit 330,zco g35 L0)::(nat_lit 331,zfo g35 L0)::(nat_lit 335,zko g36 Nt)::(nat_lit 336,zjo g36 Nt)::(nat_lit 342,zco g37 Mx)::(nat_lit 343,zfo g37 Mx)::(nat_lit 349,zco g38 Zae)::(nat_lit 350,zfo g38 Zae)::(nat_lit 356,zco g39 Os)::(nat_lit 357,zfo g39 Os)::(nat_lit 363,zco g40 N2)::(nat_lit 364,zfo g40 N2)::(nat_lit 370,zco g41 Zab)::(nat_lit 371,zfo g41 Zab)::(nat_lit 375,zko g42 N3)::(nat_lit 376,zjo g42 N3)::(nat_lit 382,zco g43 Mh)::(nat_lit 383,zfo g43 Mh)::(nat_lit 389,zco g44 Lo)::(nat_lit 390,zfo g44 Lo)::(nat_lit 396,zco g45 N4)::(nat_lit 397,zfo g45 N4)::(nat_lit 403,zco g46 Zay)::(nat_lit 404,zfo g46 Zay)::(nat_lit 410,zco g47 Lm)::(nat_lit 411,zfo g47 Lm)::(nat_lit 417,zco g48 Nl)::(nat_lit 418,zfo g48 Nl)::(nat_lit 424,zco g49 Za4)::(nat_lit 425,zfo g49 Za4)::(nat_lit 431,zco g50 Zaw)::(nat_lit 432,zfo g50 Zaw)::(nat_lit 438,zco g51 Zbi)::(nat_lit 439,zfo g51 Zbi)::(nat_lit 445,zco g52 Zax)::(nat_lit 446,zfo g52 Zax)::(nat_lit 452,zco g53 Zal)::(nat_lit 453,zfo g53 Zal)::(nat_lit 459,zco g54 Zan)::(nat_lit 460,zfo g54 Zan)::[]
noncomputable def kk0 (P:Params)(r:Ph):Ph:=(nat_lit 2,boot_o_2 P)::(nat_lit 3,z80 P)::(nat_lit 23,z11 P)::(nat_lit 24,z36)::(nat_lit 36,z20 P)::(nat_lit 37,z21)::(nat_lit 48,z30 P)::(nat_lit 49,z31)::(nat_lit 67,z42 P)::(nat_lit 68,z43)::(nat_lit 76,zco g1 Me)::r
noncomputable def kk1 (P:Params)(r:Ph):Ph:=(nat_lit 77,zfo g1 Me)::(nat_lit 83,zco g2 L9)::(nat_lit 84,zfo g2 L9)::(nat_lit 90,zco g3 Mb)::(nat_lit 91,zfo g3 Mb)::(nat_lit 97,zco g4 M8)::(nat_lit 98,zfo g4 M8)::(nat_lit 104,zco g5 Oy)::(nat_lit 105,zfo g5 Oy)::(nat_lit 111,zco g6 Zad)::(nat_lit 112,zfo g6 Zad)::r
noncomputable def kk2 (P:Params)(r:Ph):Ph:=(nat_lit 118,zco g7 Ox)::(nat_lit 119,zfo g7 Ox)::(nat_lit 125,zco g8 Zam)::(nat_lit 126,zfo g8 Zam)::(nat_lit 132,zco g9 O3)::(nat_lit 133,zfo g9 O3)::(nat_lit 139,zco g10 Pa)::(nat_lit 140,zfo g10 Pa)::(nat_lit 141,z48 P)::(nat_lit 142,z49)::(nat_lit 143,z50)::r
noncomputable def kk3 (P:Params)(r:Ph):Ph:=(nat_lit 144,z51)::(nat_lit 145,z52)::(nat_lit 146,z53)::(nat_lit 147,z54)::(nat_lit 148,z55)::(nat_lit 152,zko g11 N1)::(nat_lit 153,zjo g11 N1)::(nat_lit 159,zco Jg Le)::(nat_lit 160,zfo Jg Le)::(nat_lit 173,zco g13 Lg)::(nat_lit 174,zfo g13 Lg)::r
noncomputable def kk4 (P:Params)(r:Ph):Ph:=(nat_lit 180,zco g14 Kn)::(nat_lit 181,zfo g14 Kn)::(nat_lit 187,zco g15 Ln)::(nat_lit 188,zfo g15 Ln)::(nat_lit 194,zco g16 Mo)::(nat_lit 195,zfo g16 Mo)::(nat_lit 201,zco g17 Nw)::(nat_lit 202,zfo g17 Nw)::(nat_lit 208,zco g18 Mm)::(nat_lit 209,zfo g18 Mm)::(nat_lit 213,zko g19 Kw)::r
noncomputable def kk5 (P:Params)(r:Ph):Ph:=(nat_lit 214,zjo g19 Kw)::(nat_lit 220,zco g20 Nr)::(nat_lit 221,zfo g20 Nr)::(nat_lit 227,zco g21 Mj)::(nat_lit 228,zfo g21 Mj)::(nat_lit 234,zco g22 Lq)::(nat_lit 235,zfo g22 Lq)::(nat_lit 241,zco g23 Ni)::(nat_lit 242,zfo g23 Ni)::(nat_lit 248,zco g24 Lr)::(nat_lit 249,zfo g24 Lr)::r
noncomputable def kk6 (P:Params)(r:Ph):Ph:=(nat_lit 255,zco g25 Nv)::(nat_lit 256,zfo g25 Nv)::(nat_lit 258,z65 P)::(nat_lit 259,z66)::(nat_lit 269,zco g26 O7)::(nat_lit 270,zfo g26 O7)::(nat_lit 274,zko g27 Oc)::(nat_lit 275,zjo g27 Oc)::(nat_lit 281,zco g28 Zau)::(nat_lit 282,zfo g28 Zau)::(nat_lit 288,zco g29 Za3)::r
noncomputable def kk7 (P:Params)(r:Ph):Ph:=(nat_lit 289,zfo g29 Za3)::(nat_lit 295,zco g30 Zaj)::(nat_lit 296,zfo g30 Zaj)::(nat_lit 302,zco g31 Ms)::(nat_lit 303,zfo g31 Ms)::(nat_lit 309,zco g32 Ny)::(nat_lit 310,zfo g32 Ny)::(nat_lit 316,zco g33 Og)::(nat_lit 317,zfo g33 Og)::(nat_lit 323,zco g34 Zbg)::(nat_lit 324,zfo g34 Zbg)::r
noncomputable def kk8 (P:Params)(r:Ph):Ph:=(nat_lit 330,zco g35 L0)::(nat_lit 331,zfo g35 L0)::(nat_lit 335,zko g36 Nt)::(nat_lit 336,zjo g36 Nt)::(nat_lit 342,zco g37 Mx)::(nat_lit 343,zfo g37 Mx)::(nat_lit 349,zco g38 Zae)::(nat_lit 350,zfo g38 Zae)::(nat_lit 356,zco g39 Os)::(nat_lit 357,zfo g39 Os)::(nat_lit 363,zco g40 N2)::r
noncomputable def kk9 (P:Params)(r:Ph):Ph:=(nat_lit 364,zfo g40 N2)::(nat_lit 370,zco g41 Zab)::(nat_lit 371,zfo g41 Zab)::(nat_lit 375,zko g42 N3)::(nat_lit 376,zjo g42 N3)::(nat_lit 382,zco g43 Mh)::(nat_lit 383,zfo g43 Mh)::(nat_lit 389,zco g44 Lo)::(nat_lit 390,zfo g44 Lo)::(nat_lit 396,zco g45 N4)::(nat_lit 397,zfo g45 N4)::r
noncomputable def kk10 (P:Params)(r:Ph):Ph:=(nat_lit 403,zco g46 Zay)::(nat_lit 404,zfo g46 Zay)::(nat_lit 410,zco g47 Lm)::(nat_lit 411,zfo g47 Lm)::(nat_lit 417,zco g48 Nl)::(nat_lit 418,zfo g48 Nl)::(nat_lit 424,zco g49 Za4)::(nat_lit 425,zfo g49 Za4)::(nat_lit 431,zco g50 Zaw)::(nat_lit 432,zfo g50 Zaw)::(nat_lit 438,zco g51 Zbi)::r
noncomputable def kk11 (P:Params)(r:Ph):Ph:=(nat_lit 439,zfo g51 Zbi)::(nat_lit 445,zco g52 Zax)::(nat_lit 446,zfo g52 Zax)::(nat_lit 452,zco g53 Zal)::(nat_lit 453,zfo g53 Zal)::(nat_lit 459,zco g54 Zan)::(nat_lit 460,zfo g54 Zan)::r
noncomputable def KKc:Params->Ph:=λP=>kk0 P (kk1 P (kk2 P (kk3 P (kk4 P (kk5 P (kk6 P (kk7 P (kk8 P (kk9 P (kk10 P (kk11 P [])))))))))))
theorem e_KC:KKc=KKc:=rfl
name_quick x_KC for K59.KKc by K59.e_KC
noncomputable def KA:List Addr:=[2,3,23,24,36,37,48,49,67,68,76,77,83,84,90,91,97,98,104,105,111,112,118,119,125,126,132,133,139,140,141,142,143,144,145,146,147,148,152,153,159,160,173,174,180,181,187,188,194,195,201,202,208,209,213,214,220,221,227,228,234,235,241,242,248,249,255,256,258,259,269,270,274,275,281,282,288,289,295,296,302,303,309,310,316,317,323,324,330,331,335,336,342,343,349,350,356,357,363,364,370,371,375,376,382,383,389,390,396,397,403,404,410,411,417,418,424,425,431,432,438,439,445,446,452,453,459,460]
noncomputable def RB (P:Params):List Q9×List Heap:=([Rtree_78 P,Rtree_93 P,Rtree_143 P,Rtree_200 P,Rtree_211 P,Rtree_316 P,Rtree_398 P,Rtree_476 P,Rtree_560 P,Rtree_604 P],[Rheap_605 P])
theorem e_RB:RB=RB:=rfl
name_quick x_RB for K59.RB by K59.e_RB
end K59
namespace PySem.W.Fast
noncomputable def tw1793884104084412530:PySem.Params->Ph:=tw16050456626181788204
theorem te1793884104084412530:K59.KK=tw1793884104084412530:=(rfl:K59.KK=K59.KKc).trans te16050456626181788204
noncomputable def tw6630674850612548997:Re->Q9:=tw8317843390456634537
theorem te6630674850612548997:K59.Rtree_78=tw6630674850612548997:=te8317843390456634537
noncomputable def tw12755619987371058815:Re->Q9:=tw13806702006865584932
theorem te12755619987371058815:K59.Rtree_93=tw12755619987371058815:=te13806702006865584932
noncomputable def tw18302944739154881662:Re->Q9:=tw8219782685102359
theorem te18302944739154881662:K59.Rtree_143=tw18302944739154881662:=te8219782685102359
noncomputable def tw1965733557649969862:Re->Q9:=tw8001925238279166028
theorem te1965733557649969862:K59.Rtree_200=tw1965733557649969862:=te8001925238279166028
noncomputable def tw3391364463368489627:Re->Q9:=tw8033418768561197058
theorem te3391364463368489627:K59.Rtree_211=tw3391364463368489627:=te8033418768561197058
noncomputable def tw1398246507628841960:Re->Q9:=tw5062343139410672169
theorem te1398246507628841960:K59.Rtree_316=tw1398246507628841960:=te5062343139410672169
noncomputable def tw13950197947974110187:Re->Q9:=tw5293527939870490164
theorem te13950197947974110187:K59.Rtree_398=tw13950197947974110187:=te5293527939870490164
noncomputable def tw4088457310335071469:Re->Q9:=tw14377013128749035235
theorem te4088457310335071469:K59.Rtree_476=tw4088457310335071469:=te14377013128749035235
noncomputable def tw17677510055879057675:Re->Q9:=tw8851128600332179315
theorem te17677510055879057675:K59.Rtree_560=tw17677510055879057675:=te8851128600332179315
noncomputable def tw9312970180551899704:Re->Q9:=tw5994705859513785783
theorem te9312970180551899704:K59.Rtree_604=tw9312970180551899704:=te5994705859513785783
noncomputable def tw7230756482258144617:Re->PySem.Heap:=tw7363017232428665788
theorem te7230756482258144617:K59.Rheap_605=tw7230756482258144617:=te7363017232428665788
end PySem.W.Fast
local macro_rules | `(tactic| walk_at "gd")=>`(tactic| (refine'⟨?ka,_,L2.fun_mk ?kl ?kc ?kk⟩; (case ka=>k_is); (case kl=>k_is); (case kc=>k_is); (case kk=>k_is)))
local macro_rules | `(tactic| walk_at "gm")=>`(tactic| (refine'⟨?ka,?ki,_,L2.fun_mk ?kl ?kc ?kk⟩; (case ka=>k_is); (case ki=>k_is); (case kl=>k_is); (case kc=>k_is); (case kk=>k_is)))
namespace K59
open PySem L2
noncomputable abbrev Zep:=Zhj
theorem all1 {α:Type}{P:List α->Prop}(h:∀a,P [a]):∀us:List α,us.length=1->P us
 |[a],_=>h a
theorem all2 {α:Type}{P:List α->Prop}(h:∀a b,P [a,b]):∀us:List α,us.length=2->P us
 |[a,b],_=>h a b
theorem all3 {α:Type}{P:List α->Prop}(h:∀a b c,P [a,b,c]):∀us:List α,us.length=3->P us
 |[a,b,c],_=>h a b c
theorem all4 {α:Type}{P:List α->Prop}(h:∀a b c d,P [a,b,c,d]):∀us:List α,us.length=4->P us
 |[a,b,c,d],_=>h a b c d
theorem all5 {α:Type}{P:List α->Prop}(h:∀a b c d e,P [a,b,c,d,e]):∀us:List α,us.length=5->P us
 |[a,b,c,d,e],_=>h a b c d e
local macro_rules | `(tactic| walk_at "bi")=>`(tactic| first|exact λ_ _ _ _ _ _=>K59.all1 λ_=>rfl|exact λ_ _ _ _ _ _=>K59.all2 λ_ _=>rfl|exact λ_ _ _ _ _ _=>K59.all3 λ_ _ _=>rfl|exact λ_ _ _ _ _ _=>K59.all4 λ_ _ _ _=>rfl|exact λ_ _ _ _ _ _=>K59.all5 λ_ _ _ _ _=>rfl)
theorem ZZg {P:Program}{w:World}{K:PySem.W.Frag}{mg:Str->Option Value}{base:Heap}{f:Addr}{fd:FuncData}{nm:Str}{ps:List Str}{S:Nat->Sp}{c:Nat}(no:∀vs H Q E,¬S 0 vs H Q E)(st:∀n,Ba P w K mg base (n+c) nm ps (S n)->FnOk P w K mg base Aq (n+1+c) f fd ps (S (n+1)))(mk:∀n,FnOk P w K mg base Aq (n+c) f fd ps (S n)->Ba P w K mg base (n+c) nm ps (S n)):∀n,FnOk P w K mg base Aq (n+c) f fd ps (S n)
 |0=>⟨λvs H Q E h=>absurd h (no _ _ _ _),λA outer s H j I vs Q E _ _ _ _ h=>absurd h (no _ _ _ _)⟩
 |n+1=>st n (mk n (ZZg no st mk n))
theorem Zt3 (ho:K.lookup GE=some ⟨cG,ddG,.cls cdG,slG⟩)(hok:Tj K cdG.ns=true)(hni:P8 K cdG.ns "__init__"=some none):Ti K VE (.ref GE::VE)=true/\(To K GE).isSome=true:=by
 have e:Ti K VE VE=true:=by unfold Ti;rfl
 refine⟨?_,by unfold To;rw[ho];rfl⟩;unfold Ti;dsimp only;rw[ho];dsimp only;rw[hok,hni,e];simp
theorem Zkw (hC:K.lookup C=some ⟨.type "type",ddC,.cls cdC,slC⟩)(hm:cdC.mro=.ref C::.ref GE::VE)(hs:slC.toList=[k0,k1,k2,k3,some (.builtin "ValueError.__new__"),k5])(hd:cdC.hasDel=false)(h:Ti K VE (.ref GE::VE)=true)(hok:Tj K cdC.ns=true)(hni:P8 K cdC.ns "__init__"=some none):Ou K C:=by
 obtain⟨nm,bs,mro,ns,U,O,sn,sub,ab,col,I⟩:=cdC;obtain⟨l⟩:=slC;dsimp only at hm hd hok hni hs;subst hm hd hs;exact⟨_,_,_,_,_,_,_,_,_,_,_,_,_,_,_,_,hC,h,hok,hni⟩
noncomputable def Jw (t1 t2 t3 t4 t5 t6:Addr):List (Str×V):=[("plus",.ref t1),("minus",.ref t2),("less",.ref t3),("call",.ref t4),("if",.ref t5),("let",.ref t6)]
theorem Zlj:((Jw t1 t2 t3 t4 t5 t6).map (·.1)).Nodup:=by
 show(["plus","minus","less","call","if","let"]:List Str).Nodup;right
theorem Zmd (h1:∀H,SqT K H t1 ([1,0].map V.int))(h2:∀H,SqT K H t2 ([1,0].map V.int))(h3:∀H,SqT K H t3 ([1,0].map V.int))(h4:∀H,SqT K H t4 ([1,0].map V.int))(h5:∀H,SqT K H t5 ([0].map V.int))(h6:∀H,SqT K H t6 ([0].map V.int))(wd:Str) :
  (D6 (Jw t1 t2 t3 t4 t5 t6) wd).isSome=(Bl wd).isSome/\∀ns,Bl wd=some ns->∃b,D6 (Jw t1 t2 t3 t4 t5 t6) wd=some (.ref b)/\∀H,SqT K H b (ns.map V.int):=by
 by_cases Y:wd="plus"
 ·subst Y;have p:Bl "plus"=some [1,0]:=by right
  exact⟨by rw[p];rfl,λns h=>by rw[p]at h;cases h;exact⟨t1,rfl,h1⟩⟩
 by_cases Z:wd="minus"
 ·subst Z;have p:Bl "minus"=some [1,0]:=by right
  exact⟨by rw[p];rfl,λns h=>by rw[p]at h;cases h;exact⟨t2,rfl,h2⟩⟩
 by_cases e3:wd="less"
 ·subst e3;have p:Bl "less"=some [1,0]:=by right
  exact⟨by rw[p];rfl,λns h=>by rw[p]at h;cases h;exact⟨t3,rfl,h3⟩⟩
 by_cases O:wd="call"
 ·subst O;have p:Bl "call"=some [1,0]:=by right
  exact⟨by rw[p];rfl,λns h=>by rw[p]at h;cases h;exact⟨t4,rfl,h4⟩⟩
 by_cases I:wd="if"
 ·subst I;have p:Bl "if"=some [0]:=by right
  exact⟨by rw[p];rfl,λns h=>by rw[p]at h;cases h;exact⟨t5,rfl,h5⟩⟩
 by_cases U:wd="let"
 ·subst U;have p:Bl "let"=some [0]:=by right
  exact⟨by rw[p];rfl,λns h=>by rw[p]at h;cases h;exact⟨t6,rfl,h6⟩⟩
 have p:Bl wd=none:=by
  unfold Bl;rw[if_neg (by simp[Y,Z,e3,O]),if_neg (by simp[I,U])]
 have q:D6 (Jw t1 t2 t3 t4 t5 t6) wd=none:=by
  unfold D6 Jw;simp[Pw Y,Pw Z,Pw e3,Pw O,Pw I,Pw U]
 rw[p,q];exact⟨rfl,λns h=>nomatch h⟩
noncomputable abbrev Gd (K:Ph)(n:Str)(st:Stmt)(f:Addr):Prop:=P8 K mainGlobals n=some (some (.ref f))/\∃fd,Fun K n n st f fd
noncomputable abbrev Gm (K:Ph)(C:Addr)(n q:Str)(st:Stmt)(f:Addr):Prop:=Qm K (.ref C) n=some (some (.ref f))/\V2 K (.ref f)=true/\∃fd,Fun K n q st f fd
noncomputable abbrev Bi (n q:Str)(st:Stmt)(ps:List Str):Prop:=∀(kV doc pm:Value)(an:Option Addr)(cdv ct:Value)(us:List Value),us.length=ps.length->bindArgs (Sg n q (Hu st) (Gh st) (A5 st) .none kV doc pm an cdv ct) ⟨us,[]⟩=pure (ps.zip us)
section
variable {P:Program}{w:World}{K:Ph}{mg:Str->Option Value}{base h:Heap}(X:K.In h)(G:h.Ns mainGlobals mg){n q:Str}{st:Stmt}{f C:Addr}{k:Nat}{ps:List Str}{sp:Sp}
include X G
theorem cal (g:Gd K n st f)(ok:∀fd,Fun K n n st f fd->FnOk P w K mg base Aq k f fd ps sp)(b:Bi n n st ps:=by walk_at "bi"):Ba P w K mg base k n ps sp:=by
 obtain⟨a,fd,F⟩:=g;exact Kb (ok fd F) (V0 X G a) F.kp (F.binds b)
theorem calx (g:Gd K n st f)(ok:∀fd,Fun K n n st f fd->FnOk P w K mg base (B3 P w) k f fd ps sp)(b:Bi n n st ps:=by walk_at "bi"):Kq P w K mg base k n ps sp:=by
 obtain⟨a,fd,F⟩:=g;exact Zu2 (ok fd F) (V0 X G a) F.kp (F.binds b)
omit X G
theorem met {CX:C1}(cl:Cls K C)(g:Gm K C n q st f)(ok:∀fd,Fun K n q st f fd->FnOk P w K mg base CX k f fd ps sp)(b:Bi n q st ps:=by walk_at "bi"):Dj CX P w K mg base k C n ps sp:=by
 obtain⟨a,i,fd,F⟩:=g;exact⟨f,fd,ok fd F,cl,⟨a,i,F.kp⟩,F.binds b⟩
end
theorem all_mk {l:W1}{w:World}{K:Ph}{h:Heap}{mg:Str->Option Value}{fa f1 f2 f3 f4 f5 f6 f7 f8 f9 f10 f11 f12 f13 f14 f15 f16 f17 f18 f19 f20 f21 f22 f23 f24 f25 f26 f27 f28 f29 f30 f31 f32 f33 f34 f35 f36 f37 f38 f39 f40 f41:Addr}(X:K.In h)(G:h.Ns mainGlobals mg)(hfa:mg "law"=some (.ref fa))
  (a1:Gd K "is_whole" Me f1) (a2:Gd K "placed_forms" L9 f2) (a3:Gd K "has_part" Mb f3) (a4:Gd K "forms_down_to" M8 f4) (a5:Gd K "form_at" Oy f5) (a6:Gd K "with_part" Zad f6) (a7:Gd K "with_at" Ox f7) (a8:Gd K "refuse_no_gap" Zam f8) (a9:Gd K "is_finished" O3 f9) (a10:Gd K "names_bound" Pa f10) (a11:Gd K "are_numbers" N1 f11) (a12:Gd K "reckoned" Le f12) (a13:Gd K "thing_now" O7 f13) (a14:Gd K "thing_of_row" Oc f14) (a15:Gd K "go_on" Zau f15)
  (a16:Gd K "_law_cell" Za3 f16) (a17:Gd K "_law_mixed" Zaj f17) (a18:Gd K "_law_same" Ms f18) (a19:Gd K "_law_names" Ny f19) (a20:Gd K "_law_number" Og f20) (a21:Gd K "_law_is_free" Zbg f21) (a22:Gd K "_law_any" L0 f22) (a23:Gd K "_law_end" Nt f23) (a24:Gd K "_law_form" Mx f24) (a25:Gd K "_law_is_thing" Zae f25) (a26:Gd K "_law_is_row" Os f26) (a27:Gd K "_law_is_record" N2 f27) (a28:Gd K "_law_go_on" Zab f28) (a29:Gd K "_law_copy" N3 f29) (a30:Gd K "_law_filled" Mh f30)
  (a31:Gd K "_law_gaps" Lo f31) (a32:Gd K "_law_next" N4 f32) (a33:Gd K "_law_thing" Zay f33) (a34:Gd K "_law_digit" Nl f34) (a35:Gd K "_law_spots" Lm f35) (a36:Gd K "_law_free_row" Za4 f36) (a37:Gd K "_law_row" Zbi f37) (a38:Gd K "_law_free_record" Zaw f38) (a39:Gd K "_law_made_up" Zax f39) (a40:Gd K "_law_with_gap" Zal f40) (a41:Gd K "law" Zan f41) (z1:P8 K mainGlobals "isinstance"=some none) (z2:P8 K mainGlobals "int"=some none) (z3:P8 K mainGlobals "bool"=some none)
  (z4:P8 K mainGlobals "reversed"=some none) (z5:P8 K mainGlobals "list"=some none) (z6:P8 K mainGlobals "enumerate"=some none) (z7:P8 K mainGlobals "len"=some none) (z8:P8 K mainGlobals "zip"=some none) (z9:P8 K mainGlobals "all"=some none) (z10:P8 K mainGlobals "tuple"=some none) (z11:P8 K mainGlobals "range"=some none) (z12:P8 K mainGlobals "str"=some none) (z13:P8 K mainGlobals "max"=some none) (z14:P8 K mainGlobals "min"=some none) (z15:P8 K mainGlobals "dict"=some none)
  {u1:Tok} (b1:P8 K mainGlobals "MOST_STEPS"=some (some (.int 500 u1))) {wa pa t1 t2 t3 t4 t5 t6:Addr} {wo o1 o2 o3 o4 o5 o6:Option Addr} {wi i1 i2 i3 i4 i5 i6:Array Value} {wn pn n1 n2 n3 n4 n5 n6:Nat} {ws s1 s2 s3 s4 s5 s6:Array (Option Value)} {pi:Array DictEntry} (b2:P8 K mainGlobals "WORDS_WITH_AROUND"=some (some (.ref wa))) (b3:K.lookup wa=some ⟨.type "tuple",wo,.seq wi wn,ws⟩) (b4:Fp wi.toList=some (WA.map V.str)) (b5:P8 K mainGlobals "PARTS_AWAITED"=some (some (.ref pa))) (b6:K.lookup pa=some ⟨.type "dict",none,.dict pi pn,#[]⟩)
  (b7:(pa == sysModules)=false) (b8:Ents w.params pi.toList (Jw t1 t2 t3 t4 t5 t6)) (gt1:K.lookup t1=some ⟨.type "tuple",o1,.seq i1 n1,s1⟩) (gu1:Fp i1.toList=some ([1,0].map V.int)) (gt2:K.lookup t2=some ⟨.type "tuple",o2,.seq i2 n2,s2⟩) (gu2:Fp i2.toList=some ([1,0].map V.int)) (gt3:K.lookup t3=some ⟨.type "tuple",o3,.seq i3 n3,s3⟩) (gu3:Fp i3.toList=some ([1,0].map V.int)) (gt4:K.lookup t4=some ⟨.type "tuple",o4,.seq i4 n4,s4⟩) (gu4:Fp i4.toList=some ([1,0].map V.int)) (gt5:K.lookup t5=some ⟨.type "tuple",o5,.seq i5 n5,s5⟩)
  (gu5:Fp i5.toList=some ([0].map V.int)) (gt6:K.lookup t6=some ⟨.type "tuple",o6,.seq i6 n6,s6⟩) (gu6:Fp i6.toList=some ([0].map V.int)) {GE TL AM g1 g2 g3 g4 g5 g6 g7 g8 g9 g10 g11 Jg g13:Addr} {cG cN cM:Value} {dG dN dT dM:Option Addr} {kG kT:ClassData} {lG lN lT lM:Array (Option Value)} {eN eM:Array DictEntry} {nN nM:Nat} {j0 j1 j2 j3 j5:Option Value} (x1:P8 K mainGlobals "GapError"=some (some (.ref GE))) (x2:K.lookup GE=some ⟨cG,dG,.cls kG,lG⟩) (x3:K.lookup kG.ns=some ⟨cN,dN,.dict eN nN,lN⟩) (x4:(eN.toList.all λe=>match e.key with|.str _ _=>true|_=>false)=true)
  (x5:P8 K kG.ns "__init__"=some none) (y1:P8 K mainGlobals "TooLong"=some (some (.ref TL))) (y2:K.lookup TL=some ⟨.type "type",dT,.cls kT,lT⟩) (y3:kT.mro=.ref TL::.ref GE::VE) (y4:lT.toList=[j0,j1,j2,j3,some (.builtin "ValueError.__new__"),j5]) (y5:kT.hasDel=false) (y6:K.lookup kT.ns=some ⟨cM,dM,.dict eM nM,lM⟩) (y7:(eM.toList.all λe=>match e.key with|.str _ _=>true|_=>false)=true) (y8:P8 K kT.ns "__init__"=some none) (y9:PySem.W.typeIn K (.ref TL)=some (.type "type")) (yf:Ss K (.ref TL) (.ref TL)=some true)
  (yg:Ss K (.ref TL) (.type "BaseException")=some true) (m0:P8 K mainGlobals "Machine"=some (some (.ref AM))) (m1:Ug K AM Str.empty=true) (m2:Vg K AM=true) (m3:Wp K AM=true) (m4:Qm K (.ref AM) "__setattr__"=some (some (.builtin "object.__setattr__"))) (m5:Wz K AM=true) (m6:Rl K (.ref AM)=true) (m7:Qm K (.ref AM) "forms"=some none) (m8:Qm K (.ref AM) "rows"=some none) (m9:Qm K (.ref AM) "waiting"=some none) (ma:Qm K (.ref AM) "things"=some none)
  (mb:Qm K (.ref AM) "steps"=some none) (h1:Gm K AM "__init__" "Machine.__init__" Lg g1) (h2:Gm K AM "make_steps" "Machine.make_steps" Kn g2) (h3:Gm K AM "new_row" "Machine.new_row" Ln g3) (h4:Gm K AM "thing_of_leaf" "Machine.thing_of_leaf" Nr g4) (h5:Gm K AM "come_to" "Machine.come_to" Kw g5) (h6:Gm K AM "taken_things" "Machine.taken_things" Lq g6) (h7:Gm K AM "go_further" "Machine.go_further" Mj g7) (h8:Gm K AM "thing_at_the_end" "Machine.thing_at_the_end" Mm g8)
  (h9:Gm K AM "thing_of_form" "Machine.thing_of_form" Mo g9) (h10:Gm K AM "thing_of_parts" "Machine.thing_of_parts" Nw g10) (h11:Gm K AM "go_within" "Machine.go_within" Nv g11) (h12:Gm K AM "is_function" "Machine.is_function" Ni Jg) (h13:Gm K AM "call" "Machine.call" Lr g13) :
  ∃fd:FuncData,(∀(s:Shared)(v:Value),BindsTo s fd ⟨[v],[]⟩ [("_law_script",v)])/\∀base:Heap,K.In base->base.Ns mainGlobals mg->FnOk l.prog w K mg base Aq 203 fa fd pW (Zep K):=by
 obtain⟨aL,fd,FL⟩:=a41;have e:=hfa.symm.trans (V0 X G aL);cases e;have FX:=FL;obtain⟨_,_,kV,cs,pm,an,cr,ct,_,ef,_,_⟩:=FL.ex;refine⟨fd,λs v=>by rw[ef];exact .of_eq rfl,λbase _ _=>?_⟩;have gl:=λ{n v}=>@V0 K h mg n v X G;have no:=λ{n}=>@PySem.W.mg_none_of K h mg n X G;have T:Txt K mg:=⟨no z1,no z2,no z3,no z4,no z5,no z6,no z7,no z8,no z9,no z10,no z11,no z12,no z13,no z14,no z15⟩;have b9:F3 mg "MOST_STEPS" (.int 500):=⟨_,gl b1,⟨_,rfl⟩⟩;have cp:F3 mg "WORDS_WITH_AROUND" (.ref wa):=⟨_,gl b2,rfl⟩;have ck:=Jr b3 b4 (by decide);have bv:F3 mg "PARTS_AWAITED" (.ref pa):=⟨_,gl b5,rfl⟩;have bw:Ip l.prog w K pa (Jw t1 t2 t3 t4 t5 t6):=Zwi b6 b7 b8 Zlj;have bx:=Zmd (K:=K) (Jr gt1 gu1 (by decide)) (Jr gt2 gu2 (by decide)) (Jr gt3 gu3 (by decide)) (Jr gt4 gu4 (by decide)) (Jr gt5 gu5 (by decide)) (Jr gt6 gu6 (by decide));obtain⟨tG,iG⟩:=Zt3 x2 (by unfold Tj;rw[x3];show(eN.all λe=>match e.key with|.str _ _=>true|_=>false)=true;rw[<- Array.all_toList];exact x4) x5;have ch:=Zkw y2 y3 y4 y5 tG (by unfold Tj;rw[y6];show(eM.all λe=>match e.key with|.str _ _=>true|_=>false)=true;rw[<- Array.all_toList];exact y7) y8;have cc:=gl y1;have cf:Zac K TL:=⟨y9,by unfold To;rw[y2];rfl,yg⟩;have cb:Cls K AM:=⟨m1,m2,m3,m4⟩;have aa:Mc K AM:=⟨cb,m7,m8,m9,ma,mb⟩;have me:=λ{CX k n q st f ps sp}=>@met l.prog w K mg base n q st f AM k ps sp CX cb;have Z:=λ{k n st f ps sp}=>@cal l.prog w K mg base h X G n st f k ps sp;have cx:=λ{k n st f ps sp}=>@calx l.prog w K mg base h X G n st f k ps sp;have bi:=Z a1 λ_ F=>Zmi F T;have al:=Z a2 λ_ F=>Ztp F T;have bo:=Z a3 λ_ F=>Zoy F T bi;have O:=Z a4 λ_ F=>Zo5 F T bo;have br:=Z a5 λ_ F=>Zsf F T O;have bf:=Z a6 λ_ F=>Zuv F T;have bt:=Z a7 λ_ F=>Zlu F T O bf;have aj:=Z a8 λ_ F=>Zv1 F T;have as:=Z a9 λ_ F=>Zss F T;have aq:=Z a10 λ_ F=>Zno F T;have aw:=Z a11 λ_ F=>Zse F T;have bq:=Z a12 λ_ F=>Zoo F T;have af:=Z a13 λ_ F=>Zm3 F T;have M1:=me h2 λ_ F=>Zpt F T aa b9;have M2:=me h3 λ_ F=>Zus F T aa cp ck;have M3:=me h4 λ_ F=>Zl7 F T aa M2;have M5:=me h6 λ_ F=>Zos F T aa;have MW:=me h11 λ_ F=>Zpn F T aa aq;have MI:=me h12 λ_ F=>Zoq F T aa as;have ci:=me h13 λ_ F=>Zmq F T aa MW;have M6:=me h7 λ_ F=>Zrz F T aa bv bw bx M5 M2 MW ci MI aw bq;have cn:=me h2 λ_ F=>Zp0 F T aa b9 ch cc;have cm:=me h5 λ_ F=>Zqb (Zqn (Zn1 F T aa bv bw bx M1 M3)) (Zmu F T aa bv bw bx cn M3);have b0:=me h8 λ_ F=>Zqv F T aa cm M6;have cq:=me h9 λ_ F=>Zje F T aa b0;have ce:=me h9 λ_ F=>Zq1 (Zje F T aa b0);have cj:=me h10 λ_ F=>Znl (Zqm F T aa b0);have cg:Zc4 Aq l.prog w K mg base 2 "Machine" AM pY (Zcj K AM):=by
  obtain⟨a,i,fd,F⟩:=h1;exact⟨g1,fd,Zqj F T aa al M1,⟨m5,a,i,m6⟩,gl m0,F.binds (by walk_at "bi")⟩
 have ao:=cx a14 λ_ F=>Zn0 F T aa bv bw bx af M2 ce cj;have bu:=cx a15 λ_ F=>Zte F T aa aj br bt af ao cg;have Y:=Z a16 λ_ F=>Zr3 F T;have I:=Z a17 λ_ F=>Zs2 F T;have bb:=Z a18 λ_ F=>ZZg (S:=Iz K) (c:=1) (by rintro vs H Q E ⟨x,y,d,m,_,h,_⟩;exact absurd h (W4 _)) (λn=>Zom F T) (λn h=>Kb h (gl a18.1) F.kp (F.binds (by walk_at "bi"))) 7;have a0:=Z a19 λ_ F=>Zmp F T I;have au:=Z a20 λ_ F=>Zwh F T;have ap:=Z a21 λ_ F=>Zt5 F T Y;have bj:=Z a22 λ_ F=>ZZg (S:=Jq K) (c:=1) (by rintro vs H Q E ⟨_,_,_,_,_,_,h,_⟩;exact absurd h (W4 _)) (λn=>Zo8 F T) (λn h=>Kb h (gl a22.1) F.kp (F.binds (by walk_at "bi"))) 32;have bn:=Z a23 λ_ F=>Zma F T au;have bh:=Z a24 λ_ F=>ZZg (S:=Js K) (c:=3) (by rintro vs H Q E ⟨_,_,_,_,_,_,_,_,_,_,h1,h2,_⟩;lia) (λn=>Zpd F T I bn) (λn h=>Kb h (gl a24.1) F.kp (F.binds (by walk_at "bi"))) 20;have U:=Z a25 λ_ F=>Zra F T;have av:=Z a26 λ_ F=>Ztr F T U;have ah:=Z a27 λ_ F=>Zmt F T U av;have ay:=Z a28 λ_ F=>Zwf F T bu cf cc yf;have be:=Z a29 λ_ F=>Zng F T;have ax:=Z a30 λ_ F=>ZZg (S:=J1 K) (c:=1) (by rintro vs H Q E ⟨_,_,_,_,_,_,_,_,_,_,h,_⟩;exact absurd h (W4 _)) (λn=>Ztx F T) (λn h=>Kb h (gl a30.1) F.kp (F.binds (by walk_at "bi"))) 201;have ag:=Z a31 λ_ F=>ZZg (S:=Ix K) (c:=1) (by rintro vs H Q E ⟨_,t,_,_,_,_,_,_,_,_,_,_,_,h,_⟩;cases t;rw[Tr.size]at h;lia) (λn=>Zru F T) (λn h=>Kb h (gl a31.1) F.kp (F.binds (by walk_at "bi"))) 150;have bg:=Z a32 λ_ F=>Zu1 F T;have ba:=Z a33 λ_ F=>Zrg F T;have ad:=Z a34 λ_ F=>Zs0 F T;have ae:=Z a35 λ_ F=>ZZg (S:=Iu K) (c:=1) (by rintro vs H Q E ⟨_,t,_,_,_,_,_,_,_,_,_,_,_,_,_,h,_⟩;cases t;rw[Tr.size]at h;lia) (λn=>Zue F T) (λn h=>Kb h (gl a35.1) F.kp (F.binds (by walk_at "bi"))) 71;have ai:=Z a36 λ_ F=>Znj F T ad;have bp:=Z a37 λ_ F=>Zu0 F T bg ba;have ac:=Z a38 λ_ F=>Znk F T Y ae ad ai;have am:=Z a39 λ_ F=>Zlp F T ae bp;have ak:=Z a40 λ_ F=>Zvp F T ag;exact Zo1 FX T Y I a0 bh ap bj ak ac am ag be ay ax bb ah
theorem walk {l:W1}{q:Program}{loose:List Str}{XP:(Str->Option Value)->Heap->Prop}{YP:World->Heap->Prop}{d:DefRec}{K:Params->Ph}(hn:l.most=some 63)(hdf:d.params.defaults=[])
  (hY:∀(w:World)(h:Heap),YP w h->(K w.params).In h)
  (F:∀(w:World)(mg:Str->Option Value)(fa:Addr)(h:Heap),(K w.params).In h->h.Ns mainGlobals mg->mg d.name=some (.ref fa) ->
   ∃fd:FuncData,(∀(s:Shared)(u:Value),BindsTo s fd ⟨[u],[]⟩ [("_law_script",u)])/\∀base:Heap,(K w.params).In base->base.Ns mainGlobals mg->FnOk l.prog w (K w.params) mg base Aq 203 fa fd pW (Zep (K w.params))) :
  PySem.W.WalkO q loose XP YP l.row.toRowW d [] (λf vs=>PySem.call f vs) :=
 L2.walk_of (n:=63) (k:=203) (x:="_law_script") (CX:=λ_=>Aq) (sp:=λw=>Zep (K w.params)) hn (by decide) hdf ⟨rfl,by decide,by decide⟩ hY F (λ_ _ a ns hl _ I=>⟨a,ns,rfl,I,hl,λ_=>rfl⟩) λ_ _ _ _ _ z=>z
end K59
open PySem PySem.W PyProof.Rows
set_option maxRecDepth 100000 in
set_option maxHeartbeats 0 in
theorem PySem.Challenge.cw_gapscribe_k59_whole_filled_in_two_steps_holds : PySem.Challenge.rw_gapscribe_k59_whole_filled_in_two_steps.Holds := by
 w_on; o_law; o_head (PySem.W.kHook K59.KK K59.KA (λ_=>by kernel_rfl)); (case hw=>w_witness2)
 k_fill
 refine K59.walk (l:=PySem.Challenge.rw_gapscribe_k59_whole_filled_in_two_steps) rfl rfl (λw h Y=>PySem.W.kIn_of Y) ?F
 case F =>
  intro w mg U h O G I;refine' K59.all_mk O G I ?a1 ?a2 ?a3 ?a4 ?a5 ?a6 ?a7 ?a8 ?a9 ?a10 ?a11 ?a12 ?a13 ?a14 ?a15 ?a16 ?a17 ?a18 ?a19 ?a20 ?a21 ?a22 ?a23 ?a24 ?a25 ?a26 ?a27 ?a28 ?a29 ?a30 ?a31 ?a32 ?a33 ?a34 ?a35 ?a36 ?a37 ?a38 ?a39 ?a40 ?a41 ?z1 ?z2 ?z3 ?z4 ?z5 ?z6 ?z7 ?z8 ?z9 ?z10 ?z11 ?z12 ?z13 ?z14 ?z15 ?b1 ?b2 ?b3 ?b4 ?b5 ?b6 ?b7 ?b8 ?gt1 ?gu1 ?gt2 ?gu2 ?gt3 ?gu3 ?gt4 ?gu4 ?gt5 ?gu5 ?gt6 ?gu6 ?x1 ?x2 ?x3 ?x4 ?x5 ?y1 ?y2 ?y3 ?y4 ?y5 ?y6 ?y7 ?y8 ?y9 ?yf ?yg ?m0 ?m1 ?m2 ?m3 ?m4 ?m5 ?m6 ?m7 ?m8 ?m9 ?ma ?mb ?h1 ?h2 ?h3 ?h4 ?h5 ?h6 ?h7 ?h8 ?h9 ?h10 ?h11 ?h12 ?h13
  (case a1=>walk_at "gd")
  (case a2=>walk_at "gd")
  (case a3=>walk_at "gd")
  (case a4=>walk_at "gd")
  (case a5=>walk_at "gd")
  (case a6=>walk_at "gd")
  (case a7=>walk_at "gd")
  (case a8=>walk_at "gd")
  (case a9=>walk_at "gd")
  (case a10=>walk_at "gd")
  (case a11=>walk_at "gd")
  (case a12=>walk_at "gd")
  (case a13=>walk_at "gd")
  (case a14=>walk_at "gd")
  (case a15=>walk_at "gd")
  (case a16=>walk_at "gd")
  (case a17=>walk_at "gd")
  (case a18=>walk_at "gd")
  (case a19=>walk_at "gd")
  (case a20=>walk_at "gd")
  (case a21=>walk_at "gd")
  (case a22=>walk_at "gd")
  (case a23=>walk_at "gd")
  (case a24=>walk_at "gd")
  (case a25=>walk_at "gd")
  (case a26=>walk_at "gd")
  (case a27=>walk_at "gd")
  (case a28=>walk_at "gd")
  (case a29=>walk_at "gd")
  (case a30=>walk_at "gd")
  (case a31=>walk_at "gd")
  (case a32=>walk_at "gd")
  (case a33=>walk_at "gd")
  (case a34=>walk_at "gd")
  (case a35=>walk_at "gd")
  (case a36=>walk_at "gd")
  (case a37=>walk_at "gd")
  (case a38=>walk_at "gd")
  (case a39=>walk_at "gd")
  (case a40=>walk_at "gd")
  (case a41=>walk_at "gd")
  (case z1=>k_is)
  (case z2=>k_is)
  (case z3=>k_is)
  (case z4=>k_is)
  (case z5=>k_is)
  (case z6=>k_is)
  (case z7=>k_is)
  (case z8=>k_is)
  (case z9=>k_is)
  (case z10=>k_is)
  (case z11=>k_is)
  (case z12=>k_is)
  (case z13=>k_is)
  (case z14=>k_is)
  (case z15=>k_is)
  (case b1=>k_is)
  (case b2=>k_is)
  (case b3=>k_is)
  (case b4=>rfl)
  (case b5=>k_is)
  (case b6=>k_is)
  (case b7=>rfl)
  (case b8=>(repeat (first|exact .nil|refine .cons rfl ?_)))
  (case gt1=>k_is)
  (case gu1=>rfl)
  (case gt2=>k_is)
  (case gu2=>rfl)
  (case gt3=>k_is)
  (case gu3=>rfl)
  (case gt4=>k_is)
  (case gu4=>rfl)
  (case gt5=>k_is)
  (case gu5=>rfl)
  (case gt6=>k_is)
  (case gu6=>rfl)
  (case x1=>k_is)
  (case x2=>k_is)
  (case x3=>k_is)
  (case x4=>rfl)
  (case x5=>k_is)
  (case y1=>k_is)
  (case y2=>k_is)
  (case y3=>rfl)
  (case y4=>rfl)
  (case y5=>rfl)
  (case y6=>k_is)
  (case y7=>rfl)
  (case y8=>k_is)
  (case y9=>k_is)
  (case yf=>k_is)
  (case yg=>k_is)
  (case m0=>k_is)
  (case m1=>k_is)
  (case m2=>k_is)
  (case m3=>k_is)
  (case m4=>k_is)
  (case m5=>k_is)
  (case m6=>k_is)
  (case m7=>k_is)
  (case m8=>k_is)
  (case m9=>k_is)
  (case ma=>k_is)
  (case mb=>k_is)
  (case h1=>walk_at "gm")
  (case h2=>walk_at "gm")
  (case h3=>walk_at "gm")
  (case h4=>walk_at "gm")
  (case h5=>walk_at "gm")
  (case h6=>walk_at "gm")
  (case h7=>walk_at "gm")
  (case h8=>walk_at "gm")
  (case h9=>walk_at "gm")
  (case h10=>walk_at "gm")
  (case h11=>walk_at "gm")
  (case h12=>walk_at "gm")
  (case h13=>walk_at "gm")
#print axioms PySem.Challenge.cw_gapscribe_k59_whole_filled_in_two_steps_holds
