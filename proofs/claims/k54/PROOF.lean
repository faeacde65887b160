import PyProof.Rows.All
import Wide.All
import OpenK.AllK
import Wide.FinOn
import Lean
import PyProof.EqAt
import PyProof.EqKinds
import PyProof.TupleCall
import PyProof.StrBlock2
import KE.KDictOf
import PyProof.AttrMissHeap
import KE.KRevSl
import KE.KDictSum
import PyProof.Rows.SortStr
import KE.KRevIter
import PyProof.RangeIter
import KE.RegMulBits
import KE.IntBitsLaws
import PySem.Challenge.RW_gapscribe_k54_whole_gaps_in_either_order
set_option compiler.extract_closed false
set_option bootstrap.genMatcherCode false
set_option genSizeOfSpec false
set_option Elab.async false
set_option linter.all false
set_option maxRecDepth 100000
open Array renaming getElem?_eq_some_iff->U5,length_toList->Vi
open Bool renaming false_ne_true->Pu,and_eq_true->R3,false_eq_true->Um,eq_iff_iff->Uq
open False renaming elim->Qp
open Int renaming emod_lt_of_pos->Qi,emod_nonneg->Qe,toNat_natCast->Qz,le_refl->Qs,add_zero->Ra,zero_add->Rs,add_assoc->Tb,toNat_of_nonneg->Wr
open List renaming getElem?_eq_getElem->Pk,getElem?_eq_some_iff->Pt,length_append->Pn,size_toArray->Po,length_map->Pq,length_singleton->Pz,mem_cons->Ps,getElem?_append_left->Qk,mem_singleton->P8,not_mem_nil->P0,append_assoc->Qd,getElem?_append_right->Qt,length_cons->Qc,mem_of_getElem?->Qu,getElem?_map->Qm,map_append->Ql,append_cancel_left->Rc,length_take->Qq,eq_nil_of_length_eq_zero->R8,range->P7,mem_append_right->Rk,take_of_length_le->Rv,replicate->Qw,map_cons->Qr,append_nil->Q2,drop_eq_getElem_cons->So,mem_cons_of_mem->Rw,getElem?_set_self->Sa,mem_append->Q5,nil_append->Q6,drop_of_length_le->Sr,find?_cons->Rf,getElem?_set_ne->Ss,length_filter_le->Th,lookup_cons->Sf,all_eq_true->Sg,all_cons->Rq,getElem?_cons_succ->Uc,take_add_one->Sv,reverse_append->Tj,getD_eq_getElem?_getD->U6,length_drop->Sw,cons_append->Sx,append_inj'->Sy,mem_map->Rr,replicate_succ->Uh,map_congr_left->Ui,reverse_singleton->Vf,mem_cons_self->Uj,mem_filter->Tk,lookup->R4,length_set->To,length_nil->Tq,filter_cons->Up,filterMap_cons->Vh,length->Sl,forIn_cons->Ur,flatten_cons->Vn,singleton_append->Wn,getElem_mem->Vr,take_length->Vt,getElem?_of_mem->Wp,any_cons->Uw,dropLast_concat_getLast->Xh,nodup_cons->Vu,of_mem_zip->Vv,map_nil->Uy,map_map->U0,map_singleton->Wu,map->R6,filter_append->Wv,mem_range->V0,forIn_nil->V2,reverse_cons->W1,mem_reverse->W4
open List.cons renaming injEq->Vz
open Nat renaming le_refl->Pm,lt_of_lt_of_le->Qb,ne_of_lt->P3,le_trans->P9,zero_le->Qo,lt_irrefl->Q7,ne_of_gt->Q3,sub_self->Q9,zero_add->Tc,lt_succ_self->Vp,le_add_right->Vs,min_eq_left->Vy,le_of_lt->Ux,sub_zero->Uz,succ_pos->Wb,not_lt_zero->Xb,le_succ->Wd
open Ne renaming symm->Px
open Option renaming map_eq_some_iff->Q0,isSome_iff_exists->Sq,bind_some->Rn,map_some->Ut,toList_some->Vl
open Option.some renaming inj->Qh
open PyProof.Rows renaming callWith_type1->Sn,slot_tuple_getitem->Tg
open PySem renaming wpAny_bind->Pj,wpAny_pure->Pl,wpAny_field->Py,wpAny_callSpecial?_slot->Rj,wpAny_setField_rec->Rl,wpAny_call_entry->Rm,wpAny_truthy_bool->Ry,wpAny_seqItems->Rg,wpAny_holding->Q8,mem_of_lookup->Su,wpAny_newObj_type->Se,Params->Rh,builtinLookup_eq_fast->Ud,wpAny_passesOwn->Sz,wpAny_getItem_str_slice->Vc,wpAny_Call_Name_kw->Uk,wpAny_pyIter_tuple->Ul,wpAny_execs_nil->Tl,codeAny_builtin->Tp,wpAny_mono->Rt,plainId_quiet->Ta,Stmt->Ru,wpAny_attempt->Tu,typeLookup_type->Us,wpAny_pyIter_list->Vo,wpAny_setField->Uu,codeAny_mono->Tx,wpAny_typeOf->Tz,noFill_tuple_add->Vq,wpAny_updateSeq_pair->Wo,call_meets->Td,post_val_or_str->Vw,wpAny_updateSeq->Vx,slot_list_getitem->W0,wpAny_rule->Ua,seq_tuple_add->V4,wpAny_onRaise->V5,wpAny_execs_cons->W2,wpAny_isInstance->W3,Within->V7,concat_meets->V9,wpAny_specialOf->W9,sizeLine_eq->Wc,wpAny_letGo->We
open PySem.Around renaming under_plainId->Ti
open PySem.AutoSeq1 renaming wpAny_loadPart'->U3
open PySem.Builtin.List renaming listTooLong->Va,listLengthHint->Wf,listExtendWith->Wg
open PySem.Builtin.Slice renaming slicePlaces->U7,sliceAdjust->Wi
open PySem.Builtin.SmallTypes renaming ownedTupleIsFree->Ri,nextOf->Q4,ownedTupleHandOut->Xc
open PySem.Builtin.Tuple renaming tupleExact->U9
open PySem.Calls renaming spliced_cons->Ws,spliced_nil->Wz
open PySem.Challenge renaming pw_gapscribe_k54_whole_gaps_in_either_order->Te
open PySem.F renaming plainAttrs_list->Pw,slot_list_append->Qf,type_list_append->Qg,slot_zip_next->Sd,slot_tuple_iterator_next->U2,plain_extend_loop->Ub,slot_enumerate_next->U4,slot_list_pop->Ue,type_list_pop->Uf,args_tuple_add_2->U8,entry_tuple_add->Vb,args_zip_next_1->Vd,slot_tuple_add->Ve,entry_zip_next->Vg,excBase_ValueError->Wh,slot_list_getattribute->Wj,slot_list_extend->Wk,type_list_extend->Wl,args_tuple_iterator_next_1->Xd,entry_tuple_iterator_next->Xe,args_enumerate_next_1->Xf,entry_enumerate_next->Xg
open PySem.Heap renaming get?_push_of_some->Pp,get?_push_size->P4,lt_size->Pr,SameBut->P5,get?_update_other->Re,size_push->Qv,get?_update_self->Sb,get?_none_of_le->Ug,ExtBut->T9,dictOf_iff->Xa
open PySem.Obj renaming mapSeq->Qy,data_mapFields->Vk,mapFields->Tv,isFreed_of_fields->Wm
open PySem.Paired renaming length->V3
open PySem.PassesOwn renaming never->Qj
open PySem.SeqAt renaming EqAt->P6
open PySem.SeqAt.EqAt renaming same->W7
open PySem.Str renaming ofString->Qx
open PySem.Txt renaming slice_le->Wa,slice->U1
open PySem.W renaming Frag->Pi,nsIn->Qa,findIn->Qn,kia_one->Q1,emptyDict->Rz,keepIn->Ro,kitOne->Rp,instObj->Sh,BT->Rb,subIn->Sj,fnOf->Sk,tailIn->Ts,nsOkIn->Tt,plainGet->Uo,callWith_K->Vj,clsIn->Tw,hasDictIn->Vm,Looks->Uv,plainGet_of->Wq,lookIn->V1,methodObj->Ww,plainOver->Wx,kitx_list->Wy,mg_of->V6,isFn->V8,takerIn->W5,makesIn->W6,OpenLaw->W8
inductive eX2 {T0 T1:Type}(p:T0->T1->Prop):Prop
 |mk (x0:T0)(x1:T1)(h:p x0 x1)
inductive eX3 {T0 T1 T2:Type}(p:T0->T1->T2->Prop):Prop
 |mk (x0:T0)(x1:T1)(x2:T2)(h:p x0 x1 x2)
inductive eX4 {T0 T1 T2 T3:Type}(p:T0->T1->T2->T3->Prop):Prop
 |mk (x0:T0)(x1:T1)(x2:T2)(x3:T3)(h:p x0 x1 x2 x3)
inductive eX5 {T0 T1 T2 T3 T4:Type}(p:T0->T1->T2->T3->T4->Prop):Prop
 |mk (x0:T0)(x1:T1)(x2:T2)(x3:T3)(x4:T4)(h:p x0 x1 x2 x3 x4)
inductive eX6 {T0 T1 T2 T3 T4 T5:Type}(p:T0->T1->T2->T3->T4->T5->Prop):Prop
 |mk (x0:T0)(x1:T1)(x2:T2)(x3:T3)(x4:T4)(x5:T5)(h:p x0 x1 x2 x3 x4 x5)
inductive eX7 {T0 T1 T2 T3 T4 T5 T6:Type}(p:T0->T1->T2->T3->T4->T5->T6->Prop):Prop
 |mk (x0:T0)(x1:T1)(x2:T2)(x3:T3)(x4:T4)(x5:T5)(x6:T6)(h:p x0 x1 x2 x3 x4 x5 x6)
inductive eX13 {T0 T1 T2 T3 T4 T5 T6 T7 T8 T9 T10 T11 T12:Type}(p:T0->T1->T2->T3->T4->T5->T6->T7->T8->T9->T10->T11->T12->Prop):Prop
 |mk (x0:T0)(x1:T1)(x2:T2)(x3:T3)(x4:T4)(x5:T5)(x6:T6)(x7:T7)(x8:T8)(x9:T9)(x10:T10)(x11:T11)(x12:T12)(h:p x0 x1 x2 x3 x4 x5 x6 x7 x8 x9 x10 x11 x12)
inductive eX14 {T0 T1 T2 T3 T4 T5 T6 T7 T8 T9 T10 T11 T12 T13:Type}(p:T0->T1->T2->T3->T4->T5->T6->T7->T8->T9->T10->T11->T12->T13->Prop):Prop
 |mk (x0:T0)(x1:T1)(x2:T2)(x3:T3)(x4:T4)(x5:T5)(x6:T6)(x7:T7)(x8:T8)(x9:T9)(x10:T10)(x11:T11)(x12:T12)(x13:T13)(h:p x0 x1 x2 x3 x4 x5 x6 x7 x8 x9 x10 x11 x12 x13)
inductive eX17 {T0 T1 T2 T3 T4 T5 T6 T7 T8 T9 T10 T11 T12 T13 T14 T15 T16:Type}(p:T0->T1->T2->T3->T4->T5->T6->T7->T8->T9->T10->T11->T12->T13->T14->T15->T16->Prop):Prop
 |mk (x0:T0)(x1:T1)(x2:T2)(x3:T3)(x4:T4)(x5:T5)(x6:T6)(x7:T7)(x8:T8)(x9:T9)(x10:T10)(x11:T11)(x12:T12)(x13:T13)(x14:T14)(x15:T15)(x16:T16)(h:p x0 x1 x2 x3 x4 x5 x6 x7 x8 x9 x10 x11 x12 x13 x14 x15 x16)
local macro_rules | `(tactic| right)=>`(tactic| decide +kernel)
theorem dH {p:Prop}[Decidable p](h:p):decide p=true:=decide_eq_true h
theorem dI {p:Prop}[Decidable p](h:¬p):decide p=false:=decide_eq_false h
theorem dJ {p:Prop}[Decidable p](h:decide p=true):p:=of_decide_eq_true h
namespace L2
open PySem PySem.Spec PyProof.Rows
theorem zBzQ {p:Prop}(h:p:=by first|exact .inl rfl|exact .inr rfl|assumption):p:=h
def zQ:=zBzQ._auto_1
theorem zBzW {p:Prop}(h:p:=by decide):p:=h
def zW:=zBzW._auto_1
theorem zBzE {p:Prop}(h:p:=by intro _;rfl):p:=h
def zE:=zBzE._auto_1
theorem zBzX {p:Prop}(h:p:=by rfl):p:=h
def zX:=zBzX._auto_1
theorem zBzY {p:Prop}(h:p:=by first|exact Or.inl rfl|exact Or.inr (Or.inl rfl)|exact Or.inr (Or.inr rfl)):p:=h
def zY:=zBzY._auto_1
theorem zBzJ {p:Prop}(h:p:=by exact Or.inl rfl):p:=h
def zJ:=zBzJ._auto_1
noncomputable abbrev Ax:=Sum Int Str
noncomputable def L6:Ax->Value->Bool
 |.inl k,v=>Value.isInt k v
 |.inr x,v=>Value.isStrOf x v
noncomputable def keyH (w:World):Ax->Int
 |.inl k=>hashInt k
 |.inr x=>hashStr w x
def G4:∀{k:Ax}{v:Value},L6 k v=true->(eX2 λi t=>k=Sum.inl i/\v=Value.int i t)\/(eX2 λx t=>k=Sum.inr x/\v=Value.str x t)
 |.inl i,v,h=>by
  obtain⟨t,e⟩:=Value.isInt_shape (k:=i) (v:=v) h;exact .inl ⟨i,t,rfl,e⟩
 |.inr x,v,h=>by
  obtain⟨t,e⟩:=Value.isStrOf_shape (x:=x) (v:=v) h;exact .inr ⟨x,t,rfl,e⟩
def Zql (i:Int)(t:Tok):L6 (.inl i) (.int i t)=true:=by simp[L6,Value.isInt]
def Znz (x:Str)(t:Tok):L6 (.inr x) (.str x t)=true:=by simp[L6,Value.isStrOf]
def Ztd (a b:Int):decide ((Sum.inl a:Ax)=Sum.inl b)=(a == b):=by
 by_cases e:a=b
 ·subst e;simp
 ·have h:¬(Sum.inl a:Ax)=Sum.inl b:=λq=>e (Sum.inl.inj q);rw[dI h];exact(beq_eq_false_iff_ne.mpr e).symm
def Zpr (a b:Str):decide ((Sum.inr a:Ax)=Sum.inr b)=decide (a=b):=by
 by_cases e:a=b
 ·subst e;simp
 ·have h:¬(Sum.inr a:Ax)=Sum.inr b:=λq=>e (Sum.inr.inj q);rw[dI h,dI e]
def Ztz (a:Int)(b:Str):decide ((Sum.inl a:Ax)=Sum.inr b)=false:=dI (λq=>nomatch q)
def Zml (a:Str)(b:Int):decide ((Sum.inr a:Ax)=Sum.inl b)=false:=dI (λq=>nomatch q)
noncomputable def Eo (prog:Program)(w:World):PySem.KeyKind prog w Ax where
 is:=L6
 hash:=keyH w
 inj:=λv a b I hb=>by
  rcases G4 I with⟨i,t,rfl,rfl⟩|⟨x,t,rfl,rfl⟩
  ·rcases G4 hb with⟨j,u,rfl,e⟩|⟨y,u,rfl,e⟩
   ·injection e with e1 _;rw[e1]
   ·exact nomatch e
  ·rcases G4 hb with⟨j,u,rfl,e⟩|⟨y,u,rfl,e⟩
   ·exact nomatch e
   ·injection e with e1 _;rw[e1]
 byValue:=λk v h=>by
  rcases G4 h with⟨i,t,rfl,rfl⟩|⟨x,t,rfl,rfl⟩ <;> rfl
 pyHash:=λhv h=>by
  rcases G4 hv with⟨i,t,rfl,rfl⟩|⟨x,t,rfl,rfl⟩
  ·exact wpAny_pyHash_int h
  ·exact wpAny_pyHash_str h
 eqBool:=λhu hv h=>by
  rcases G4 hu with⟨i,t,rfl,rfl⟩|⟨x,t,rfl,rfl⟩
  ·rcases G4 hv with⟨j,u,rfl,rfl⟩|⟨y,u,rfl,rfl⟩
   ·rw[Ztd]at h;exact wpAny_eqBool_int h
   ·rw[Ztz]at h;exact P6.int_str i t y u _ _ _ _ h
  ·rcases G4 hv with⟨j,u,rfl,rfl⟩|⟨y,u,rfl,rfl⟩
   ·rw[Zml]at h;exact P6.str_int x t j u _ _ _ _ h
   ·rw[Zpr]at h;exact wpAny_eqBool_str h
 «strs»:=λk x t v h=>by
  rcases G4 h with⟨i,u,rfl,e⟩|⟨y,u,rfl,e⟩
  ·exact nomatch e
  ·injection e with e1 _;subst e1;cases v <;> rfl
def Zm5 (prog:Program)(w:World)(i:Int)(t:Tok):(Eo prog w).is (.inl i) (.int i t)=true:=Zql i t
def Zp9 (prog:Program)(w:World)(x:Str)(t:Tok):(Eo prog w).is (.inr x) (.str x t)=true:=Znz x t
inductive V where
 |non|bl (b:Bool)|int (i:Int)|str (x:Str)|byt (b:Array UInt8)|flt (b:UInt64)|ref (a:Addr)|ty (n:String)
 deriving DecidableEq
def RelV:V->Value->Prop
 |.non,u=>u=Value.none
 |.bl b,u=>u=Value.bool b
 |.int i,u=>∃t,u=Value.int i t
 |.str x,u=>∃t,u=Value.str x t
 |.byt b,u=>∃t,u=Value.bytes b t
 |.flt b,u=>∃t,u=Value.float b t
 |.ref a,u=>u=Value.ref a
 |.ty n,u=>u=Value.type n
noncomputable abbrev Vals:List V->List Value->Prop:=Paired RelV
def Vals.length (r:Vals xs us):xs.length=us.length:=V3 r
theorem Vals.get:∀{xs:List V}{us:List Value}{i:Nat}{x:V},Vals xs us->xs[i]?=some x->∃u,us[i]?=some u/\RelV x u
 |_,_,_,_,.nil,e=>by simp at e
 |_,_,0,_,.cons r _,e=>by simp at e;subst e;exact⟨_,rfl,r⟩
 |_,_,i+1,x,.cons _ t,e=>by
  obtain⟨u,h1,h2⟩:=Vals.get (i:=i) (x:=x) t (by simpa using e);exact⟨u,by simpa using h1,h2⟩
theorem Vals.set (r:RelV x u):∀{xs:List V}{us:List Value}(i:Nat),Vals xs us->Vals (xs.set i x) (us.set i u)
 |_,_,_,.nil=>.nil
 |_,_,0,.cons _ t=>.cons r t
 |_,_,i+1,.cons q t=>.cons q (Vals.set r i t)
theorem Vals.append:∀{xs ys:List V}{us ws:List Value},Vals xs us->Vals ys ws->Vals (xs++ys) (us++ws)
 |_,_,_,_,.nil,s=>s
 |_,_,_,_,.cons r t,s=>.cons r (Vals.append t s)
theorem Vals.take:∀{xs:List V}{us:List Value}(n:Nat),Vals xs us->Vals (xs.take n) (us.take n)
 |_,_,0,_=>.nil
 |_,_,_+1,.nil=>.nil
 |_,_,n+1,.cons r t=>.cons r (Vals.take n t)
theorem Vals.drop:∀{xs:List V}{us:List Value}(n:Nat),Vals xs us->Vals (xs.drop n) (us.drop n)
 |_,_,0,r=>r
 |_,_,_+1,.nil=>.nil
 |_,_,n+1,.cons _ t=>Vals.drop n t
def Vals.none_of:∀{xs:List V}{us:List Value}{i:Nat},Vals xs us->xs[i]?=none->us[i]?=none:=λ{xs us i} r e=>by
 have h1:=r.length;have h2:xs.length<=i:=List.getElem?_eq_none_iff.mp e;exact List.getElem?_eq_none_iff.mpr (by lia)
def RelO:Option V->Option Value->Prop
 |some v,some u=>RelV v u
 |none,none=>True
 |_,_=>False
def KV {κ:Type}:List (κ×V)->List (κ×Value)->Prop:=Paired λ(p:κ×V) (q:κ×Value)=>p.1=q.1/\RelV p.2 q.2
noncomputable def kV:Ax->V
 |.inl i=>.int i
 |.inr x=>.str x
inductive HO where
  |lst (xs:List V)
  |tup (xs:List V)
  |dK (kvs:List (Ax×V))|dT (kvs:List (List Ax×V))
  |set (S:Int->Bool) (n:Nat)
  |ins (C dx:Addr) (fs:List (Str×V))
  |own (x:Addr)
  |xd (fs:List (Str×V))
  |met (f x:Addr)
  |rng (lo hi:Int)
  |frz (o:Obj) (u:HO)
  |tbl (ps:Array Value)
  |ext (φ:Heap->Prop)
noncomputable abbrev Hp:=Addr->Option HO
noncomputable def upd (H:Hp)(a:Addr)(o:HO):Hp:=λb=>if b=a then some o else H b
def Ac:upd H a o a=some o:=by unfold upd;rw[if_pos rfl]
def Ah (h:b≠a):upd H a o b=H b:=by unfold upd;rw[if_neg h]
def Ks:upd (upd H a o) a u=upd H a u:=by
 funext b;unfold upd;split <;> rfl
def El {H:Hp}{a b:Addr}{o u:HO}(h:H a=some o)(h':H b=some u)(d:o≠u):a≠b:=by
 intro e;subst e;rw[h]at h';exact d (Qh h')
def Dh {H:Hp}{a b:Addr}{o:HO}(h:H a=some o)(h':H b=none):a≠b:=by
 intro e;subst e;rw[h]at h';cases h'
section
variable (P:Program)(w:World)
def ObjOk (H:Hp)(h:Heap)(a:Addr):HO->Prop
 |.lst xs=>xs.length<=sizeLine/\eX2 λ(its:List Value)(n:Nat)=>Vals xs its/\h.get? a=some { cls:=.type "list",data:=.seq its.toArray n }
 |.tup xs=>xs.length<=sizeLine/\∃its:List Value,Vals xs its/\IsTup h a its.toArray
 |.dK kvs=>kvs.length<=sizeLine/\(a == sysModules)=false/\∃vs,KV kvs vs/\h.DictOf (Eo P w) a vs
 |.dT kvs=>kvs.length<=sizeLine/\(a == sysModules)=false/\∃xs:List (List Ax×Addr×Value),
   Paired (λ(p:List Ax×V) (q:List Ax×Addr×Value)=>p.1=q.1/\H q.2.1=some (.tup (p.1.map kV))/\RelV p.2 q.2.2) kvs xs /\
   eX3 λo es ep=>h.get? a=some o/\o.ExactDict/\o.data=.dict es ep/\es.toList=xs.map (entryOfKey (tupleKind (Eo P w)))/\(xs.map (·.1)).Nodup
 |.set S n=>h.SetOf (intKind P w) a S n
 |.ins C dx fs=>H dx=some (.own a)/\fs.length<=1000/\dx≠a/\h.get? a=some (Sh C dx) /\
   ∃mA,h.Ns1 dx mA/\(∀f,RelO (fs.lookup f) (mA f))/\V7 mA (fs.map (·.1))
 |.own _=>∃o,h.get? a=some o
 |.xd fs=>∃mA,h.Ns1 a mA/\∀f,RelO (fs.lookup f) (mA f)
 |.rng lo hi=>eX3 λt u v=>h.get? a=some { cls:=.type "range",data:=.fields #[.int lo t,.int hi u,.int 1 v] }
 |.frz o u=>h.get? a=some o/\ObjOk H h a u
 |.tbl ps=>h.get? a=some { cls:=.none,data:=.fields ps }
 |.met f x=>h.get? a=some (Ww (.ref f) (.ref x))
 |.ext φ=>φ h/\(∃o,h.get? a=some o)/\∀h1 h2:Heap,φ h1->(∀o,h1.get? a=some o->h2.get? a=some o)->φ h2
def HOk (H:Hp)(h:Heap):Prop:=∀a o,H a=some o->ObjOk P w H h a o
end
section
variable {P:Program}{w:World}{H H':Hp}{h h':Heap}{a:Addr}{o:HO}
def ObjOk.lt (x:ObjOk P w H h a o):a<h.objs.size:=by
 cases o with
 |lst xs=>obtain⟨_,_,_,_,e⟩:=x;exact Pr e
 |tup xs=>obtain⟨_,_,_,p⟩:=x;exact p.lt
 |dK kvs=>obtain⟨_,_,_,_,o,_,_,e,_⟩:=x;exact Pr e
 |dT kvs=>obtain⟨_,_,_,_,o,_,_,e,_⟩:=x;exact Pr e
 |set S n=>obtain⟨o,_,_,_,e,_⟩:=x;exact Pr e
 |ins C dx fs=>obtain⟨_,_,_,e,_⟩:=x;exact Pr e
 |own y=>obtain⟨_,e⟩:=x;exact Pr e
 |xd fs=>obtain⟨_,⟨_,_,_,e,_⟩,_⟩:=x;exact Pr e
 |rng lo hi=>obtain⟨_,_,_,e⟩:=x;exact Pr e
 |frz I u=>obtain⟨e,_⟩:=x;exact Pr e
 |tbl ps=>exact Pr (show h.get? a=some _ from x)
 |met f y=>exact Pr (show h.get? a=some _ from x)
 |ext φ=>obtain⟨_,⟨_,e⟩,_⟩:=x;exact Pr e
theorem Paired.mapP {α β:Type}{F G:α->β->Prop}:∀{l₁:List α}{l₂:List β},Paired F l₁ l₂->(∀a b,F a b->G a b)->Paired G l₁ l₂
 |_,_,.nil,_=>.nil
 |_,_,.cons r t,f=>.cons (f _ _ r) (Paired.mapP t f)
def ObjOk.stay (x:ObjOk P w H h a o)(k:∀b u,(b=a\/H b=some (.own a))->h.get? b=some u->h'.get? b=some u)
  (ho:∀b,H b=some (.own a)->H' b=some (.own a)) (ht:∀b xs,H b=some (.tup xs)->H' b=some (.tup xs)):ObjOk P w H' h' a o:=by
 induction o with
 |lst xs=>obtain⟨z,U,n,r,e⟩:=x;exact⟨z,U,n,r,k _ _ (.inl rfl) e⟩
 |tup xs=>obtain⟨z,U,r,I,e,c⟩:=x;exact⟨z,U,r,I,k _ _ (.inl rfl) e,c⟩
 |dK kvs=>obtain⟨z,y,vs,r,I,es,O,e,c⟩:=x;exact⟨z,y,vs,r,I,es,O,k _ _ (.inl rfl) e,c⟩
 |dT kvs =>
  obtain⟨z,y,xs,r,I,es,O,e,c⟩:=x;exact⟨z,y,xs,Paired.mapP r λp q z=>⟨z.1,ht _ _ z.2.1,z.2.2⟩,I,es,O,k _ _ (.inl rfl) e,c⟩
 |set S n=>obtain⟨I,es,O,t,e,c⟩:=x;exact⟨I,es,O,t,k _ _ (.inl rfl) e,c⟩
 |ins C dx fs =>
  obtain⟨d,z,ne,e,mA,⟨od,es,O,Y,c⟩,r⟩:=x;exact⟨ho _ d,z,ne,k _ _ (.inl rfl) e,mA,⟨od,es,O,k _ _ (.inr d) Y,c⟩,r⟩
 |own y=>obtain⟨I,e⟩:=x;exact⟨I,k _ _ (.inl rfl) e⟩
 |xd fs=>obtain⟨mA,⟨od,es,O,e,c⟩,r⟩:=x;exact⟨mA,⟨od,es,O,k _ _ (.inl rfl) e,c⟩,r⟩
 |rng lo hi=>obtain⟨t,u,v,e⟩:=x;exact⟨t,u,v,k _ _ (.inl rfl) e⟩
 |frz I u Z=>obtain⟨e,q⟩:=x;exact⟨k _ _ (.inl rfl) e,Z q⟩
 |tbl ps =>
  have e:h.get? a=some { cls:=.none,data:=.fields ps }:=x;show h'.get? a=some { cls:=.none,data:=.fields ps };exact k a _ (.inl rfl) e
 |met f y =>
  have e:h.get? a=some (Ww (.ref f) (.ref y)):=x;show h'.get? a=some (Ww (.ref f) (.ref y));exact k a _ (.inl rfl) e
 |ext φ=>obtain⟨p,⟨o,e⟩,st⟩:=x;exact⟨st _ _ p λo q=>k _ _ (.inl rfl) q,⟨o,k _ _ (.inl rfl) e⟩,st⟩
def HOk.lt (x:HOk P w H h)(e:H a=some o):a<h.objs.size:=(x a o e).lt
def HOk.fresh (x:HOk P w H h)(e:h.objs.size<=a):H a=none:=by
 cases q:H a with
 |none=>rfl
 |some u=>exact absurd (Qb (x.lt q) e) (Q7 _)
def HOk.kept (x:HOk P w H h)(k:∀b u,h.get? b=some u->h'.get? b=some u):HOk P w H h':=λa o e =>
 (x a o e).stay (λb u _ q=>k b u q) (λ_ q=>q) λ_ _ q=>q
def HOk.laid (x:HOk P w H h)(k:∀b u,h.get? b=some u->h'.get? b=some u)(hp:h.objs.size<=a)(new:ObjOk P w (upd H a o) h' a o):HOk P w (upd H a o) h':=λb u e=>by
 have hn:=x.fresh hp;by_cases hb:b=a
 ·subst hb;rw[Ac]at e;cases e;exact new
 ·rw[Ah hb]at e;exact(x b u e).stay (λc v _ q=>k c v q) (λc q=>by rw[Ah (Dh q hn)];exact q) λc xs q=>by rw[Ah (Dh q hn)];exact q
end
def Rd (H:Hp)(a:Addr)(u:HO):Prop:=H a=some u\/∃o,H a=some (.frz o u)
def Rd.ok (r:Rd H a u)(x:HOk P w H h):ObjOk P w H h a u:=by
 rcases r with r|⟨o,r⟩
 ·exact x a u r
 ·obtain⟨_,q⟩:=x a _ r;exact q
def Mut:Option HO->Prop
 |some (.lst _)=>True
 |some (.dK _)=>True
 |some (.dT _)=>True
 |some (.set _ _)=>True
 |some (.ins _ _ _)=>True
 |some (.ext _)=>True
 |_=>False
section
variable {P:Program}{w:World}{H:Hp}{h h':Heap}{x e:Addr}{o':HO}
def HOk.write (ok:HOk P w H h)(mu:Mut (H x))(he:e=x\/H e=some (.own x))(k:∀b u,b≠e->h.get? b=some u->h'.get? b=some u)(heo:∃u,h'.get? e=some u)
  (new:ObjOk P w (upd H x o') h' x o'):HOk P w (upd H x o') h':=λb u q=>by
 have O:∀c y,H c=some (.own y)->c≠x:=λc y r z=>by subst z;rw[r]at mu;exact mu
 have U:∀c xs,H c=some (.tup xs)->c≠x:=λc xs r z=>by subst z;rw[r]at mu;exact mu
 by_cases hb:b=x
 ·subst hb;rw[Ac]at q;cases q;exact new
 ·rw[Ah hb]at q;by_cases I:b=e
  ·have Z:H b=some (.own x):=by
    rcases he with z|z
    ·exact absurd (I.trans z) hb
    ·rw[I];exact z
   rw[q]at Z;cases Z;obtain⟨v,hv⟩:=heo;exact⟨v,by rw[I];exact hv⟩
  ·refine(ok b u q).stay (λc v Y r=>k c v ?_ r) (λc r=>by rw[Ah (O c b r)];exact r) λc xs r=>by rw[Ah (U c xs r)];exact r
   rcases Y with rfl|Y
   ·exact I
   ·rintro rfl;rcases he with z|z
    ·exact O c b Y z
    ·rw[Y]at z;cases z;exact hb rfl
end
structure Un (fs ex:List Addr)(H H':Hp)(h h':Heap):Prop where
 keep:∀b o,h.get? b=some o->H b=none->b ∉ fs->b ∉ ex->h'.get? b=some o
 slot:∀b o,h.get? b=some o->H b=none->b∈fs->b ∉ ex->∃sl,h'.get? b=some { o with slots:=sl }
 free:∀b o,h.get? b=some o->H b=none->b ∉ ex->H' b=none
 there:∀b o,h.get? b=some o->b ∉ ex->∃o',h'.get? b=some o'
 tups:∀b xs,H b=some (.tup xs)->H' b=some (.tup xs)
 frzs:∀b o u,H b=some (.frz o u)->H' b=some (.frz o u)
 tbls:∀b ps,H b=some (.tbl ps)->∃more,H' b=some (.tbl (ps++more))
section
variable {fs fs' ex ex':List Addr}{H H1 H2:Hp}{h h1 h2 h':Heap}{a x e:Addr}{o:HO}
def Un.any (u:Un fs ex H H1 h h1)(q:h.get? b=some ob)(n:H b=none)(hx:b ∉ ex):∃sl,h1.get? b=some { ob with slots:=sl }:=by
 by_cases hb:b∈fs
 ·exact u.slot b ob q n hb hx
 ·exact⟨ob.slots,u.keep b ob q n hb hx⟩
def Un.kept (k:∀b u,h.get? b=some u->h'.get? b=some u):Un fs ex H H h h' :=
 ⟨λb I q _ _ _=>k b I q,λb I q _ _ _=>⟨I.slots,k b I q⟩,λ_ _ _ n _=>n,λb I q _=>⟨I,k b I q⟩,λ_ _ q=>q,λ_ _ _ q=>q,λ_ ps q=>⟨#[],by rw[q];simp⟩⟩
def Un.refl:Un fs ex H H h h:=Un.kept λ_ _ q=>q
def Un.laid (k:∀b u,h.get? b=some u->h'.get? b=some u)(hp:h.objs.size<=a)(hn:H a=none):Un fs ex H (upd H a o) h h' where
 keep:=λb u q _ _ _=>k b u q
 slot:=λb u q _ _ _=>⟨u.slots,k b u q⟩
 free:=λb u q n _=>by rw[Ah (P3 (Qb (Pr q) hp))];exact n
 there:=λb u q _=>⟨u,k b u q⟩
 tups:=λb xs q=>by rw[Ah (Dh q hn)];exact q
 frzs:=λb u xs q=>by rw[Ah (Dh q hn)];exact q
 tbls:=λb ps q=>⟨#[],by rw[Ah (Dh q hn),q];simp⟩
def Un.write (mu:Mut (H x))(he:e=x\/H e=some (.own x))(k:∀b u,b≠e->h.get? b=some u->h'.get? b=some u)(heo:∃u,h'.get? e=some u):Un fs ex H (upd H x o) h h':=by
 have U:∀b,H b=none->b≠x:=λb n z=>by subst z;rw[n]at mu;exact mu
 have hb:∀b,H b=none->b≠e:=λb n z=>by
  subst z;rcases he with r|r
  ·exact U b n r
  ·rw[n]at r;cases r
 have O:∀b u,H b=some u->¬Mut (some u)->b≠x:=λb u q nm z=>by subst z;rw[q]at mu;exact nm mu
 refine⟨λb u q n _ _=>k b u (hb b n) q,λb u q n _ _=>⟨u.slots,k b u (hb b n) q⟩,λb u q n _=>by rw[Ah (U b n)];exact n,λb u q _=>?_,
  λb xs q=>by rw[Ah (O b _ q λz=>z)];exact q,λb u xs q=>by rw[Ah (O b _ q λz=>z)];exact q,λb ps q=>⟨#[],by rw[Ah (O b _ q λz=>z),q];simp⟩⟩
 by_cases I:b=e
 ·subst I;exact heo
 ·exact⟨u,k b u I q⟩
end
noncomputable def trk (h:Heap)(H:Hp):List Addr:=(P7 h.objs.size).filter λa=>(H a).isSome
noncomputable def Hc (h:Heap)(H:Hp):Heap:=PySem.W.hideAll h (trk h H)
def Zoy (h:Heap)(H:Hp):(Hc h H).objs.size=h.objs.size:=PySem.W.hideAll_size _ _
def Zqh (e:h.get? b=some o)(n:H b=none):(Hc h H).get? b=some o :=
 PySem.W.hideAll_get _ e λI=>by
  have q:(H b).isSome=true:=(Tk.mp I).2;rw[n]at q;simp at q
def Zst (e:(Hc h H).get? b=some o):h.get? b=some o/\H b=none:=by
 have I:h.get? b=some o:=PySem.W.of_hideAll (trk h H) e;refine⟨I,?_⟩;cases q:H b with
 |none=>rfl
 |some x =>
  have O:b∈trk h H:=Tk.mpr ⟨V0.mpr (Pr I),by simp[q]⟩;have z:(Hc h H).get? b=none:=PySem.W.hideAll_none (trk h H) O;rw[z]at e;cases e
structure Mod (K:Pi)(mg:Str->Option Value)(base:Heap):Prop where
 kin:K.In base
 glob:base.Ns mainGlobals mg
 blt:∃mb,base.Ns builtinsNs mb/\∀x:Str,x≠"__name__" -> mb x=bootBuiltins x
 nolimit:base.NoLimit
structure Cx where
 prog:Program
 w:World
 K:Pi
 mg:Str->Option Value
 base:Heap
 A:Around
 N:List Str
 s₀:Shared
 H₀:Hp
 env:Env
 outer:List Env
 stack:List Env
 ex:List Addr
 fn:Str->Bool
 calm:Bool
 pn:List (Addr×Obj)
 xe:Value->Shared->Prop
noncomputable def B8 (l:List Env):List Addr:=l.filterMap (·.frame)
noncomputable abbrev Cx.fs (X:Cx):List Addr:=B8 X.outer
def Ip (sc:Scope)(x:Str):Prop:=sc.names.lookup x=some .local\/sc.names.lookup x=some .cell\/sc.names.lookup x=some .free
def D4 (sc:Scope)(x:Str):Prop:=sc.names.lookup x=some .local\/sc.names.lookup x=some .cell
def Look (env:Env)(h:Heap)(m:Str->Option Value)(x:Str)(u:Value):Prop :=
 (env.kindOf x=some .local/\m x=some u)\/((env.kindOf x=some .cell\/env.kindOf x=some .free)/\∃c,env.cells.lookup x=some c/\h.IsCell c (some u))
structure Cx.Ok (X:Cx):Prop where
 mod:Mod X.K X.mg X.base
 kind:X.env.scope.kind=.function
 glob:X.env.globals=mainGlobals
 blt:X.env.builtins=builtinsNs
 above:X.s₀.heap.objs.size<=X.env.locals
 inj:∀x y c,X.env.cells.lookup x=some c->X.env.cells.lookup y=some c->x=y
 has:∀x,(X.env.kindOf x=some .cell\/X.env.kindOf x=some .free)->∃c,X.env.cells.lookup x=some c
 cab:∀x c,X.fn x=true->X.env.cells.lookup x=some c->X.s₀.heap.objs.size<=c
 hd:X.calm=true->X.A.handled=none
 frames:X.A.frames=some X.stack
 stk:X.stack=X.outer\/(X.stack=X.env::X.outer/\X.env.frame=some X.env.locals)
 exf:∀b∈X.ex,b≠X.env.locals/\∀x c,X.env.cells.lookup x=some c->c≠b
 bs:∀b o,X.base.get? b=some o->X.s₀.heap.get? b=some o/\X.H₀ b=none
 bsz:X.base.objs.size<=X.s₀.heap.objs.size
 noex:∀b o,X.base.get? b=some o->b ∉ X.ex
 exfs:∀b∈X.ex,b ∉ X.fs
 funs:X.s₀.heap.FunFrames X.base X.outer
 frf:∀b∈X.fs,X.H₀ b=none
structure Inv (X:Cx)(pins:List (Addr×Obj))(σ:List (Option V))(H:Hp)(s:Shared):Prop where
 ok:X.Ok
 os:s.os=X.s₀.os
 bare:AllBare s.gens
 base:Un X.fs X.ex X.H₀ H X.s₀.heap s.heap
 loc:∃m,s.heap.Ns X.env.locals m/\∀(i:Nat)(x:Str)(v:V),X.N[i]?=some x->σ[i]?=some (some v)->Ip X.env.scope x->∃u,RelV v u/\Look X.env s.heap m x u
 cell:∀x c,X.env.cells.lookup x=some c->∃v,s.heap.IsCell c v
 free:H X.env.locals=none
 freeC:∀x c,X.env.cells.lookup x=some c->H c=none
 pin:∀p∈X.pn++pins,s.heap.get? p.1=some p.2/\H p.1=none/\p.1≠X.env.locals/\p.1 ∉ X.fs/\∀v,p.2.data≠.cell v
 hok:HOk X.prog X.w H s.heap
 len:σ.length=X.N.length
section
variable {X:Cx}{pins:List (Addr×Obj)}{σ:List (Option V)}{H H':Hp}{s:Shared}{h':Heap}
def Cx.Ok.nofr (ok:X.Ok)(e:X.base.get? b=some o):b ∉ X.fs:=λhb=>by
 have:=(ok.funs.mem hb).1;rw[e]at this;cases this
def Inv.bs (I:Inv X pins σ H s):∀b o,X.base.get? b=some o->s.heap.get? b=some o/\H b=none:=λb o e =>
 ⟨I.base.keep b o (I.ok.bs b o e).1 (I.ok.bs b o e).2 (I.ok.nofr e) (I.ok.noex b o e),I.base.free b o (I.ok.bs b o e).1 (I.ok.bs b o e).2 (I.ok.noex b o e)⟩
def Inv.bk (I:Inv X pins σ H s):∀b o,X.base.get? b=some o->s.heap.get? b=some o:=λb o e=>(I.bs b o e).1
def Inv.mod (I:Inv X pins σ H s):Mod X.K X.mg X.base:=I.ok.mod
def Inv.kIn (I:Inv X pins σ H s):X.K.In s.heap:=I.ok.mod.kin.keeps I.bk
def Inv.lt (I:Inv X pins σ H s):X.env.locals<s.heap.objs.size:=let ⟨_,hn,_⟩:=I.loc;hn.lt
def Inv.sz (I:Inv X pins σ H s):X.s₀.heap.objs.size<=s.heap.objs.size:=P9 I.ok.above (Ux I.lt)
def Inv.nofs (I:Inv X pins σ H s)(h:s.heap.objs.size<=a):a ∉ X.fs:=λhb=>by
 obtain⟨_,o,O,_⟩:=I.ok.funs.mem hb;exact absurd (Qb (Pr O) (P9 I.sz h)) (Q7 _)
def Inv.cne (I:Inv X pins σ H s):∀x c,X.env.cells.lookup x=some c->c≠X.env.locals:=λx c e z=>by
 obtain⟨v,o,Y,hd⟩:=I.cell x c e;obtain⟨m,⟨o',es,Z,U,O,_⟩,_⟩:=I.loc;rw[z,U]at Y;cases Y;rw[O]at hd;cases hd
def Inv.funs (I:Inv X pins σ H s):s.heap.FunFrames X.base X.outer:=by
 have all:∀(l:List Env),(∀b∈B8 l,b∈X.fs)->X.s₀.heap.FunFrames X.base l->s.heap.FunFrames X.base l:=by
  intro l
  induction l with
  |nil=>intro _ _;trivial
  |cons env r ih =>
   intro U hl;obtain⟨Z,⟨L,o,hf,hn,Y,hd⟩,hr⟩:=hl;have O:L∈X.fs:=U L (by unfold B8;rw[Vh,hf];exact Uj);obtain⟨sl,e⟩:=I.base.slot L o Y (I.ok.frf L O) O λz=>I.ok.exfs L z O;exact⟨Z,⟨L,_,hf,hn,e,hd⟩,ih (λb hb=>U b (by unfold B8;rw[Vh,hf];exact Rw _ hb)) hr⟩
 exact all X.outer (λ_ hb=>hb) I.ok.funs
def Inv.stack (I:Inv X pins σ H s):s.heap.FunFrames X.base X.stack:=by
 rcases I.ok.stk with e|⟨e,hf⟩
 ·rw[e];exact I.funs
 ·rw[e];obtain⟨m,hn,_⟩:=I.loc;refine .cons (by rw[I.ok.kind];decide) hf hn ?_ I.funs;exact Ug (P9 I.ok.bsz I.ok.above)
def Inv.stkSub (I:Inv X pins σ H s):∀b∈B8 X.stack,b∈X.env.locals::X.fs:=λb hb=>by
 rcases I.ok.stk with e|⟨e,hf⟩
 ·rw[e]at hb;exact Rw _ hb
 ·rw[e]at hb;unfold B8 at hb;rw[Vh,hf]at hb;exact hb
def Inv.stkFree (I:Inv X pins σ H s):∀b∈B8 X.stack,H b=none:=λb hb=>by
 rcases Ps.mp (I.stkSub b hb) with e|hb
 ·rw[e];exact I.free
 ·obtain⟨_,o,O,_⟩:=I.ok.funs.mem hb;exact I.base.free b o O (I.ok.frf b hb) λz=>I.ok.exfs b z hb
def Inv.step {g':Array GenState}{t':Nat}{d':Drawn}{ch:List Addr}(I:Inv X pins σ H s)
  (hch:∀b∈ch,(b∈X.ex\/X.s₀.heap.objs.size<=b)/\b≠X.env.locals/\(∀x c,X.env.cells.lookup x=some c->c≠b)/\∀p∈X.pn++pins,p.1≠b)
  (keep:∀b o,b≠X.env.locals->b ∉ X.fs->b ∉ ch->s.heap.get? b=some o->H b=none->h'.get? b=some o)
  (slot:∀b o,b≠X.env.locals->b∈X.fs->b ∉ ch->s.heap.get? b=some o->H b=none->∃sl,h'.get? b=some { o with slots:=sl }) (free:∀b o,b ∉ ch->s.heap.get? b=some o->H b=none->H' b=none)
  (there:∀b o,b ∉ ch->s.heap.get? b=some o->∃o',h'.get? b=some o')
  (tups:∀b xs,H b=some (.tup xs)->H' b=some (.tup xs)) (frzs:∀b o u,H b=some (.frz o u)->H' b=some (.frz o u)) (tbls:∀b ps,H b=some (.tbl ps)->∃more,H' b=some (.tbl (ps++more)))
  (ns:∀m,s.heap.Ns X.env.locals m->h'.Ns X.env.locals m) (hok:HOk X.prog X.w H' h') (hg:AllBare g') :
  Inv X pins σ H' { s with heap:=h',gens:=g',drawn:=d',toks:=t' }:=by
 have aa:∀b o,X.s₀.heap.get? b=some o->b≠X.env.locals:=λb o e=>P3 (Qb (Pr e) I.ok.above);have Z:∀b o,X.s₀.heap.get? b=some o->b ∉ X.ex->b ∉ ch:=λb o e O hb=>by
  rcases (hch b hb).1 with z|z
  ·exact O z
  ·exact absurd (Qb (Pr e) z) (Q7 _)
 have Y:∀x c,X.env.cells.lookup x=some c->∀v,s.heap.IsCell c v->h'.IsCell c v:=λx c e v ⟨o,ho,hd⟩=>by
  have U:c ∉ ch:=λz=>(hch c z).2.2.1 x c e rfl;by_cases hc:c∈X.fs
  ·obtain⟨sl,q⟩:=slot c o (I.cne x c e) hc U ho (I.freeC x c e);exact⟨_,q,hd⟩
  ·exact⟨o,keep c o (I.cne x c e) hc U ho (I.freeC x c e),hd⟩
 refine⟨I.ok,I.os,hg,⟨λb o e n hb O=>?_,λb o e n hb O=>?_,λb o e n O=>?_,λb o e O=>?_,λb xs e=>tups b xs (I.base.tups b xs e),λb o xs e=>frzs b o xs (I.base.frzs b o xs e),λb ps e=>?_⟩,?_,λx c e=>?_,?_,λx c e=>?_,λp hp=>?_,hok,I.len⟩
 ·exact keep b o (aa b o e) hb (Z b o e O) (I.base.keep b o e n hb O) (I.base.free b o e n O)
 ·obtain⟨sl,e1⟩:=I.base.slot b o e n hb O;obtain⟨ac,e2⟩:=slot b _ (aa b o e) hb (Z b o e O) e1 (I.base.free b o e n O);exact⟨ac,e2⟩
 ·obtain⟨o',e1⟩:=I.base.there b o e O;exact free b o' (Z b o e O) e1 (I.base.free b o e n O)
 ·obtain⟨o',e1⟩:=I.base.there b o e O;exact there b o' (Z b o e O) e1
 ·obtain⟨m1,e1⟩:=I.base.tbls b ps e;obtain⟨m2,e2⟩:=tbls b _ e1;exact⟨m1++m2,by rw[e2,Array.append_assoc]⟩
 ·obtain⟨m,hn,hl⟩:=I.loc;refine⟨m,ns m hn,λi x v e1 e2 e3=>?_⟩;obtain⟨u,r,l⟩:=hl i x v e1 e2 e3;refine⟨u,r,?_⟩;rcases l with l|⟨k,c,e,z⟩
  ·exact .inl l
  ·exact .inr ⟨k,c,e,Y x c e _ z⟩
 ·obtain⟨v,z⟩:=I.cell x c e;exact⟨v,Y x c e v z⟩
 ·obtain⟨m,⟨o,_,_,ho,_⟩,_⟩:=I.loc;exact free _ o (λz=>(hch _ z).2.1 rfl) ho I.free
 ·obtain⟨v,o,ho,hd⟩:=I.cell x c e;exact free c o (λz=>(hch c z).2.2.1 x c e rfl) ho (I.freeC x c e)
 ·obtain⟨e,n,ne,nf,d⟩:=I.pin p hp;have U:p.1 ∉ ch:=λz=>(hch p.1 z).2.2.2 p hp rfl;exact⟨keep p.1 p.2 ne nf U e n,free p.1 p.2 U e n,ne,nf,d⟩
def Inv.un (I:Inv X pins σ H s)(u:Un X.fs [] H H' s.heap h')(hok:HOk X.prog X.w H' h'):Inv X pins σ H' { s with heap:=h',toks:=t' }:=by
 obtain⟨m,⟨o,es,ep,Z,r⟩,_⟩:=id I.loc;obtain⟨sl,hL⟩:=u.any Z I.free (by simp);exact I.step (g':=s.gens) (d':=s.drawn) (ch:=[]) (λ_ z=>nomatch z) (λb o _ hb _ e n=>u.keep b o e n hb (by simp)) (λb o _ hb _ e n=>u.slot b o e n hb (by simp)) (λb o _ e n=>u.free b o e n (by simp)) (λb o _ e=>u.there b o e (by simp)) u.tups u.frzs u.tbls (λm' hm=>by
  obtain⟨o',Y,U,O,r'⟩:=hm;rw[Z]at O;cases O;exact⟨_,Y,U,hL,r'⟩) hok I.bare
def Inv.call (I:Inv X pins σ H s)(u:Un (B8 X.stack) ch H H' s.heap h')(hok:HOk X.prog X.w H' h')(hg:AllBare g')(hch:∀b∈ch,(b∈X.ex\/X.s₀.heap.objs.size<=b)/\b≠X.env.locals/\(∀x c,X.env.cells.lookup x=some c->c≠b)/\∀p∈X.pn++pins,p.1≠b) :
  Inv X pins σ H' { s with heap:=h',gens:=g',drawn:=d',toks:=t' }:=by
 obtain⟨m,⟨o,es,ep,ho,r⟩,_⟩:=id I.loc;obtain⟨sl,Z⟩:=u.any ho I.free λz=>(hch _ z).2.1 rfl;exact I.step (ch:=ch) hch (λb o Z hb O e n=>u.keep b o e n (λz=>(Ps.mp (I.stkSub b z)).elim Z hb) O) (λb o _ _ O e n=>u.any e n O) (λb o O e n=>u.free b o e n O) (λb o O e=>u.there b o e O) u.tups u.frzs u.tbls (λm' hm=>by
  obtain⟨o',aa,Y,U,r'⟩:=hm;rw[ho]at U;cases U;exact⟨_,aa,Y,Z,r'⟩) hok hg
def Inv.turned (I:Inv X pins σ H s)(k:∀b o,b≠it->s.heap.get? b=some o->h'.get? b=some o)(hn:H it=none)(hL:it≠X.env.locals)(h1:it∈X.ex\/X.s₀.heap.objs.size<=it)(h2:∀x c,X.env.cells.lookup x=some c->c≠it)(h3:∀p∈X.pn++pins,p.1≠it):Inv X pins σ H { s with heap:=h',toks:=t' }:=by
 have U:∀b u,H b=some u->b≠it:=λb u e z=>by rw[z,hn]at e;cases e
 refine I.step (g':=s.gens) (d':=s.drawn) (ch:=[it]) (λb hb=>?_) (λb o _ _ O e _=>k b o (λz=>O (by simp[z])) e) (λb o _ _ O e _=>⟨o.slots,k b o (λz=>O (by simp[z])) e⟩) (λ_ _ _ _ n=>n)
  (λb o O e=>⟨o,k b o (λz=>O (by simp[z])) e⟩) (λ_ _ e=>e) (λ_ _ _ e=>e) (λb ps e=>⟨#[],by rw[e];simp⟩) (λm Y=>?_) (λb u e=>?_) I.bare
 ·have e:b=it:=by simpa using hb
  subst e;exact⟨h1,hL,h2,h3⟩
 ·obtain⟨o,es,ep,Z,r⟩:=Y;exact⟨o,es,ep,k _ o (Px hL) Z,r⟩
 ·refine(I.hok b u e).stay (λc v O q=>k c v ?_ q) (λ_ q=>q) λ_ _ q=>q;rcases O with z|z
  ·rw[z];exact U b u e
  ·exact U c _ z
def Inv.tok (I:Inv X pins σ H s)(t:Nat):Inv X pins σ H { s with toks:=t }:=I.un (h':=s.heap) (t':=t) Un.refl I.hok
def Inv.kept (I:Inv X pins σ H s)(k:∀b u,s.heap.get? b=some u->h'.get? b=some u):Inv X pins σ H { s with heap:=h',toks:=t' }:=I.un (Un.kept k) (I.hok.kept k)
def Inv.laid (I:Inv X pins σ H s)(k:∀b u,s.heap.get? b=some u->h'.get? b=some u)(hp:s.heap.objs.size<=a)(new:ObjOk X.prog X.w (upd H a o) h' a o) :
  Inv X pins σ (upd H a o) { s with heap:=h',toks:=t' }:=I.un (Un.laid k hp (I.hok.fresh hp)) (I.hok.laid k hp new)
def Inv.write (I:Inv X pins σ H s)(mu:Mut (H x))(he:e=x\/H e=some (.own x))(k:∀b u,b≠e->s.heap.get? b=some u->h'.get? b=some u)(heo:∃u,h'.get? e=some u)(new:ObjOk X.prog X.w (upd H x o) h' x o):Inv X pins σ (upd H x o) { s with heap:=h',toks:=t' }:=I.un (Un.write mu he k heo) (I.hok.write mu he k heo new)
def Inv.pins_of (I:Inv X pins σ H s)(h:∀p∈pins',s.heap.get? p.1=some p.2/\H p.1=none/\p.1≠X.env.locals/\p.1 ∉ X.fs/\∀v,p.2.data≠.cell v):Inv X pins' σ H s :=
 ⟨I.ok,I.os,I.bare,I.base,I.loc,I.cell,I.free,I.freeC,λp hp=>(Q5.mp hp).elim (λz=>I.pin p (List.mem_append_left _ z)) (h p),I.hok,I.len⟩
def Zh7 {N:List Str}(hN:N.Nodup){i j:Nat}{x:Str}(a:N[i]?=some x)(b:N[j]?=some x):i=j:=by
 obtain⟨h1,I⟩:=Pt.mp a;obtain⟨h2,O⟩:=Pt.mp b;exact(List.getElem_inj hN).mp (I.trans O.symm)
def Zjw (I:Inv X pins σ H s)(hN:X.N.Nodup)(hi:X.N[i]?=some x)(hx:D4 X.env.scope x)(r:RelV v u)(h:∀s',Inv X pins (σ.set i (some v)) H s'->(∃a,P5 a s.heap s'.heap/\(a=X.env.locals\/X.env.cells.lookup x=some a))->Q () s')(hf:autoParam (X.fn x=true\/X.env.scope.names.lookup x=some .local) zQ):wpAny M A (storeName X.env x u) Q E s:=by
 obtain⟨m,hn,hl⟩:=id I.loc;have ae:(X.env.scope.kind == .class || (X.env.scope.kind == .module && X.env.locals != X.env.globals))=false:=by rw[I.ok.kind];rfl
 have ac:i<σ.length:=by rw[I.len];exact(Pt.mp hi).1
 have cne:=I.cne;have U:∀{a:Addr}{h':Heap},(∃o,s.heap.get? a=some o/\H a=none)->P5 a s.heap h'->HOk X.prog X.w H h':=λ{a h'} ha O b ob e=>by
  obtain⟨_,_,aa⟩:=ha;refine(I.hok b ob e).stay (λc w' Z q=>(O.2 c ?_).trans q) (λ_ q=>q) λ_ _ q=>q;rintro rfl;rcases Z with rfl|Z
  ·rw[aa]at e;cases e
  ·rw[aa]at Z;cases Z
 rcases hx with hk|hk
 ·refine wpAny_storeName_local hk hn (λh' ak O=>?_) ae;obtain⟨oL,_,_,aj,_⟩:=id hn;refine h _ ⟨I.ok,I.os,I.bare,⟨λb o e n hb hx=>?_,λb o e n hb hx=>?_,I.base.free,λb o e hx=>?_,I.base.tups,I.base.frzs,I.base.tbls⟩,⟨_,ak,λj y v' Y e2 e3=>?_⟩,λy c e=>?_,I.free,I.freeC,λp hp=>?_,U ⟨oL,aj,I.free⟩ O,by simpa using I.len⟩ ⟨_,O,.inl rfl⟩
  ·exact(O.2 b (P3 (Qb (Pr e) I.ok.above))).trans (I.base.keep b o e n hb hx)
  ·obtain⟨sl,Y⟩:=I.base.slot b o e n hb hx;exact⟨sl,(O.2 b (P3 (Qb (Pr e) I.ok.above))).trans Y⟩
  ·obtain⟨o',Y⟩:=I.base.there b o e hx;exact⟨o',(O.2 b (P3 (Qb (Pr e) I.ok.above))).trans Y⟩
  ·by_cases hj:j=i
   ·subst hj;rw[hi]at Y;cases Y;rw[Sa ac]at e2;cases e2;exact⟨u,r,.inl ⟨hk,by simp⟩⟩
   ·rw[Ss (Px hj)]at e2;obtain⟨u',r',q⟩:=hl j y v' Y e2 e3;refine⟨u',r',?_⟩;rcases q with⟨k,e⟩|⟨k,c,e,z⟩
    ·refine .inl ⟨k,?_⟩;have:y≠x:=λe=>hj (Zh7 hN Y (e ▸ hi));simp[this,e]
    ·exact .inr ⟨k,c,e,z.sameBut O (cne y c e)⟩
  ·obtain⟨w',z⟩:=I.cell y c e;exact⟨w',z.sameBut O (cne y c e)⟩
  ·obtain⟨e,n,ne,nf,d⟩:=I.pin p hp;exact⟨(O.2 p.1 ne).trans e,n,ne,nf,d⟩
 ·have ad:X.fn x=true:=by
   rcases hf with z|z
   ·exact z
   ·rw[z]at hk;cases hk
  obtain⟨c,Z⟩:=I.ok.has x (.inl hk);obtain⟨w',z⟩:=I.cell x c Z;refine wpAny_storeName_cell I.ok.kind hk Z z (λh' af O=>?_);obtain⟨oc,ah,ag⟩:=id z;refine h { s with heap:=h' } ⟨I.ok,I.os,I.bare,⟨λb o e n hb hx=>?_,λb o e n hb hx=>?_,I.base.free,λb o e hx=>?_,I.base.tups,I.base.frzs,I.base.tbls⟩,⟨m,hn.sameBut O (Px (cne x c Z)),λj y v' Y e2 e3=>?_⟩,λy c' e=>?_,I.free,I.freeC,λp hp=>?_,U ⟨oc,ah,I.freeC x c Z⟩ O,by simpa using I.len⟩ ⟨c,O,.inr Z⟩
  ·exact(O.2 b (P3 (Qb (Pr e) (I.ok.cab x c ad Z)))).trans (I.base.keep b o e n hb hx)
  ·obtain⟨sl,Y⟩:=I.base.slot b o e n hb hx;exact⟨sl,(O.2 b (P3 (Qb (Pr e) (I.ok.cab x c ad Z)))).trans Y⟩
  ·obtain⟨o',Y⟩:=I.base.there b o e hx;exact⟨o',(O.2 b (P3 (Qb (Pr e) (I.ok.cab x c ad Z)))).trans Y⟩
  ·by_cases hj:j=i
   ·subst hj;rw[hi]at Y;cases Y;rw[Sa ac]at e2;cases e2;exact⟨u,r,.inr ⟨.inl hk,c,Z,af⟩⟩
   ·rw[Ss (Px hj)]at e2;obtain⟨u',r',q⟩:=hl j y v' Y e2 e3;refine⟨u',r',?_⟩;rcases q with q|⟨k,c',e,z'⟩
    ·exact .inl q
    ·refine .inr ⟨k,c',e,z'.sameBut O ?_⟩;rintro rfl;exact hj (Zh7 hN Y (I.ok.inj _ _ _ e Z ▸ hi))
  ·by_cases ai:c'=c
   ·subst ai;exact⟨_,af⟩
   ·obtain⟨w2,z2⟩:=I.cell y c' e;exact⟨w2,z2.sameBut O ai⟩
  ·obtain⟨e,n,ne,nf,d⟩:=I.pin p hp;refine⟨(O.2 p.1 ?_).trans e,n,ne,nf,d⟩;intro q;rw[q,ah]at e;have q':oc=p.2:=Qh e;exact d w' (by rw[<- q'];exact ag)
def Zck (I:Inv X pins σ H s)(hN:X.N.Nodup)(hi:X.N[i]?=some x)(hx:D4 X.env.scope x)(r:RelV v u)(h:∀s',Inv X pins (σ.set i (some v)) H s'->Q () s')(hf:autoParam (X.fn x=true\/X.env.scope.names.lookup x=some .local) zQ):wpAny M A (storeName X.env x u) Q E s :=
 Zjw I hN hi hx r (λs' O _=>h s' O) hf
def Inv.call' (I:Inv X pins σ H s)(ho:s'.os=s.os)(u:Un (B8 X.stack) ch H H' s.heap s'.heap)(hok:HOk X.prog X.w H' s'.heap)(hg:AllBare s'.gens)(hch:∀b∈ch,(b∈X.ex\/X.s₀.heap.objs.size<=b)/\b≠X.env.locals/\(∀x c,X.env.cells.lookup x=some c->c≠b)/\∀p∈X.pn++pins,p.1≠b):Inv X pins σ H' s':=by
 obtain⟨h',O,U,t',o'⟩:=s';have e:o'=s.os:=ho;subst e;exact I.call (g':=O) (t':=t') (d':=U) u hok hg hch
end
noncomputable abbrev XK:=Value->Option Addr->Hp->Prop
noncomputable abbrev St:=List (Option V)
noncomputable section
abbrev VK:=V->Hp->Prop
abbrev TE:=St->Hp->VK->Prop
abbrev TT:=St->Hp->(Bool->Hp->Prop)->Prop
abbrev TA:=St->Hp->(List V->Hp->Prop)->Prop
end
structure Ends where
 nx:St->Hp->Prop
 rt:VK
 bk:St->Hp->Prop:=λ_ _=>False
 ct:St->Hp->Prop:=λ_ _=>False
noncomputable abbrev TS:=Ends->St->Hp->Prop
def EP (X:Cx)(pins:List (Addr×Obj))(σ:St)(Q:VK)(u:Value)(s':Shared):Prop:=eX2 λv H'=>Inv X pins σ H' s'/\RelV v u/\Q v H'
def TP (X:Cx)(pins:List (Addr×Obj))(σ:St)(Q:Bool->Hp->Prop)(b:Bool)(s':Shared):Prop:=∃H',Inv X pins σ H' s'/\Q b H'
def AP (X:Cx)(pins:List (Addr×Obj))(σ:St)(Q:List V->Hp->Prop)(us:List Value)(s':Shared):Prop:=eX2 λvs H'=>Inv X pins σ H' s'/\Vals vs us/\Q vs H'
def SP (X:Cx)(pins:List (Addr×Obj))(D:Ends)(f:Flow)(s':Shared):Prop :=
 match f with
 |.next=>eX2 λσ' H'=>Inv X pins σ' H' s'/\D.nx σ' H'
 |.brk=>eX2 λσ' H'=>Inv X pins σ' H' s'/\D.bk σ' H'
 |.cont=>eX2 λσ' H'=>Inv X pins σ' H' s'/\D.ct σ' H'
 |.ret u=>eX3 λv σ' H'=>Inv X pins σ' H' s'/\RelV v u/\D.rt v H'
def PE (X:Cx)(e:Expr)(t:TE):Prop :=
 ∀(pins:List (Addr×Obj))(s:Shared)(σ:St)(H:Hp)(Q:VK),Inv X pins σ H s->t σ H Q->wpAny (model X.prog X.w) X.A (eval e X.env) (EP X pins σ Q) X.xe s
def PT (X:Cx)(e:Expr)(t:TT):Prop :=
 ∀(pins:List (Addr×Obj))(s:Shared)(σ:St)(H:Hp)(Q:Bool->Hp->Prop),Inv X pins σ H s->t σ H Q->wpAny (model X.prog X.w) X.A (isTrue e X.env (eval e X.env)) (TP X pins σ Q) X.xe s
def PW (X:Cx)(e:Expr)(t:TT):Prop :=
 ∀(whole:Sem Value)(pins:List (Addr×Obj))(s:Shared)(σ:St)(H:Hp)(Q:Bool->Hp->Prop),Inv X pins σ H s->t σ H Q->wpAny (model X.prog X.w) X.A (isTrue e X.env whole) (TP X pins σ Q) X.xe s
def PW.pt (h:PW X e t):PT X e t:=h _
def PA (X:Cx)(es:List Expr)(t:TA):Prop :=
 ∀(pos:Pos)(pins:List (Addr×Obj))(s:Shared)(σ:St)(H:Hp)(Q:List V->Hp->Prop),Inv X pins σ H s->t σ H Q->wpAny (model X.prog X.w) X.A (spliced (backTo pos (starEach es X.env))) (AP X pins σ Q) X.xe s
def PS (X:Cx)(st:Stmt)(t:TS):Prop :=
 ∀(pins:List (Addr×Obj))(s:Shared)(σ:St)(H:Hp)(D:Ends),Inv X pins σ H s->t D σ H->wpAny (model X.prog X.w) X.A (exec st X.env) (SP X pins D) X.xe s
def PSs (X:Cx)(st:List Stmt)(t:TS):Prop :=
 ∀(pins:List (Addr×Obj))(s:Shared)(σ:St)(H:Hp)(D:Ends),Inv X pins σ H s->t D σ H->wpAny (model X.prog X.w) X.A (execs st X.env) (SP X pins D) X.xe s
def Au {α:Type}{t:Sem α}{Q Q':α->Shared->Prop}{M:Model}{A:Around}{E:Value->Shared->Prop}{s:Shared}(h:wpAny M A t Q E s)(hQ:∀a s,Q a s->Q' a s):wpAny M A t Q' E s:=Rt h hQ λ_ _ x=>x
section
variable {X:Cx}
def Hl (i:Nat):TE:=λσ H Q=>∃v,σ[i]?=some (some v)/\Q v H
def tC (v:V):TE:=λ_ H Q=>Q v H
def Zgj {i j pos}:PE X (.Constant (.int i) j pos) (tC (.int i)):=λ_ _ _ H _ I h=>wpAny_Constant_int ⟨.int i,H,I.tok _,⟨_,rfl⟩,h⟩
def Zim {b j pos}:PE X (.Constant (.bool b) j pos) (tC (.bl b)):=λ_ _ _ H _ I h=>Constant_bool ⟨.bl b,H,I,rfl,h⟩
def Zgg {j pos}:PE X (.Constant .none j pos) (tC .non):=λ_ _ _ H _ I h=>Constant_none ⟨.non,H,I,rfl,h⟩
def Zh2 {x j pos}:PE X (.Constant (.str x) j pos) (tC (.str x)):=λ_ _ _ H _ I h=>Calls.Constant_str ⟨.str x,H,I.tok _,⟨_,rfl⟩,h⟩
def Gl (X:Cx)(x:Str):Prop:=X.env.kindOf x=some .globalImplicit
def Nb (I:Inv X pins σ H s)(hg:Gl X x)(hm:X.mg x=some u)(h:Q u s)(hd:autoParam ((x == ("__debug__":Str))=false) zW):wpAny (model X.prog X.w) X.A (eval (.Name x pos) X.env) Q E s :=
 Calls.Name_function_global I.ok.kind hg (Calls.loadGlobal_global (by rw[I.ok.glob];exact I.mod.glob.keeps I.bk) hm h) hd
def Gy (I:Inv X pins σ H s)(hg:Gl X x)(hm:X.mg x=none)(hv:bootBuiltins x=some u)(h:Q u s)(hn:autoParam (x≠"__name__") zW)(hd:autoParam ((x == ("__debug__":Str))=false) zW):wpAny (model X.prog X.w) X.A (eval (.Name x pos) X.env) Q E s:=by
 obtain⟨O,h1,h2⟩:=I.mod.blt;exact Calls.Name_function_global I.ok.kind hg (Calls.loadGlobal_builtin (by rw[I.ok.glob];exact I.mod.glob.keeps I.bk) hm (by rw[I.ok.blt];exact h1.keeps I.bk) ((h2 x hn).trans hv) h) hd
def Zs1 (hg:Gl X x)(hm:X.mg x=some u)(r:RelV v u)(hd:autoParam ((x == ("__debug__":Str))=false) zW):PE X (.Name x pos) (tC v) :=
 λ_ _ _ H _ I h=>Nb I hg hm ⟨v,H,I,r,h⟩ hd
variable {a b:Expr}{ta tb:TE}{pos:Pos}
def PC (X:Cx)(op:CmpOp)(a b:Expr)(t:TE):Prop :=
 ∀(pins:List (Addr×Obj))(s:Shared)(σ:St)(H:Hp)(Q:VK),Inv X pins σ H s->t σ H Q ->
  wpAny (model X.prog X.w) X.A (eval a X.env) (λv O=>wpAny (model X.prog X.w) X.A (eval b X.env) (λu I=>wpAny (model X.prog X.w) X.A (compareOp op v u) (EP X pins σ Q) X.xe I) X.xe O) X.xe s
def Za2 (b:Expr)(h:op≠.In)(h2:op≠.NotIn):behindInMarks op b=false:=by
 have I:(op == CmpOp.In)=false:=by cases op <;> first|rfl|exact absurd rfl h
 have O:(op == CmpOp.NotIn)=false:=by cases op <;> first|rfl|exact absurd rfl h2
 cases b <;> simp[behindInMarks,I,O]
def Zb0 (ta:TE):TE:=λσ H Q=>ta σ H λx H1=>Q (.bl (decide (x=.non))) H1
def Zeb (ta:TE):TE:=λσ H Q=>ta σ H λx H1=>Q (.bl (!decide (x=.non))) H1
def RelV.none_iff (r:RelV x v):(v == Value.none)=decide (x=.non):=by
 cases x with
 |non=>cases r;rfl
 |bl _=>cases r;rfl
 |int _=>obtain⟨t,rfl⟩:=r;rfl
 |str _=>obtain⟨t,rfl⟩:=r;rfl
 |byt _=>obtain⟨t,rfl⟩:=r;rfl
 |flt _=>obtain⟨t,rfl⟩:=r;rfl
 |ref _=>cases r;rfl
 |ty _=>cases r;rfl
def tB (t:TE):TT:=λσ H Q=>t σ H λx H1=>∃c,x=.bl c/\Q c H1
variable {tA tB':TT}{rest:List Expr}
def Zco (t u:TT):TT:=λσ H Q=>t σ H λc H1=>if c=true then u σ H1 Q else Q false H1
def tOr (t u:TT):TT:=λσ H Q=>t σ H λc H1=>if c=true then Q true H1 else u σ H1 Q
def Zdq (t:TT):TT:=λσ H Q=>t σ H λc H1=>Q (!c) H1
def Zcn (ta tb:TE):TE:=λσ H Q=>ta σ H λx H1=>∃c,x=.bl c/\if c=true then tb σ H1 Q else Q (.bl false) H1
def Zdj (ta tb:TE):TE:=λσ H Q=>ta σ H λx H1=>∃c,x=.bl c/\if c=true then Q (.bl true) H1 else tb σ H1 Q
def Zed (ta:TE):TE:=λσ H Q=>ta σ H λx H1=>∃c,x=.bl c/\Q (.bl (!c)) H1
def Mr (t:TT)(ta tb:TE):TE:=λσ H Q=>t σ H λc H1=>if c=true then ta σ H1 Q else tb σ H1 Q
end
def SqL (K:Pi)(H:Hp)(a:Addr)(xs:List V):Prop :=
 Rd H a (.lst xs) \/
  eX3 λ(o:Obj)(its:Array Value)(n:Nat)=>K.lookup a=some o/\o.cls=.type "list"/\o.dict=none/\o.data=.seq its n/\its.size<=sizeLine/\Vals xs its.toList
def SqT (K:Pi)(H:Hp)(a:Addr)(xs:List V):Prop :=
 Rd H a (.tup xs) \/
  eX3 λ(o:Obj)(its:Array Value)(n:Nat)=>K.lookup a=some o/\o.cls=.type "tuple"/\o.data=.seq its n/\its.size<=sizeLine/\Vals xs its.toList
noncomputable def O2:Value->Option V
 |.none=>some .non
 |.bool b=>some (.bl b)
 |.int i _=>some (.int i)
 |.str x _=>some (.str x)
 |.bytes b _=>some (.byt b)
 |.float b _=>some (.flt b)
 |.ref a=>some (.ref a)
 |.type n=>some (.ty n)
 |_=>none
def RelV.abs (r:RelV x u):O2 u=some x:=by
 cases x with
 |non=>cases r;rfl
 |bl _=>cases r;rfl
 |int _=>obtain⟨t,rfl⟩:=r;rfl
 |str _=>obtain⟨t,rfl⟩:=r;rfl
 |byt _=>obtain⟨t,rfl⟩:=r;rfl
 |flt _=>obtain⟨t,rfl⟩:=r;rfl
 |ref _=>cases r;rfl
 |ty _=>cases r;rfl
def RelV.inj (r:RelV x u)(q:RelV y u):x=y:=Qh (r.abs.symm.trans q.abs)
theorem Vals.inj:∀{xs ys:List V}{us:List Value},Vals xs us->Vals ys us->xs=ys
 |_,_,_,.nil,.nil=>rfl
 |_,_,_,.cons r t,.cons I t'=>by rw[r.inj I,Vals.inj t t']
section
variable {X:Cx}{pins:List (Addr×Obj)}{σ:St}{H:Hp}{s:Shared}{a:Addr}{xs ys:List V}
def SqL.of {K:Pi}(h:H a=some (.lst xs)):SqL K H a xs:=.inl (.inl h)
def SqT.of {K:Pi}(h:H a=some (.tup xs)):SqT K H a xs:=.inl (.inl h)
def Inv.list (I:Inv X pins σ H s)(h:SqL X.K H a xs):∃its:List Value,Vals xs its/\PlainL s.heap a its.toArray/\xs.length<=sizeLine:=by
 rcases h with h|⟨o,its,n,Y,U,hd,O,hz,r⟩
 ·obtain⟨z,its,n,r,e⟩:=h.ok I.hok;exact⟨its,r,⟨_,n,e,rfl,rfl,rfl⟩,z⟩
 ·refine⟨its.toList,r,⟨o,n,I.kIn a o Y,U,hd,by simpa using O⟩,?_⟩;have e:=r.length;simp only[Vi]at e;lia
def Inv.tuple (I:Inv X pins σ H s)(h:SqT X.K H a xs):∃its:List Value,Vals xs its/\IsTup s.heap a its.toArray/\xs.length<=sizeLine:=by
 rcases h with h|⟨o,its,n,Y,U,O,hz,r⟩
 ·obtain⟨z,its,r,p⟩:=h.ok I.hok;exact⟨its,r,p,z⟩
 ·refine⟨its.toList,r,⟨o,I.kIn a o Y,U,n,by simpa using O⟩,?_⟩;have e:=r.length;simp only[Vi]at e;lia
def Inv.list_inj (I:Inv X pins σ H s)(h:SqL X.K H a xs)(h':SqL X.K H a ys):xs=ys:=by
 obtain⟨U,r,⟨o,n,e,_,_,d⟩,_⟩:=I.list h;obtain⟨O,r',⟨o',n',Y,_,_,Z⟩,_⟩:=I.list h';rw[e]at Y;cases Y;rw[d]at Z;injection Z with d1 _;have:U=O:=by simpa using congrArg Array.toList d1
 subst this;exact r.inj r'
def Inv.tuple_inj (I:Inv X pins σ H s)(h:SqT X.K H a xs)(h':SqT X.K H a ys):xs=ys:=by
 obtain⟨U,r,⟨o,e,_,n,d⟩,_⟩:=I.tuple h;obtain⟨O,r',⟨o',Y,_,n',Z⟩,_⟩:=I.tuple h';rw[e]at Y;cases Y;rw[d]at Z;injection Z with d1 _;have:U=O:=by simpa using congrArg Array.toList d1
 subst this;exact r.inj r'
end
noncomputable abbrev Cx.wish (X:Cx)(E:Value->Shared->Prop):Cx:={ X with xe:=E }
noncomputable abbrev Cx.nox (X:Cx):Cx:=X.wish λ_ _=>False
def Cx.Ok.wish {X:Cx}(ok:X.Ok)(E:Value->Shared->Prop):(X.wish E).Ok :=
 ⟨ok.mod,ok.kind,ok.glob,ok.blt,ok.above,ok.inj,ok.has,ok.cab,ok.hd,ok.frames,ok.stk,ok.exf,ok.bs,ok.bsz,ok.noex,ok.exfs,ok.funs,ok.frf⟩
def Cx.Ok.unwish {X:Cx}{E:Value->Shared->Prop}(ok:(X.wish E).Ok):X.Ok :=
 ⟨ok.mod,ok.kind,ok.glob,ok.blt,ok.above,ok.inj,ok.has,ok.cab,ok.hd,ok.frames,ok.stk,ok.exf,ok.bs,ok.bsz,ok.noex,ok.exfs,ok.funs,ok.frf⟩
section
variable {X:Cx}{pins:List (Addr×Obj)}{σ:St}{H:Hp}{s:Shared}{E:Value->Shared->Prop}
def Inv.wish (I:Inv X pins σ H s)(E:Value->Shared->Prop):Inv (X.wish E) pins σ H s:=⟨I.ok.wish E,I.os,I.bare,I.base,I.loc,I.cell,I.free,I.freeC,I.pin,I.hok,I.len⟩
def Inv.unwish (I:Inv (X.wish E) pins σ H s):Inv X pins σ H s:=⟨I.ok.unwish,I.os,I.bare,I.base,I.loc,I.cell,I.free,I.freeC,I.pin,I.hok,I.len⟩
def SP.unwish (h:SP (X.wish E) pins D f s'):SP X pins D f s':=by
 cases f with
 |next=>obtain⟨O,H',I,q⟩:=h;exact⟨O,H',I.unwish,q⟩
 |brk=>obtain⟨O,H',I,q⟩:=h;exact⟨O,H',I.unwish,q⟩
 |cont=>obtain⟨O,H',I,q⟩:=h;exact⟨O,H',I.unwish,q⟩
 |ret u=>obtain⟨v,O,H',I,r,q⟩:=h;exact⟨v,O,H',I.unwish,r,q⟩
def PSs.nox {st:List Stmt}{t:TS}(h:PSs X.nox st t):PSs X st t:=λpins s σ H D I O =>
 Rt (h pins s σ H D (I.wish _) O) (λ_ _ q=>q.unwish) λ_ _ z=>Qp z
end
section
variable {X:Cx}{st:Stmt}{rest:List Stmt}{t u:TS}{e:Expr}{te:TE}{pos:Pos}
def Zbt:TS:=λD σ H=>D.nx σ H
def Zcs (t u:TS):TS:=λD σ H=>t { D with nx:=u D } σ H
def Inv.quiet (I:Inv X pins σ H s):interactive X.env=false:=by simp[interactive,I.ok.kind]
def Zc2 (te:TE):TS:=λD σ H=>te σ H λ_ H1=>D.nx σ H1
def Zbk (te:TE):TS:=λD σ H=>te σ H D.rt
def Cm (c:TT)(t u:TS):TS:=λD σ H=>c σ H λb H1=>if b=true then t D σ H1 else u D σ H1
end
noncomputable abbrev TG:=V->St->Hp->(St->Hp->Prop)->Prop
noncomputable abbrev Fj:=List V->St->Hp->(St->Hp->Prop)->Prop
def PG (X:Cx)(target:Expr)(t:TG):Prop :=
 ∀(pins:List (Addr×Obj))(s:Shared)(σ:St)(H:Hp)(v:V)(u:Value)(Q:St->Hp->Prop),Inv X pins σ H s->RelV v u->t v σ H Q ->
  wpAny (model X.prog X.w) X.A (assign target X.env u) (λ_ s'=>eX2 λσ' H'=>Inv X pins σ' H' s'/\Q σ' H') X.xe s
def PGs (X:Cx)(ts:List Expr)(t:Fj):Prop :=
 ∀(pins:List (Addr×Obj))(s:Shared)(σ:St)(H:Hp)(vs:List V)(us:List Value)(Q:St->Hp->Prop),Inv X pins σ H s->Vals vs us->t vs σ H Q ->
  wpAny (model X.prog X.w) X.A (assignInOrder ((assignEach ts X.env).map (·.2)) us) (λ_ s'=>eX2 λσ' H'=>Inv X pins σ' H' s'/\Q σ' H') X.xe s
noncomputable abbrev Oj:=V->V->V->Hp->(Hp->Prop)->Prop
def Zek (X:Cx)(t:Oj):Prop :=
 ∀(pins:List (Addr×Obj))(s:Shared)(σ:St)(H:Hp)(o i v:V)(ov iv u:Value)(Q:Hp->Prop),Inv X pins σ H s->RelV o ov->RelV i iv->RelV v u->t o i v H Q ->
  wpAny (model X.prog X.w) X.A (setItem ov iv u) (λ_ s'=>∃H',Inv X pins σ H' s'/\Q H') X.xe s
section
variable {X:Cx}{pos:Pos}
def Ev (i:Nat):TG:=λv σ H Q=>Q (σ.set i (some v)) H
def Oi:Fj:=λvs σ H Q=>vs=[]/\Q σ H
def Ht (t:TG)(u:Fj):Fj:=λvs σ H Q=>eX2 λv r=>vs=v::r/\t v σ H λI H'=>u r I H' Q
def Mo (K:Pi)(n:Nat)(t:Fj):TG:=λv σ H Q=>eX2 λa xs=>v=.ref a/\SqT K H a xs/\xs.length=n/\t xs σ H Q
def Zb2 (to ti:TE)(t:Oj):TG:=λv σ H Q=>to σ H λo H1=>ti σ H1 λi H2=>t o i v H2 λI=>Q σ I
def Io (te:TE)(g:TG):TS:=λD σ H=>te σ H λx H1=>g x σ H1 D.nx
end
section
variable {X:Cx}{pos:Pos}
def Zi4 (c:TT)(tb:TS):TS:=λD σ H=>∃W:Nat->St->Hp->Prop,(∃m,W m σ H)/\∀m σ H,W m σ H ->
 c σ H λb H1=>if b=true then ∃N:St->Hp->Prop,(∀σ' H',N σ' H'->∃m',m'<m/\W m' σ' H')/\tb { D with nx:=N,ct:=N,bk:=D.nx } σ H1 else D.nx σ H1
end
structure It where
 go:Nat->Hp->Prop
 yld:Nat->Hp->V->Hp->Prop
 stop:Nat->Hp->Prop
def FpOk (X:Cx)(pins:List (Addr×Obj))(H:Hp)(b:Addr):Prop :=
 H b=none/\b≠X.env.locals/\b ∉ X.fs/\(b∈X.ex\/X.s₀.heap.objs.size<=b)/\(∀x c,X.env.cells.lookup x=some c->c≠b)/\∀p∈X.pn++pins,p.1≠b
def Inv.fpOk (I:Inv X pins σ H s)(hb:s.heap.objs.size<=b)(hn:H' b=none):FpOk X pins H' b:=by
 refine⟨hn,Q3 (Qb I.lt hb),I.nofs hb,.inr (P9 I.sz hb),λx c e z=>?_,λp hp z=>?_⟩
 ·obtain⟨v,q⟩:=I.cell x c e;exact absurd (Qb q.lt (by rw[z];exact hb)) (Q7 _)
 ·exact absurd (Qb (Pr (I.pin p hp).1) (by rw[z];exact hb)) (Q7 _)
structure Jr (P:Program)(w:World)(K:Pi)(tg:Expr)(J:It)(fp:List Addr)(it:Addr)(tn:Nat->Heap->Prop):Prop where
 mem:it∈fp
 obj:∀i h,tn i h->∀b∈fp,∃o,h.get? b=some o/\∀v,o.data≠.cell v
 keep:∀i h h',tn i h->(∀b∈fp,∀o,h.get? b=some o->h'.get? b=some o)->tn i h'
 item:∀(X:Cx),X.prog=P->X.w=w->X.K=K->X.calm=true->∀(i:Nat)(pins:List (Addr×Obj))(s:Shared)(σ:St)(H:Hp)(E:Value->Shared->Prop),Inv X pins σ H s->(∀b∈fp,FpOk X pins H b)->tn i s.heap->J.go i H ->
  wpAny (model P w) X.A (pyNext (.ref it)) (λr s1=>∃u,r=some u /\
   wpAny (model P w) X.A (letOwnedTupleGo tg (.ref it) u) (λ_ s2=>eX2 λx H'=>Inv X pins σ H' s2/\RelV x u/\J.yld i H x H'/\tn (i+1) s2.heap/\∀b∈fp,H' b=none) E s1) E s
 done:∀(X:Cx),X.prog=P->X.w=w->X.K=K->X.calm=true->∀(i:Nat)(pins:List (Addr×Obj))(s:Shared)(σ:St)(H:Hp)(E:Value->Shared->Prop),Inv X pins σ H s->(∀b∈fp,FpOk X pins H b)->tn i s.heap->J.stop i H ->
  wpAny (model P w) X.A (pyNext (.ref it)) (λr s1=>r=none/\Inv X pins σ H s1) E s
 self:∀(A:Around)(i:Nat)(s:Shared)(Q:Value->Shared->Prop)(E:Value->Shared->Prop),tn i s.heap->Q (.ref it) s->wpAny (model P w) A (pyIter (.ref it)) Q E s
noncomputable abbrev TI:=St->Hp->(It->Hp->Prop)->Prop
def PIE (X:Cx)(pins:List (Addr×Obj))(σ:St)(tg:Expr)(R:It->Hp->Prop)(itv:Value)(s2:Shared):Prop :=
 eX5 λ(it:Addr)(fp:List Addr)(tn:Nat->Heap->Prop)(J:It)(H':Hp)=>itv=.ref it/\Inv X pins σ H' s2/\Jr X.prog X.w X.K tg J fp it tn/\tn 0 s2.heap/\(∀b∈fp,FpOk X pins H' b)/\R J H'
def PI (X:Cx)(tg iter:Expr)(wi:TI):Prop :=
 ∀(pins:List (Addr×Obj))(s:Shared)(σ:St)(H:Hp)(R:It->Hp->Prop),Inv X pins σ H s->wi σ H R ->
  wpAny (model X.prog X.w) X.A (eval iter X.env) (λv I=>wpAny (model X.prog X.w) X.A (pyIter v) (PIE X pins σ tg R) X.xe I) X.xe s
def N3 (ho:s.heap.get? it=some o)(hc:o.cls=.type n)(hd:o.data=.fields vs)(hn:["enumerate","zip","dict_itemiterator","dict_reverseitemiterator","odict_iterator","itertools.zip_longest","itertools.pairwise"].contains n=false)(hQ:Q () s):wpAny M A (letOwnedTupleGo tg (.ref it) u) Q E s:=by
 unfold letOwnedTupleGo;cases tg <;> first
  |exact Pl hQ
  | (cases u <;> first
    |exact Pl hQ
    | (refine Pj (wpAny_load ho ?_)
       rw[hc,hd];show wpAny M A (if (["enumerate","zip","dict_itemiterator","dict_reverseitemiterator","odict_iterator","itertools.zip_longest","itertools.pairwise"].contains n && vs[0]? == some (rawInt _))=true then _ else _) Q E s;rw[if_neg (by intro h;rw[hn,Bool.false_and]at h;cases h)];exact Pl hQ))
noncomputable def Jv (K:Pi)(a:Addr):It :=
 ⟨λi H=>eX2 λxs x=>SqL K H a xs/\xs[i]?=some x,λi H x H'=>H'=H/\∀xs,SqL K H a xs->xs[i]?=some x,λi H=>∃xs,SqL K H a xs/\xs.length<=i⟩
noncomputable def J2 (K:Pi)(a:Addr):It :=
 ⟨λi H=>eX2 λxs x=>SqT K H a xs/\xs[i]?=some x,λi H x H'=>H'=H/\∀xs,SqT K H a xs->xs[i]?=some x,λi H=>∃xs,SqT K H a xs/\xs.length<=i⟩
noncomputable def Kb (lo:Int)(n:Nat):It:=⟨λi _=>i<n,λi H x H'=>H'=H/\x=.int (lo+i),λi _=>n<=i⟩
def Znd {P:Program}{w:World}{K:Pi}{tg:Expr}(a it:Addr):Jr P w K tg (Jv K a) [it] it (λi h=>h.IsListIter it a i) where
 mem:=by simp
 obj:=λi h st b hb=>by
  have e:b=it:=by simpa using hb
  subst e;obtain⟨o,e,c,d⟩:=st;exact⟨o,e,λv z=>by rw[d]at z;cases z⟩
 keep:=λi h h' st k=>st.at λo e=>k it (by simp) o e
 item:=by
  intro X hP hw Z hc i pins s σ H E I hf st hg;subst hP hw Z;obtain⟨xs,x,U,hx⟩:=hg;obtain⟨aa,rv,p,hz⟩:=I.list U;obtain⟨u,hu,ru⟩:=rv.get hx;obtain⟨f0,f1,f2,f3,Y,f5⟩:=hf it (by simp);refine wpAny_pyNext_list_item st p.isList (x:=u) (by simpa using hu) λh' O sb=>?_;have I1:Inv X pins σ H { s with heap:=h' }:=I.turned (t':=s.toks) (λb o hb e=>(sb.2 b hb).trans e) f0 f1 f3 Y f5;obtain⟨o,e,c,d⟩:=id O;exact⟨u,rfl,N3 (s:={ s with heap:=h' }) e c d (by decide) ⟨x,H,I1,ru,⟨rfl,λys hy=>by rw[I.list_inj hy U];exact hx⟩,O,λb hb=>(hf b hb).1⟩⟩
 done:=by
  intro X hP hw Z hc i pins s σ H E I hf st hg;subst hP hw Z;obtain⟨xs,U,hx⟩:=hg;obtain⟨aa,rv,p,hz⟩:=I.list U;obtain⟨f0,f1,f2,f3,Y,f5⟩:=hf it (by simp);have hl:=rv.length;exact wpAny_pyNext_list_end (I.ok.hd hc) st p.isList (by simp;lia) λh' eb=>⟨rfl,I.turned (t':=s.toks) (λb o hb e=>eb b o hb e) f0 f1 f3 Y f5⟩
 self:=λ_ _ _ _ _ st h=>wpAny_pyIter_listiter st h
def Zmq {P:Program}{w:World}{K:Pi}{tg:Expr}(a it:Addr):Jr P w K tg (J2 K a) [it] it (λi h=>h.IsTupleIter it a i) where
 mem:=by simp
 obj:=λi h st b hb=>by
  have e:b=it:=by simpa using hb
  subst e;obtain⟨o,e,c,d⟩:=st;exact⟨o,e,λv z=>by rw[d]at z;cases z⟩
 keep:=λi h h' st k=>st.at λo e=>k it (by simp) o e
 item:=by
  intro X hP hw hK hc i pins s σ H E I hf st hg;subst hP hw hK;obtain⟨xs,x,Y,hx⟩:=hg;obtain⟨O,rv,p,hz⟩:=I.tuple Y;obtain⟨u,hu,ru⟩:=rv.get hx;obtain⟨f0,f1,f2,f3,Z,f5⟩:=hf it (by simp);refine wpAny_pyNext_tuple_item st (show s.heap.IsTuple a O.toArray from p) (x:=u) (by simpa using hu) λh' U sb=>?_;have I1:Inv X pins σ H { s with heap:=h' }:=I.turned (t':=s.toks) (λb o hb e=>(sb.2 b hb).trans e) f0 f1 f3 Z f5;obtain⟨o,e,c,d⟩:=id U;exact⟨u,rfl,N3 (s:={ s with heap:=h' }) e c d (by decide) ⟨x,H,I1,ru,⟨rfl,λys hy=>by rw[I.tuple_inj hy Y];exact hx⟩,U,λb hb=>(hf b hb).1⟩⟩
 done:=by
  intro X hP hw hK hc i pins s σ H E I hf st hg;subst hP hw hK;obtain⟨xs,Y,hx⟩:=hg;obtain⟨O,rv,p,hz⟩:=I.tuple Y;obtain⟨f0,f1,f2,f3,Z,f5⟩:=hf it (by simp);have hl:=rv.length;exact wpAny_pyNext_tuple_end (I.ok.hd hc) st (show s.heap.IsTuple a O.toArray from p) (by simp;lia) λh' eb=>⟨rfl,I.turned (t':=s.toks) (λb o hb e=>eb b o hb e) f0 f1 f3 Z f5⟩
 self:=λ_ _ _ _ _ st h=>wpAny_pyIter_tupleiter st h
def Zqy {P:Program}{w:World}{K:Pi}{tg:Expr}(it:Addr)(lo:Int)(n:Nat):Jr P w K tg (Kb lo n) [it] it (λi h=>IsRangeIter h it (lo+(i:Nat)*1) ((n:Int)-(i:Nat)) 1) where
 mem:=by simp
 obj:=λi h st b hb=>by
  have e:b=it:=by simpa using hb
  subst e;exact⟨_,st,λv z=>by
   have z':Data.fields _=Data.cell v:=z;cases z'⟩
 keep:=λi h h' st k=>k it (by simp) _ st
 item:=by
  intro X hP hw Z Y i pins s σ H E I hf st hg;subst hP hw Z;obtain⟨f0,f1,f2,f3,U,f5⟩:=hf it (by simp);have W:=Walks.range (prog:=X.prog) (w:=X.w) (I.ok.hd Y) it lo 1 n;refine W.item i s _ _ hg st λv h' tk hv O kk=>?_;obtain⟨t,rfl⟩:=hv;have I1:Inv X pins σ H { s with heap:=h',toks:=tk }:=I.turned (λb o hb e=>kk b o (by simpa using hb) e) f0 f1 f3 U f5;refine⟨_,rfl,N3 (s:={ s with heap:=h',toks:=tk }) (n:="range_iterator") O rfl rfl (by decide) ⟨.int (lo+i),H,I1,⟨t,?_⟩,⟨rfl,rfl⟩,O,λb hb=>(hf b hb).1⟩⟩;rw[Int.mul_one]
 done:=by
  intro X hP hw Z Y i pins s σ H E I hf st hg;subst hP hw Z;obtain⟨f0,f1,f2,f3,U,f5⟩:=hf it (by simp);exact wpAny_pyNext_range_end (I.ok.hd Y) st (by have:n<=i:=hg;lia) λh' eb=>⟨rfl,I.turned (t':=s.toks) (λb o hb e=>eb b o hb e) f0 f1 f3 U f5⟩
 self:=λ_ _ _ _ _ st h=>wpAny_pyIter_rangeiter st h
section
variable {X:Cx}{tg:Expr}
def Zm7 {pins:List (Addr×Obj)}{σ:St}{H:Hp}{s:Shared}{R:It->Hp->Prop}{E:Value->Shared->Prop}{lo hi:Int}{t u v:Tok}{tk:Nat}(I:Inv X pins σ H s)(h1:-(2 ^ 62)<=lo)(h2:lo<2 ^ 62)(h3:-(2 ^ 62)<=hi)(h4:hi<2 ^ 62)
  (q:R (Kb lo (hi-lo).toNat) H):wpAny (model X.prog X.w) X.A (pyIter (.ref s.heap.objs.size)) (PIE X pins σ tg R) E { s with heap:=s.heap.push { cls:=.type "range",data:=.fields #[.int lo t,.int hi u,.int 1 v] },toks:=tk }:=by
 refine wpAny_pyIter_range (IsRange.new ..) (small_one h1 h2 h3 h4) ?_;have O:Inv X pins σ H { s with heap:=s.heap.push { cls:=.type "range",data:=.fields #[.int lo t,.int hi u,.int 1 v] },toks:=tk }:=I.kept λb o e=>Pp _ e;refine⟨(s.heap.push { cls:=.type "range",data:=.fields #[.int lo t,.int hi u,.int 1 v] }).objs.size,[(s.heap.push { cls:=.type "range",data:=.fields #[.int lo t,.int hi u,.int 1 v] }).objs.size],_,_,H,rfl,
  O.kept (t':=tk) λb o e=>Pp _ e,Zqy _ lo (hi-lo).toNat,?_,λb hb=>?_,q⟩
 ·have U:lo+((0:Nat):Int)*1=lo:=by simp
  have Y:(((hi-lo).toNat:Nat):Int)-((0:Nat):Int)=Builtin.Range.rangeSize lo hi 1:=by rw[rangeSize_one];split <;> lia
  show IsRangeIter _ _ (lo+((0:Nat):Int)*1) ((((hi-lo).toNat:Nat):Int)-((0:Nat):Int)) 1;rw[U,Y];exact P4 _ rfl
 ·have e:b=(s.heap.push { cls:=.type "range",data:=.fields #[.int lo t,.int hi u,.int 1 v] }).objs.size:=by simpa using hb
  subst e;exact O.fpOk (Pm _) (O.hok.fresh (Pm _))
def Zd9 (ta:TA):TI:=λσ H R=>ta σ H λvs H1=>∃j:Int,vs=[.int j]/\-(2 ^ 62)<=j/\j<2 ^ 62/\R (Kb 0 j.toNat) H1
def Zet (wi:TI)(g:TG)(tb:TS):TS:=λD σ H=>wi σ H λJ H1=>∃W:Nat->Nat->St->Hp->Prop,(∃m,W 0 m σ H1)/\∀i m σ H,W i m σ H ->
 (J.stop i H/\D.nx σ H)\/(J.go i H/\∃N:St->Hp->Prop,(∀σ' H',N σ' H'->∃m',m'<m/\W (i+1) m' σ' H')/\∀x H',J.yld i H x H'->g x σ H' λI H2=>tb { D with nx:=N,ct:=N,bk:=D.nx } I H2)
noncomputable def Nu (fp:List Addr)(h:Heap):List (Addr×Obj):=fp.filterMap λb=>(h.get? b).map λo=>(b,o)
def Zaa (hb:b∈fp)(e:h.get? b=some o):(b,o)∈Nu fp h:=List.mem_filterMap.mpr ⟨b,hb,by rw[e];rfl⟩
def Zu3 (hp:p∈Nu fp h):p.1∈fp/\h.get? p.1=some p.2:=by
 obtain⟨b,hb,e⟩:=List.mem_filterMap.mp hp;cases q:h.get? b with
 |none=>rw[q]at e;cases e
 |some o =>
  rw[q]at e;have I:(b,o)=p:=Qh e;subst I;exact⟨hb,q⟩
def Inv.pinned (I:Inv X pins σ H s)(hf:∀b∈fp,FpOk X pins H b)(ho:∀b∈fp,∃o,s.heap.get? b=some o/\∀v,o.data≠.cell v):Inv X (pins++Nu fp s.heap) σ H s :=
 I.pins_of λp hp=>(Q5.mp hp).elim (λz=>I.pin p (Rk _ z)) λz=>by
  obtain⟨hb,e⟩:=Zu3 z;obtain⟨U,Y,Z,_⟩:=hf p.1 hb;obtain⟨o,O,d⟩:=ho p.1 hb;rw[e]at O;cases O;exact⟨e,U,Y,Z,d⟩
def Inv.unpinned (I:Inv X (pins++pl) σ H s):Inv X pins σ H s:=I.pins_of λp hp=>I.pin p (Rk _ (List.mem_append_left _ hp))
end
def Ji {K:Pi}{a:Addr}{xs:List V}{g:TG}{tb:TS}{D:Ends}{σ:St}{H:Hp}(Pv:Nat->St->Hp->Prop)(h0:Pv 0 σ H)(hl:∀i σ H,i<=xs.length->Pv i σ H->SqL K H a xs)
  (hs:∀i x σ H,xs[i]?=some x->Pv i σ H->g x σ H λσ2 H2=>tb { D with nx:=Pv (i+1),ct:=Pv (i+1),bk:=D.nx } σ2 H2) (hd:∀σ H,Pv xs.length σ H->D.nx σ H) :
  ∃W:Nat->Nat->St->Hp->Prop,(∃m,W 0 m σ H)/\∀i m σ H,W i m σ H ->
   ((Jv K a).stop i H/\D.nx σ H)\/((Jv K a).go i H/\∃N:St->Hp->Prop,(∀σ' H',N σ' H'->∃m',m'<m/\W (i+1) m' σ' H')/\∀x H',(Jv K a).yld i H x H'->g x σ H' λσ2 H2=>tb { D with nx:=N,ct:=N,bk:=D.nx } σ2 H2):=by
 refine⟨λi m σ H=>m=xs.length-i/\i<=xs.length/\Pv i σ H,⟨xs.length,by simp,Qo _,h0⟩,?_⟩;rintro i m σ H ⟨rfl,hi,p⟩;have q:=hl i σ H hi p;by_cases I:i<xs.length
 ·refine .inr ⟨⟨xs,xs[i],q,by simp[I]⟩,Pv (i+1),λσ' H' O=>⟨xs.length-(i+1),by lia,rfl,I,O⟩,λx H' y=>?_⟩;obtain⟨e,y⟩:=y;subst e;exact hs i x σ _ (y xs q) p
 ·have e:i=xs.length:=by lia
  subst e;exact .inl ⟨⟨xs,q,Pm _⟩,hd σ H p⟩
def Zns {K:Pi}{a:Addr}{xs:List V}{g:TG}{tb:TS}{D:Ends}{σ:St}{H:Hp}(Pv:Nat->St->Hp->Prop)(h0:Pv 0 σ H)(hl:∀i σ H,i<=xs.length->Pv i σ H->SqT K H a xs)
  (hs:∀i x σ H,xs[i]?=some x->Pv i σ H->g x σ H λσ2 H2=>tb { D with nx:=Pv (i+1),ct:=Pv (i+1),bk:=D.nx } σ2 H2) (hd:∀σ H,Pv xs.length σ H->D.nx σ H) :
  ∃W:Nat->Nat->St->Hp->Prop,(∃m,W 0 m σ H)/\∀i m σ H,W i m σ H ->
   ((J2 K a).stop i H/\D.nx σ H)\/((J2 K a).go i H/\∃N:St->Hp->Prop,(∀σ' H',N σ' H'->∃m',m'<m/\W (i+1) m' σ' H')/\∀x H',(J2 K a).yld i H x H'->g x σ H' λσ2 H2=>tb { D with nx:=N,ct:=N,bk:=D.nx } σ2 H2):=by
 refine⟨λi m σ H=>m=xs.length-i/\i<=xs.length/\Pv i σ H,⟨xs.length,by simp,Qo _,h0⟩,?_⟩;rintro i m σ H ⟨rfl,hi,p⟩;have q:=hl i σ H hi p;by_cases I:i<xs.length
 ·refine .inr ⟨⟨xs,xs[i],q,by simp[I]⟩,Pv (i+1),λσ' H' O=>⟨xs.length-(i+1),by lia,rfl,I,O⟩,λx H' y=>?_⟩;obtain⟨e,y⟩:=y;subst e;exact hs i x σ _ (y xs q) p
 ·have e:i=xs.length:=by lia
  subst e;exact .inl ⟨⟨xs,q,Pm _⟩,hd σ H p⟩
def F8 {lo:Int}{n:Nat}{g:TG}{tb:TS}{D:Ends}{σ:St}{H:Hp}(Pv:Nat->St->Hp->Prop)(h0:Pv 0 σ H)
  (hs:∀i σ H,i<n->Pv i σ H->g (.int (lo+i)) σ H λσ2 H2=>tb { D with nx:=Pv (i+1),ct:=Pv (i+1),bk:=D.nx } σ2 H2) (hd:∀σ H,Pv n σ H->D.nx σ H) :
  ∃W:Nat->Nat->St->Hp->Prop,(∃m,W 0 m σ H)/\∀i m σ H,W i m σ H ->
   ((Kb lo n).stop i H/\D.nx σ H)\/((Kb lo n).go i H/\∃N:St->Hp->Prop,(∀σ' H',N σ' H'->∃m',m'<m/\W (i+1) m' σ' H')/\∀x H',(Kb lo n).yld i H x H'->g x σ H' λσ2 H2=>tb { D with nx:=N,ct:=N,bk:=D.nx } σ2 H2):=by
 refine⟨λi m σ H=>m=n-i/\i<=n/\Pv i σ H,⟨n,by simp,Qo _,h0⟩,?_⟩;rintro i m σ H ⟨rfl,hi,p⟩;by_cases I:i<n
 ·refine .inr ⟨I,Pv (i+1),λσ' H' O=>⟨n-(i+1),by lia,rfl,I,O⟩,λx H' y=>?_⟩;obtain⟨e,y⟩:=y;subst e y;exact hs i σ _ I p
 ·have e:i=n:=by lia
  subst e;exact .inl ⟨Pm _,hd σ H p⟩
noncomputable abbrev R2:=V->V->Hp->VK->Prop
def OpR (X:Cx)(f:Value->Value->Sem Value)(r:R2):Prop :=
 ∀(pins:List (Addr×Obj))(s:Shared)(σ:St)(H:Hp)(x y:V)(v u:Value)(Q:VK),Inv X pins σ H s->RelV x v->RelV y u->r x y H Q ->
  wpAny (model X.prog X.w) X.A (f v u) (EP X pins σ Q) X.xe s
def UnR (X:Cx)(f:Value->Sem Value)(r:V->Hp->VK->Prop):Prop :=
 ∀(pins:List (Addr×Obj))(s:Shared)(σ:St)(H:Hp)(x:V)(v:Value)(Q:VK),Inv X pins σ H s->RelV x v->r x H Q ->
  wpAny (model X.prog X.w) X.A (f v) (EP X pins σ Q) X.xe s
def C0 (X:Cx)(f:Value)(r:List V->Hp->VK->Prop):Prop :=
 ∀(pins:List (Addr×Obj))(s:Shared)(σ:St)(H:Hp)(xs:List V)(us:List Value)(Q:VK),Inv X pins σ H s->Vals xs us->r xs H Q ->
  wpAny (model X.prog X.w) X.A (call f us) (EP X pins σ Q) X.xe s
def TruR (X:Cx)(r:V->Hp->(Bool->Hp->Prop)->Prop):Prop :=
 ∀(pins:List (Addr×Obj))(s:Shared)(σ:St)(H:Hp)(x:V)(v:Value)(Q:Bool->Hp->Prop),Inv X pins σ H s->RelV x v->r x H Q ->
  wpAny (model X.prog X.w) X.A (truthy v) (TP X pins σ Q) X.xe s
def Es (r:R2)(ta tb:TE):TE:=λσ H Q=>ta σ H λx H1=>tb σ H1 λy H2=>r x y H2 Q
def tUn (r:V->Hp->VK->Prop)(ta:TE):TE:=λσ H Q=>ta σ H λx H1=>r x H1 Q
def rI (C:Int->Int->Prop)(g:Int->Int->V):R2:=λx y H Q=>eX2 λi j=>x=.int i/\y=.int j/\C i j/\Q (g i j) H
def F5 (g:Int->Int->V):R2:=λx y H Q=>eX2 λi j=>x=.int i/\y=.int j/\Q (g i j) H
def rU (g:Int->V):V->Hp->VK->Prop:=λx H Q=>∃i,x=.int i/\Q (g i) H
section
variable {X:Cx}{a b c:Expr}{ta tb tc:TE}{pos:Pos}
def Zbo (ha:PE X a ta)(hb:PE X b tb){pins:List (Addr×Obj)}{s:Shared}{σ:St}{H:Hp}{R:V->V->Hp->Prop}(I:Inv X pins σ H s)
  (h:ta σ H λx H1=>tb σ H1 λy H2=>R x y H2) {Q:Value->Shared->Prop} {f:Value->Value->Sem Value}
  (hf:∀v u s2 x y H2,Inv X pins σ H2 s2->RelV x v->RelV y u->R x y H2->wpAny (model X.prog X.w) X.A (f v u) Q X.xe s2) :
  wpAny (model X.prog X.w) X.A (eval a X.env) (λv s₁=>wpAny (model X.prog X.w) X.A (eval b X.env) (λu s₂=>wpAny (model X.prog X.w) X.A (f v u) Q X.xe s₂) X.xe s₁) X.xe s:=by
 refine Au (ha pins s σ H _ I h) λv Z O=>?_;obtain⟨x,H1,I1,r1,U⟩:=O;refine Au (hb pins Z σ H1 _ I1 U) λu s2 O=>?_;obtain⟨y,H2,Y,r2,q2⟩:=O;exact hf v u s2 x y H2 Y r1 r2 q2
def opI {f:Value->Value->Sem Value}{C:Int->Int->Prop}{g:Int->Int->Int}
  (rule:∀(i j:Int)(t u:Tok)(s:Shared)(Q:Value->Shared->Prop)(E:Value->Shared->Prop),C i j->Q (.int (g i j) s.toks) { s with toks:=s.toks+1 }->wpAny (model X.prog X.w) X.A (f (.int i t) (.int j u)) Q E s) :
  OpR X f (rI C λi j=>.int (g i j)):=by
 intro pins s σ H x y v u Q I U Y h;obtain⟨i,j,rfl,rfl,O,q⟩:=h;obtain⟨t,rfl⟩:=U;obtain⟨t',rfl⟩:=Y;exact rule i j t t' s _ _ O ⟨.int (g i j),H,I.tok _,⟨_,rfl⟩,q⟩
def opI0 {f:Value->Value->Sem Value}{g:Int->Int->Int}
  (rule:∀(i j:Int)(t u:Tok)(s:Shared)(Q:Value->Shared->Prop)(E:Value->Shared->Prop),Q (.int (g i j) s.toks) { s with toks:=s.toks+1 }->wpAny (model X.prog X.w) X.A (f (.int i t) (.int j u)) Q E s) :
  OpR X f (F5 λi j=>.int (g i j)):=by
 intro pins s σ H x y v u Q I O U h;obtain⟨i,j,rfl,rfl,q⟩:=h;obtain⟨t,rfl⟩:=O;obtain⟨t',rfl⟩:=U;exact rule i j t t' s _ _ ⟨.int (g i j),H,I.tok _,⟨_,rfl⟩,q⟩
def Zdn {f:Value->Value->Sem Value}{g:Int->Int->Bool}
  (rule:∀(i j:Int)(t u:Tok)(s:Shared)(Q:Value->Shared->Prop)(E:Value->Shared->Prop),Q (.bool (g i j)) s->wpAny (model X.prog X.w) X.A (f (.int i t) (.int j u)) Q E s) :
  OpR X f (F5 λi j=>.bl (g i j)):=by
 intro pins s σ H x y v u Q I O U h;obtain⟨i,j,rfl,rfl,q⟩:=h;obtain⟨t,rfl⟩:=O;obtain⟨t',rfl⟩:=U;exact rule i j t t' s _ _ ⟨.bl (g i j),H,I,rfl,q⟩
def CDiv (i j:Int):Prop:=0<j/\j<1073741824
def CPow (i j:Int):Prop:=0<=j/\j<=1000000/\i.natAbs<2 ^ 64
def CMul (i j:Int):Prop:=(-(2 ^ 64)<i/\i<2 ^ 64)\/(-(2 ^ 64)<j/\j<2 ^ 64)
def CMul.ok (h:CMul i j):IntMulOk i j:=by
 rcases h with⟨h1,h2⟩|⟨h1,h2⟩
 ·exact .of_left (intBits_le_64 h1 h2)
 ·exact .of_right (intBits_le_64 h1 h2)
def op_add:OpR X (binaryOp .Add) (F5 λi j=>.int (i+j)):=opI0 λ_ _ _ _ _ _ _ q=>add_int q
def Du:OpR X (binaryOp .Sub) (F5 λi j=>.int (i-j)):=opI0 λ_ _ _ _ _ _ _ q=>sub_int q
def op_mul:OpR X (binaryOp .Mult) (rI CMul λi j=>.int (i*j)):=opI λ_ _ _ _ _ _ _ I q=>mul_int q I.ok
def Cf:OpR X (binaryOp .FloorDiv) (rI CDiv λi j=>.int (i / j)):=opI λi j _ _ _ _ _ I q=>by
 have h1:(0:Int)<j:=I.1;have h2:j<1073741824:=I.2;exact floordiv_int (by lia) (by rw[Int.fdiv_eq_ediv_of_nonneg i (by lia)];exact q) (.inl (PyProof.noPylong_small (by lia)))
def Be:OpR X (binaryOp .Mod) (rI (λ_ j=>0<j) λi j=>.int (i % j)):=opI λi j _ _ _ _ _ I q=>by
 have h1:(0:Int)<j:=I;exact mod_int' (by lia) (by rw[Int.fmod_eq_emod_of_nonneg i (by lia)];exact q)
def Kv:OpR X (binaryOp .Pow) (rI CPow λi j=>.int (i ^ j.toNat)):=opI λ_ _ _ _ _ _ _ I q=>pow_int_small I.1 I.2.1 I.2.2 q
def unI {f:Value->Sem Value}{g:Int->Int}
  (rule:∀(i:Int)(t:Tok)(s:Shared)(Q:Value->Shared->Prop)(E:Value->Shared->Prop),Q (.int (g i) s.toks) { s with toks:=s.toks+1 }->wpAny (model X.prog X.w) X.A (f (.int i t)) Q E s) :
  UnR X f (rU λi=>.int (g i)):=by
 intro pins s σ H x v Q I O h;obtain⟨i,rfl,q⟩:=h;obtain⟨t,rfl⟩:=O;exact rule i t s _ _ ⟨.int (g i),H,I.tok _,⟨_,rfl⟩,q⟩
def Jj:UnR X (unaryOp .USub) (rU λi=>.int (-i)):=unI λ_ _ _ _ _ q=>neg_int q
end
noncomputable def Zak:V->V->Bool
 |.non,.non=>true|.non,.int _=>true|.int _,.non=>true|.non,.bl _=>true|.bl _,.non=>true|.non,.str _=>true|.str _,.non=>true
 |.int _,.int _=>true|.bl _,.bl _=>true|.str _,.str _=>true|.byt _,.byt _=>true
 |.int _,.str _=>true|.str _,.int _=>true|.bl _,.str _=>true|.str _,.bl _=>true
 |_,_=>false
def rEq:R2:=λx y H Q=>Zak x y=true/\Q (.bl (decide (x=y))) H
def rNe:R2:=λx y H Q=>Zak x y=true/\Q (.bl (!decide (x=y))) H
def Zfk:decide (V.int i=V.int j)=(i == j):=by
 rw[Uq];simp
def Zgm:decide (V.bl i=V.bl j)=(i == j):=by
 rw[Uq];simp
def Bu:decide (V.str i=V.str j)=(i == j):=by
 rw[Uq];simp
def Zfn:decide (V.byt i=V.byt j)=(i.toList == j.toList):=by
 rw[Uq];cases i;cases j;simp
section
variable {X:Cx}{a b c:Expr}{ta tb tc:TE}{pos:Pos}
def B6 (I:Inv X pins σ H s)(q:Q (.bl k) H)(e:k=k'):EP X pins σ Q (.bool k') s:=by
 subst e;exact⟨.bl k,H,I,rfl,q⟩
def op_eq:OpR X (compareOp .Eq) rEq:=by
 intro pins s σ H x y v u Q I Y O h;obtain⟨U,q⟩:=h;cases x with
 |non =>
  cases Y;cases y with
  |non=>cases O;exact PySem.EqNone.eq_none_none (B6 I q (by simp))
  |bl j=>cases O;exact PySem.EqNone.eq_none_bool (B6 I q (by simp))
  |int j=>obtain⟨t',rfl⟩:=O;exact PySem.EqNone.eq_none_int (B6 I q (by simp))
  |str j=>obtain⟨t',rfl⟩:=O;exact PySem.EqNone.eq_none_str (B6 I q (by simp))
  |_=>exact absurd (show false=true from U) Pu
 |bl i =>
  cases Y;cases y with
  |non=>cases O;exact PySem.EqNone.eq_bool_none (B6 I q (by simp))
  |bl j=>cases O;exact eq_bool (B6 I q Zgm)
  |str j=>obtain⟨t',rfl⟩:=O;exact PySem.EqMixed.eq_bool_str (B6 I q (by simp))
  |_=>exact absurd (show false=true from U) Pu
 |int i =>
  obtain⟨t,rfl⟩:=Y;cases y with
  |non=>cases O;exact PySem.EqNone.eq_int_none (B6 I q (by simp))
  |int j=>obtain⟨t',rfl⟩:=O;exact eq_int (B6 I q Zfk)
  |str j=>obtain⟨t',rfl⟩:=O;exact PySem.EqMixed.eq_int_str (B6 I q (by simp))
  |_=>exact absurd (show false=true from U) Pu
 |str i =>
  obtain⟨t,rfl⟩:=Y;cases y with
  |non=>cases O;exact PySem.EqNone.eq_str_none (B6 I q (by simp))
  |bl j=>cases O;exact PySem.EqMixed.eq_str_bool (B6 I q (by simp))
  |int j=>obtain⟨t',rfl⟩:=O;exact PySem.EqMixed.eq_str_int (B6 I q (by simp))
  |str j=>obtain⟨t',rfl⟩:=O;exact eq_str (B6 I q Bu)
  |_=>exact absurd (show false=true from U) Pu
 |byt i =>
  obtain⟨t,rfl⟩:=Y;cases y with
  |byt j=>obtain⟨t',rfl⟩:=O;exact PySem.W.eq_bytes (B6 I q Zfn)
  |_=>exact absurd (show false=true from U) Pu
 |_=>cases y <;> exact absurd (show false=true from U) Pu
def op_ne:OpR X (compareOp .NotEq) rNe:=by
 intro pins s σ H x y v u Q I Y O h;obtain⟨U,q⟩:=h;cases x with
 |non =>
  cases Y;cases y with
  |non=>cases O;exact PySem.EqNone.ne_none_none (B6 I q (by simp))
  |bl j=>cases O;exact PySem.EqNone.ne_none_bool (B6 I q (by simp))
  |int j=>obtain⟨t',rfl⟩:=O;exact PySem.EqNone.ne_none_int (B6 I q (by simp))
  |str j=>obtain⟨t',rfl⟩:=O;exact PySem.EqNone.ne_none_str (B6 I q (by simp))
  |_=>exact absurd (show false=true from U) Pu
 |bl i =>
  cases Y;cases y with
  |non=>cases O;exact PySem.EqNone.ne_bool_none (B6 I q (by simp))
  |bl j=>cases O;exact ne_bool (B6 I q (congrArg not Zgm))
  |str j=>obtain⟨t',rfl⟩:=O;exact PySem.EqMixed.ne_bool_str (B6 I q (by simp))
  |_=>exact absurd (show false=true from U) Pu
 |int i =>
  obtain⟨t,rfl⟩:=Y;cases y with
  |non=>cases O;exact PySem.EqNone.ne_int_none (B6 I q (by simp))
  |int j=>obtain⟨t',rfl⟩:=O;exact ne_int (B6 I q (congrArg not Zfk))
  |str j=>obtain⟨t',rfl⟩:=O;exact PySem.EqMixed.ne_int_str (B6 I q (by simp))
  |_=>exact absurd (show false=true from U) Pu
 |str i =>
  obtain⟨t,rfl⟩:=Y;cases y with
  |non=>cases O;exact PySem.EqNone.ne_str_none (B6 I q (by simp))
  |bl j=>cases O;exact PySem.EqMixed.ne_str_bool (B6 I q (by simp))
  |int j=>obtain⟨t',rfl⟩:=O;exact PySem.EqMixed.ne_str_int (B6 I q (by simp))
  |str j=>obtain⟨t',rfl⟩:=O;exact ne_str (B6 I q (congrArg not Bu))
  |_=>exact absurd (show false=true from U) Pu
 |byt i =>
  obtain⟨t,rfl⟩:=Y;cases y with
  |byt j=>obtain⟨t',rfl⟩:=O;exact PySem.W.ne_bytes (B6 I q (congrArg not Zfn))
  |_=>exact absurd (show false=true from U) Pu
 |_=>cases y <;> exact absurd (show false=true from U) Pu
def op_lt:OpR X (compareOp .Lt) (F5 λi j=>.bl (decide (i<j))):=Zdn λ_ _ _ _ _ _ _ q=>lt_int q
def op_le:OpR X (compareOp .LtE) (F5 λi j=>.bl (decide (i<=j))):=Zdn λ_ _ _ _ _ _ _ q=>le_int q
def Gz:OpR X (compareOp .Gt) (F5 λi j=>.bl (decide (j<i))):=Zdn λ_ _ _ _ _ _ _ q=>gt_int q
def Zt4:OpR X (compareOp .Lt) (λx y H Q=>eX2 λi j=>x=.str i/\y=.str j/\Q (.bl (decide (i.cps.toList<j.cps.toList))) H):=by
 intro pins s σ H x y v u Q I O U h;obtain⟨i,j,rfl,rfl,q⟩:=h;obtain⟨t,rfl⟩:=O;obtain⟨t',rfl⟩:=U;exact lt_str (B6 I q rfl)
def Zmp:OpR X (compareOp .In) (λx y H Q=>eX2 λi j=>x=.str i/\y=.str j/\Q (.bl (!(Builtin.Str.occurrences j i 0 j.length 1).isEmpty)) H):=by
 intro pins s σ H x y v u Q I O U h;obtain⟨i,j,rfl,rfl,q⟩:=h;obtain⟨t,rfl⟩:=O;obtain⟨t',rfl⟩:=U;exact in_str (B6 I q rfl)
def Znl:OpR X (compareOp .NotIn) (λx y H Q=>eX2 λi j=>x=.str i/\y=.str j/\Q (.bl (!(!(Builtin.Str.occurrences j i 0 j.length 1).isEmpty))) H):=by
 intro pins s σ H x y v u Q I O U h;obtain⟨i,j,rfl,rfl,q⟩:=h;obtain⟨t,rfl⟩:=O;obtain⟨t',rfl⟩:=U;exact notIn_str (B6 I q rfl)
def OpR.or (h:OpR X f r)(h':OpR X f r'):OpR X f (λx y H Q=>r x y H Q\/r' x y H Q):=by
 intro pins s σ H x y v u Q I O U q;rcases q with q|q
 ·exact h pins s σ H x y v u Q I O U q
 ·exact h' pins s σ H x y v u Q I O U q
def Ou (b:Expr)(h:autoParam (op≠.In) zW)(h2:autoParam (op≠.NotIn) zW):behindInMarks op b=false:=by
 have I:(op == CmpOp.In)=false:=by cases op <;> first|rfl|exact absurd rfl h
 have O:(op == CmpOp.NotIn)=false:=by cases op <;> first|rfl|exact absurd rfl h2
 cases b <;> simp[behindInMarks,I,O]
def N1 (t:TE):TT:=λσ H Q=>t σ H λx H'=>∃k,x=.bl k/\Q k H'
def Zcz (r r':R2)(ta tb tc:TE):TE:=λσ H Q=>ta σ H λx H1=>tb σ H1 λy H2=>r x y H2 λz I=>∃k,z=.bl k /\
 (if k=true then tc σ I λU O=>r' y U O Q else Q (.bl false) I)
def Op (K:Pi)(x:V)(H:Hp)(k:Bool):Prop :=
 match x with
 |.non=>k=false
 |.bl b=>k=b
 |.int i=>k=(i != 0)
 |.str y=>y.length<=sizeLine/\k=((y.length:Int) != 0)
 |.byt y=>y.size<=sizeLine/\k=((y.size:Int) != 0)
 |.ref p=>(∃xs,SqL K H p xs/\k=!xs.isEmpty)\/(∃xs,SqT K H p xs/\k=!xs.isEmpty)\/∃kvs,H p=some (.dK kvs)/\k=!kvs.isEmpty
 |_=>False
def Zm1 {κ:Type}{kvs:List (κ×V)}{vs:List (κ×Value)}(r:KV kvs vs):(!vs.isEmpty)=!kvs.isEmpty:=by
 cases r <;> rfl
def Zg4 (r:Vals xs its):(!its.toArray.isEmpty)=!xs.isEmpty:=by
 cases r <;> simp
def K1:(sizeLine:Nat)<2 ^ 63:=by rw[Wc];decide
def Zn3:TruR X (λx H Q=>∃k,Op X.K x H k/\Q k H):=by
 intro pins s σ H x v Q I Y h;obtain⟨k,e,q⟩:=h;have hl:=K1;have hs:sizeLine=16777216:=Wc;cases x with
 |non =>
  cases Y;have O:k=false:=e;subst O;exact truthy_none ⟨H,I,q⟩
 |bl b =>
  cases Y;have O:k=b:=e;subst O;exact Ry ⟨H,I,q⟩
 |int i =>
  obtain⟨t,rfl⟩:=Y;have O:k=(i != 0):=e;subst O;exact PySem.P.truthy_int ⟨H,I,q⟩
 |str y =>
  obtain⟨t,rfl⟩:=Y;obtain⟨hy,O⟩:y.length<=sizeLine/\k=((y.length:Int) != 0):=e;subst O;exact PySem.P.truthy_str (by lia) ⟨H,I.tok _,q⟩
 |byt y =>
  obtain⟨t,rfl⟩:=Y;obtain⟨hy,O⟩:y.size<=sizeLine/\k=((y.size:Int) != 0):=e;subst O;exact PySem.W.truthy_bytes (by lia) ⟨H,I.tok _,q⟩
 |ref p =>
  cases Y;have O:(∃xs,SqL X.K H p xs/\k=!xs.isEmpty)\/(∃xs,SqT X.K H p xs/\k=!xs.isEmpty)\/∃kvs,H p=some (.dK kvs)/\k=!kvs.isEmpty:=e;rcases O with⟨xs,Z,O⟩|⟨xs,Z,O⟩|⟨kvs,Z,O⟩
  ·subst O;obtain⟨aa,r,pl,hz⟩:=I.list Z;have U:=r.length;exact wpAny_truthy_list pl.isList (by simp only[Po];lia) ⟨H,I.tok _,by rw[Zg4 r];exact q⟩
  ·subst O;obtain⟨aa,r,pl,hz⟩:=I.tuple Z;have U:=r.length;exact truthy_tuple pl (by simp only[Po];lia) ⟨H,I.tok _,by rw[Zg4 r];exact q⟩
  ·subst O;obtain⟨hz,hS,vs,r,m⟩:kvs.length<=sizeLine/\(p == sysModules)=false/\∃vs,KV kvs vs/\s.heap.DictOf (Eo X.prog X.w) p vs:=I.hok p _ Z;have U:kvs.length=vs.length:=V3 r;exact wpAny_truthy_dict hS m (by lia) ⟨H,I.tok _,by rw[Zm1 r];exact q⟩
 |_=>exact(show False from e).elim
def Zrg (ha:PE X a ta)(he:∀whole,isTrue a X.env whole=(do let v <- whole;standAt a.pos;holding [v] (truthy v))) :
  PT X a (λσ H Q=>ta σ H λx H'=>∃k,Op X.K x H' k/\Q k H'):=by
 intro pins s σ H Q I h;exact isTrue_plain (Au (ha pins s σ H _ I h) λv U ⟨x,H1,Y,Z,O⟩=>Zn3 pins U σ H1 x v Q Y Z O) (he _)
def op_add_str:OpR X (binaryOp .Add) (λx y H Q=>eX2 λi j=>x=.str i/\y=.str j/\i.length+j.length<=sizeLine/\Q (.str (i++j)) H):=by
 intro pins s σ H x y v u Q I O U h;obtain⟨i,j,rfl,rfl,hz,q⟩:=h;obtain⟨t,rfl⟩:=O;obtain⟨t',rfl⟩:=U;exact add_str (λt' tk=>⟨.str (i++j),H,I.tok _,⟨_,rfl⟩,q⟩) hz
def Kk (r:Vals [x] us):∃u,us=[u]/\RelV x u:=by
 cases r with
 |cons I O=>cases O;exact⟨_,rfl,I⟩
def Zkf (r:Vals [x,y] us):eX2 λu w'=>us=[u,w']/\RelV x u/\RelV y w':=by
 cases r with
 |cons O I =>
  cases I with
  |cons Y U=>cases U;exact⟨_,_,rfl,O,Y⟩
def Zoi (hc:X.calm=true):C0 X (.builtin "max") (λxs H Q=>eX2 λi j=>xs=[.int i,.int j]/\Q (.int (if j > i then j else i)) H):=by
 intro pins s σ H xs Y Q I r h;obtain⟨i,j,rfl,q⟩:=h;obtain⟨u,U,rfl,⟨t,rfl⟩,⟨t',rfl⟩⟩:=Zkf r;refine max_two_ints (I.ok.hd hc) λh' tk k=>⟨_,H,I.kept k,?_,q⟩;by_cases O:j > i
 ·rw[if_pos O,if_pos O];exact⟨_,rfl⟩
 ·rw[if_neg O,if_neg O];exact⟨_,rfl⟩
def Zg2 (hc:X.calm=true):C0 X (.builtin "min") (λxs H Q=>eX2 λi j=>xs=[.int i,.int j]/\Q (.int (if j<i then j else i)) H):=by
 intro pins s σ H xs Y Q I r h;obtain⟨i,j,rfl,q⟩:=h;obtain⟨u,U,rfl,⟨t,rfl⟩,⟨t',rfl⟩⟩:=Zkf r;refine min_two_ints (I.ok.hd hc) λh' tk k=>⟨_,H,I.kept k,?_,q⟩;by_cases O:j<i
 ·rw[if_pos O,if_pos O];exact⟨_,rfl⟩
 ·rw[if_neg O,if_neg O];exact⟨_,rfl⟩
def Ztk:C0 X (.type "int") (λxs H Q=>(∃i,xs=[.int i]/\Q (.int i) H)\/∃k,xs=[.bl k]/\Q (.int (if k then 1 else 0)) H):=by
 intro pins s σ H xs U Q I r h;rcases h with⟨i,rfl,q⟩|⟨k,rfl,q⟩
 ·obtain⟨u,rfl,t,rfl⟩:=Kk r;exact call_int_int ⟨.int i,H,I,⟨_,rfl⟩,q⟩
 ·obtain⟨u,rfl,O⟩:=Kk r;cases O;exact call_int_bool ⟨.int (if k then 1 else 0),H,I.tok _,⟨_,rfl⟩,q⟩
def Zos:C0 X (.type "str") (λxs H Q=>∃i,xs=[.int i]/\i.natAbs.log2<1920/\Q (.str (toString i)) H):=by
 intro pins s σ H xs O Q I r h;obtain⟨i,rfl,hz,q⟩:=h;obtain⟨u,rfl,t,rfl⟩:=Kk r;exact PySem.P.str_of_int hz ⟨.str _,H,I.tok _,⟨_,rfl⟩,q⟩
def LenV (K:Pi)(x:V)(H:Hp)(n:Nat):Prop :=
 match x with
 |.str y=>y.length<=sizeLine/\n=y.length
 |.byt y=>y.size<=sizeLine/\n=y.size
 |.ref p=>(∃xs,SqL K H p xs/\n=xs.length)\/∃xs,SqT K H p xs/\n=xs.length
 |_=>False
def Zwq:C0 X (.builtin "len") (λxs H Q=>eX2 λx n=>xs=[x]/\LenV X.K x H n/\Q (.int n) H):=by
 intro pins s σ H xs us Q I r h;obtain⟨x,n,rfl,e,q⟩:=h;obtain⟨u,rfl,Y⟩:=Kk r;have hl:=K1;have hs:sizeLine=16777216:=Wc;cases x with
 |str y =>
  obtain⟨t,rfl⟩:=Y;obtain⟨hy,U⟩:y.length<=sizeLine/\n=y.length:=e;subst U;exact len_str (by lia) ⟨.int _,H,I.tok _,⟨_,rfl⟩,q⟩
 |byt y =>
  obtain⟨t,rfl⟩:=Y;obtain⟨hy,U⟩:y.size<=sizeLine/\n=y.size:=e;subst U;exact PySem.W.len_bytes (by lia) ⟨.int _,H,I.tok _,⟨_,rfl⟩,q⟩
 |ref p =>
  cases Y;have U:(∃xs,SqL X.K H p xs/\n=xs.length)\/∃xs,SqT X.K H p xs/\n=xs.length:=e;rcases U with⟨xs,hx,U⟩|⟨xs,hx,U⟩
  ·subst U;obtain⟨Z,r',pl,hz⟩:=I.list hx;have O:=r'.length;exact Calls.call_len_list pl.isList (by simp only[Po];lia) ⟨.int xs.length,H,I.tok _,⟨_,by simp only[Po];rw[O]⟩,q⟩
  ·subst U;obtain⟨Z,r',pl,hz⟩:=I.tuple hx;have O:=r'.length;exact len_tuple pl (by simp only[Po];lia) ⟨.int xs.length,H,I.tok _,⟨_,by simp only[Po];rw[O]⟩,q⟩
 |_=>exact(show False from e).elim
end
structure ObjM (h:Heap)(x dx C:Addr)(mA:Str->Option Value):Prop where
 obj:h.get? x=some (Sh C dx)
 ns:h.Ns1 dx mA
 ne:dx≠x
def Zvc {h:Heap}{dx:Addr}{mA:Str->Option Value}(n:h.Ns1 dx mA):∃od,h.get? dx=some od/\∀name,V1 name od=some (mA name):=by
 obtain⟨o,es,ep,Y,hd,hk,_,U⟩:=n;refine⟨o,Y,λname=>?_⟩;have e:=U name;unfold nsFind findBy at e;rw[<- Array.find?_toList]at e;unfold V1;rw[hd];dsimp only;split
 ·rename_i y q;rw[q]at e;exact congrArg some e
 ·rename_i q;rw[q]at e;have a:es.toList.any (·.refKey)=false:=by
   rw[List.any_eq_false];intro y Z;obtain⟨z,t,I⟩:=hk y (Array.mem_toList_iff.mp Z);simp[DictEntry.refKey,I]
  have O:¬es.toList.any (·.refKey)=true:=by rw[a];exact Pu
  rw[if_neg O];exact congrArg some e
def ObjM.look (I:ObjM h x dx C mA):∃od,PySem.W.InstAt h x (Sh C dx) C (some od)/\∀name,V1 name od=some (mA name) :=
 let ⟨od,ho,hl⟩:=Zvc I.ns
 ⟨od,⟨I.obj,rfl,rfl,ho⟩,hl⟩
section
variable {prog:Program}{w:World}{A:Around}{E:Value->Shared->Prop}{s:Shared}{K:Pi}{x dx C f:Addr}{mA:Str->Option Value}{name:Str}{v:Value}
def Zq4 (X:K.In s.heap)(I:ObjM s.heap x dx C mA)(hg:Uo K C name=true)(hh:Vm K C=true)(ha:Qn K (.ref C) name=some none)(hv:mA name=some v)(hv':PySem.W.handedIn v=true)(h:Q v { s with toks:=s.toks+1 }) :
  wpAny (model prog w) A (getAttr (.ref x) name expr) Q E s:=by
 obtain⟨od,J,hl⟩:=I.look;exact PySem.W.get_value X J (Wq hg).1 (PySem.W.findObj_own hh ha rfl (by rw[hl,hv])) hv' h
def Zud (X:K.In s.heap)(I:ObjM s.heap x dx C mA)(hg:Uo K C name=true)(hf:Qn K (.ref C) name=some (some (.ref f)))(ht:V8 K (.ref f)=true)(hv:mA name=none)(h:Q (.ref f,[.ref x]) s) :
  wpAny (model prog w) A (getMethod (.ref x) name pl) Q E s:=by
 obtain⟨od,J,hl⟩:=I.look;exact PySem.W.method_fn X J (Wq hg).1 (Wq hg).2 hf (beq_iff_eq.mp ht) (by show(V1 name od).map (·.isSome)=some false;rw[hl,hv];rfl) h
def Zuw (X:K.In s.heap)(I:ObjM s.heap x dx C mA)(hs:Qn K (.ref C) "__setattr__"=some (some (.builtin "object.__setattr__")))(hp:Wx K C=true)(ht:W5 K C name=some none)(hh:Vm K C=true)(hw:V7 mA ns)(hsz:ns.length<=sizeLine)(h:∀h',ObjM h' x dx C (λy=>if y=name then some v else mA y)->P5 dx s.heap h'->Q () { s with heap:=h',toks:=s.toks+2 }) :
  wpAny (model prog w) A (setAttr (.ref x) name v) Q E s:=by
 obtain⟨od,J,hl⟩:=I.look;refine PySem.W.set_plain X J hs (PySem.W.osa_open (s:={ s with toks:=s.toks+1 }) (r:=none) X J hp ht λb=>?_);obtain⟨cd,hc,Y⟩:=PySem.W.any_some hh;have hx:s.heap.get? x=some ⟨.ref C,some dx,.plain,#[]⟩:=I.obj;refine Pj (Pl (Pj (Pj (wpAny_loadPart hx (Pj (Uv.here (s:={ s with toks:=s.toks+1 }) (PySem.W.looks_clsIn X hc) ?_))))));rw[Y];refine Pl (a:=some dx) (Pj (Pl (Pj ?_)));refine wpAny_nsSet1 (s:={ s with toks:=s.toks+1 }) I.ns λh' O U=>?_;obtain⟨oD,ad,ae,Z,ac,aa⟩:=O.count (V7.cons name v hw);refine Pj (wpAny_lookBehind Z (by rw[ac];exact pastItsLine_dict (P9 aa (by rw[Qc];lia))) ?_);exact Pl (h _ ⟨(U.2 _ (Px I.ne)).trans I.obj,O,I.ne⟩ U)
def Zln (X:K.In s.heap)(hm:W6 K C=true)(hi:Qn K (.ref C) "__init__"=some (some (.ref f)))(hf:PySem.W.typeIn K (.ref f)=some (.type "function"))(h:codeAny (model prog w) (A.under (.builtin "type.__call__" ⟨.ref C::vs,kw⟩)) (.call (.ref f) ⟨.ref (s.heap.objs.size+1)::vs,kw⟩) (PySem.W.InitBack (s.heap.objs.size+1) R)
   { s with heap:=(s.heap.push Rz).push (Sh C s.heap.objs.size) }) :
  codeAny (model prog w) A (.call (.ref C) ⟨vs,kw⟩) R s:=by
 obtain⟨I,g,d,t,os⟩:=s;exact PySem.W.make_core (PySem.W.makes_of X hm) (PySem.W.looks_findIn X hi) (λself=>PySem.W.bind_fn X self hf) (.inl rfl) h
end
noncomputable def Aq (f:Str)(v:V):List (Str×V)->List (Str×V)
 |[]=>[(f,v)]
 | (g,x)::r=>if g=f then (g,v)::r else (g,x)::Aq f v r
theorem Zi7 (f g:Str)(v:V):∀fs:List (Str×V),(Aq f v fs).lookup g=if g=f then some v else fs.lookup g
 |[]=>by
  show R4 g [(f,v)]=_;by_cases h:g=f
  ·have hb:(g == f)=true:=beq_iff_eq.mpr h;simp only[R4,hb,if_pos h]
  ·have hb:(g == f)=false:=beq_eq_false_iff_ne.mpr h;simp only[R4,hb,if_neg h]
 | (k,x)::r=>by
  have O:=Zi7 f g v r;rw[show Aq f v ((k,x)::r)=(if k=f then (k,v)::r else (k,x)::Aq f v r) from rfl];by_cases I:k=f
  ·rw[if_pos I];by_cases h:g=k
   ·have hb:(g == k)=true:=beq_iff_eq.mpr h;simp only[R4,hb,if_pos (h.trans I)]
   ·have hb:(g == k)=false:=beq_eq_false_iff_ne.mpr h;simp only[R4,hb,if_neg (λe:g=f=>h (e.trans I.symm))]
  ·rw[if_neg I];by_cases h:g=k
   ·have hb:(g == k)=true:=beq_iff_eq.mpr h;simp only[R4,hb,if_neg (λe:g=f=>I (h.symm.trans e))]
   ·have hb:(g == k)=false:=beq_eq_false_iff_ne.mpr h;simp only[R4,hb];exact O
theorem Zc0 (f:Str)(v:V):∀fs:List (Str×V),f∈(Aq f v fs).map (·.1)/\∀g,g∈fs.map (·.1)->g∈(Aq f v fs).map (·.1)
 |[]=>⟨by simp[Aq],λg h=>by simp at h⟩
 | (k,x)::r=>by
  obtain⟨i1,i2⟩:=Zc0 f v r;rw[show Aq f v ((k,x)::r)=(if k=f then (k,v)::r else (k,x)::Aq f v r) from rfl];by_cases I:k=f
  ·rw[if_pos I];subst I;exact⟨by simp,λg h=>by simpa using h⟩
  ·rw[if_neg I];refine⟨?_,λg h=>?_⟩
   ·rw[Qr];exact Rw _ i1
   ·rw[Qr]at h ⊢;rcases Ps.mp h with e|e
    ·exact Ps.mpr (.inl e)
    ·exact Rw _ (i2 g e)
theorem Zha (f:Str)(v:V):∀fs:List (Str×V),(Aq f v fs).length<=fs.length+1
 |[]=>by simp[Aq]
 | (k,x)::r=>by
  have O:=Zha f v r;rw[show Aq f v ((k,x)::r)=(if k=f then (k,v)::r else (k,x)::Aq f v r) from rfl];by_cases I:k=f
  ·rw[if_pos I,Qc,Qc];lia
  ·rw[if_neg I,Qc,Qc];lia
def RelO.some_of (r:RelO (some v) o):∃u,o=some u/\RelV v u:=by
 cases o with
 |none=>exact(show False from r).elim
 |some u=>exact⟨u,rfl,r⟩
def RelO.none_of (r:RelO none o):o=none:=by
 cases o with
 |none=>rfl
 |some u=>exact(show False from r).elim
def Zl8 (r:RelV v u):PySem.W.handedIn u=true:=by
 cases v with
 |non=>cases (show u=Value.none from r);rfl
 |bl b=>cases (show u=Value.bool b from r);rfl
 |int i=>obtain⟨t,e⟩:=(show ∃t,u=Value.int i t from r);cases e;rfl
 |str x=>obtain⟨t,e⟩:=(show ∃t,u=Value.str x t from r);cases e;rfl
 |byt b=>obtain⟨t,e⟩:=(show ∃t,u=Value.bytes b t from r);cases e;rfl
 |flt b=>obtain⟨t,e⟩:=(show ∃t,u=Value.float b t from r);cases e;rfl
 |ref a=>cases (show u=Value.ref a from r);rfl
 |ty n=>cases (show u=Value.type n from r);rfl
section
variable {P:Program}{w:World}{H H':Hp}{h h':Heap}{a C dx:Addr}{fs fs':List (Str×V)}
def Ph (hok:HOk P w H h)(e:H a=some (.ins C dx fs)):∃mA,ObjM h a dx C mA/\(∀f,RelO (fs.lookup f) (mA f))/\V7 mA (fs.map (·.1))/\fs.length<=1000/\H dx=some (.own a):=by
 obtain⟨d,z,ne,I,mA,n,r,q⟩:=(show ObjOk P w H h a (.ins C dx fs) from hok a _ e);exact⟨mA,⟨I,n,ne⟩,r,q,z,d⟩
end
structure Cls (K:Pi)(C:Addr):Prop where
 pg:Uo K C Str.empty=true
 hd:Vm K C=true
 po:Wx K C=true
 sa:Qn K (.ref C) "__setattr__"=some (some (.builtin "object.__setattr__"))
def Cls.get {K:Pi}{C:Addr}(c:Cls K C)(f:Str):Uo K C f=true:=c.pg
def NoAttr (K:Pi)(C:Addr)(f:Str):Prop:=Qn K (.ref C) f=some none
def NoAttr.taker {K:Pi}{C:Addr}{f:Str}(n:NoAttr K C f):W5 K C f=some none:=by
 unfold W5;rw[show Qn K (.ref C) f=some none from n];rfl
structure Meth (K:Pi)(C:Addr)(m:Str)(f:Addr):Prop where
 at_:Qn K (.ref C) m=some (some (.ref f))
 fn:V8 K (.ref f)=true
 kp:Ro K (.ref f)=true
section
variable {X:Cx}{pins:List (Addr×Obj)}{σ:St}{H:Hp}{s:Shared}{a C dx:Addr}{fs:List (Str×V)}{f:Str}{v:V}{A:Around}{E:Value->Shared->Prop}
def Zh0 (I:Inv X pins σ H s)(e:H a=some (.ins C dx fs))(c:Cls X.K C)(n:NoAttr X.K C f)(l:fs.lookup f=some v)(h:∀u s',Inv X pins σ H s'->RelV v u->Q u s'):wpAny (model X.prog X.w) A (getAttr (.ref a) f b) Q E s:=by
 obtain⟨mA,O,r,_,_,_⟩:=Ph I.hok e;obtain⟨u,hu,U⟩:=RelO.some_of (v:=v) (o:=mA f) (by rw[<- l];exact r f);exact Zq4 I.kIn O (c.get f) c.hd n hu (Zl8 U) (h u _ (I.tok _) U)
def Zhs (I:Inv X pins σ H s)(e:H a=some (.ins C dx fs))(c:Cls X.K C)(k:Meth X.K C m g)(l:fs.lookup m=none)(h:Q (.ref g,[.ref a]) s):wpAny (model X.prog X.w) A (getMethod (.ref a) m pl) Q E s:=by
 obtain⟨mA,O,r,_,_,_⟩:=Ph I.hok e;have hn:mA m=none:=RelO.none_of (by rw[<- l];exact r m);exact Zud I.kIn O (c.get m) k.at_ k.fn hn h
def Zkl (I:Inv X pins σ H s)(e:H a=some (.ins C dx fs))(c:Cls X.K C)(n:NoAttr X.K C f)(hl:fs.length<1000)(ry:RelV y u)(h:∀s',Inv X pins σ (upd H a (.ins C dx (Aq f y fs))) s'->Q () s'):wpAny (model X.prog X.w) A (setAttr (.ref a) f u) Q E s:=by
 obtain⟨mA,O,r,wi,_,Y⟩:=Ph I.hok e;have hz:(fs.map (·.1)).length<=sizeLine:=by rw[Pq,Wc];lia
 refine Zuw I.kIn O c.sa c.po n.taker c.hd wi hz λh' U Z=>h _ ?_;have hd:∃o,h'.get? dx=some o:=let ⟨o,_,_,e',_⟩:=U.ns;⟨o,e'⟩;refine I.write (x:=a) (e:=dx) (by rw[e];exact True.intro) (.inr Y) (λb q hb z=>(Z.2 b hb).trans z) hd ?_;refine⟨by rw[Ah O.ne];exact Y,?_,O.ne,U.obj,_,U.ns,λg=>?_,λg hg=>?_⟩
 ·have:=Zha f y fs;lia
 ·show RelO ((Aq f y fs).lookup g) (if g=f then some u else mA g);rw[Zi7];by_cases q:g=f
  ·rw[if_pos q,if_pos q];exact ry
  ·rw[if_neg q,if_neg q];exact r g
 ·by_cases q:g=f
  ·rw[q];exact(Zc0 f y fs).1
  ·refine(Zc0 f y fs).2 g (wi g λz=>hg ?_);show(if g=f then some u else mA g)=none;rw[if_neg q];exact z
def Inv.made (I:Inv X pins σ H s):Inv X pins σ (upd (upd H s.heap.objs.size (.own (s.heap.objs.size+1))) (s.heap.objs.size+1) (.ins C s.heap.objs.size []))
  { s with heap:=(s.heap.push Rz).push (Sh C s.heap.objs.size) }:=by
 have O:(s.heap.push Rz).get? s.heap.objs.size=some Rz:=P4 s.heap rfl;have e2:((s.heap.push Rz).push (Sh C s.heap.objs.size)).get? (s.heap.objs.size+1)=some (Sh C s.heap.objs.size):=by
  have:=P4 (s.heap.push Rz) (o:=Sh C s.heap.objs.size) rfl;rwa[Qv]at this
 have Y:(s.heap.push Rz).Ns s.heap.objs.size (λ_=>none):=⟨Rz,#[],_,O,rfl,(λe he=>absurd he (by simp)),λ_=>rfl⟩;have Z:=I.laid (a:=s.heap.objs.size) (o:=.own (s.heap.objs.size+1)) (h':=s.heap.push Rz) (t':=s.toks) (λb u q=>Pp _ q) (Pm _) ⟨_,O⟩;refine Z.laid (a:=s.heap.objs.size+1) (o:=.ins C s.heap.objs.size []) (t':=s.toks) (λb u q=>Pp _ q) (Nat.le_of_eq (Qv _ _)) ?_;have ne:s.heap.objs.size≠s.heap.objs.size+1:=P3 (Vp _);refine⟨by rw[Ah ne,Ac],Qo _,ne,e2,λ_=>none,(Heap.Ns1.of_empty Y).at λo q=>Pp _ q,λ_=>True.intro,λy U=>absurd rfl U⟩
def Zr9 (hb:attributeBase e f env (eval e env)=eval e env)(h:wpAny (model prog w) A (eval e env) (λo s₁=>wpAny (model prog w) A (getAttr o f true) Q E s₁) E s):wpAny (model prog w) A (eval (.Attribute e f pos) env) Q E s :=
 Attribute_any_ h (by rw[arm_eval_Attribute,hb])
end
def Zdx (K:Pi)(ta:TE)(f:Str):TE:=λσ H Q=>ta σ H λx H1=>eX5 λa C dx fs v=>x=.ref a/\H1 a=some (.ins C dx fs)/\Cls K C/\NoAttr K C f/\fs.lookup f=some v/\Q v H1
def O1 (K:Pi)(ta tv:TE)(f:Str):TS:=λD σ H=>tv σ H λy H1=>ta σ H1 λx H2=>eX4 λa C dx fs=>x=.ref a/\H2 a=some (.ins C dx fs)/\Cls K C/\NoAttr K C f/\fs.length<1000 /\
 D.nx σ (upd H2 a (.ins C dx (Aq f y fs)))
def Zep (X:Cx)(op:Operator)(rd:V->V->Hp->VK->Prop):Prop :=
 ∀(pins:List (Addr×Obj))(s:Shared)(σ:St)(H:Hp)(x y:V)(u v:Value)(Q:VK),Inv X pins σ H s->RelV x u->RelV y v->rd x y H Q->wpAny (model X.prog X.w) X.A (inplaceOp op u v) (EP X pins σ Q) X.xe s
def Zi1 (K:Pi)(ta tv:TE)(rd:V->V->Hp->VK->Prop)(f:Str):TS:=λD σ H=>ta σ H λx H1=>eX5 λa C dx fs v=>x=.ref a/\H1 a=some (.ins C dx fs)/\Cls K C/\NoAttr K C f/\fs.lookup f=some v /\
 tv σ H1 λy H2=>rd v y H2 λz I=>eX2 λdx' fs'=>I a=some (.ins C dx' fs')/\fs'.length<1000/\D.nx σ (upd I a (.ins C dx' (Aq f z fs')))
section
variable {X:Cx}{o e value:Expr}{f:Str}{pos pos' tpos:Pos}{ta tv:TE}
def Zmz (ha:PE X o ta)(hv:PE X value tv)(hop:Zep X op rd):PS X (.AugAssign (.Attribute o f tpos) op value pos) (Zi1 X.K ta tv rd f):=by
 intro pins s σ H D I h;refine wpAny_AugAssign_AttributeAny (Au (ha pins s σ H _ I h) λov s1 O=>?_);obtain⟨x,H1,I1,rx,a,C,dx,fs,v,ex,Y,c,n,l,q⟩:=O;subst ex;obtain rfl:ov=Value.ref a:=rx;refine Zh0 I1 Y c n l λu s2 I2 ru=>Au (hv pins s2 σ H1 _ I2 q) λw3 s3 O=>?_;obtain⟨y,H2,I3,ry,q3⟩:=O;refine Au (hop pins s3 σ H2 v y u w3 _ I3 ru ry q3) λw4 s4 O=>?_;obtain⟨z,H3,I4,rz,Z,fs',U,l',q4⟩:=O;exact Zkl I4 U c n l' rz λs5 I5=>⟨σ,_,I5,q4⟩
def rAdd:V->V->Hp->VK->Prop:=λx y H Q=>eX2 λi j=>x=.int i/\y=.int j/\Q (.int (i+j)) H
def Zj2:Zep X .Add rAdd:=by
 rintro pins s σ H x y u v Q I O U ⟨i,j,rfl,rfl,q⟩;obtain⟨t,rfl⟩:=(show ∃t,u=Value.int i t from O);obtain⟨t',rfl⟩:=(show ∃t',v=Value.int j t' from U);exact PyProof.Rows.iadd_int ⟨.int (i+j),H,I.tok _,⟨_,rfl⟩,q⟩
end
section
variable {X:Cx}{pins:List (Addr×Obj)}{σ:St}{H:Hp}{s:Shared}{A:Around}{E:Value->Shared->Prop}{Q:Value->Shared->Prop}{c:Value}{b:Bool}
inductive Ek (K:Pi)(H:Hp):V->Value->Prop where
 |non:Ek K H .non (.type "NoneType")
 |bl (x:Bool):Ek K H (.bl x) (.type "bool")
 |int (i:Int):Ek K H (.int i) (.type "int")
 |str (x:Str):Ek K H (.str x) (.type "str")
 |flt (x:UInt64):Ek K H (.flt x) (.type "float")
 |lst {a:Addr} {xs:List V} (e:H a=some (.lst xs)):Ek K H (.ref a) (.type "list")
 |frz {a:Addr} {o:Obj} {xs:List V} (e:H a=some (.frz o (.lst xs))):Ek K H (.ref a) (.type "list")
 |tup {a:Addr} {xs:List V} (e:H a=some (.tup xs)):Ek K H (.ref a) (.type "tuple")
 |dK {a:Addr} {kvs:List (Ax×V)} (e:H a=some (.dK kvs)):Ek K H (.ref a) (.type "dict")
 |dT {a:Addr} {kvs:List (List Ax×V)} (e:H a=some (.dT kvs)):Ek K H (.ref a) (.type "dict")
 |ins {a C dx:Addr} {fs:List (Str×V)} (e:H a=some (.ins C dx fs)) (cl:Cls K C) (ha:Qn K (.ref C) "__class__"=some (some (.builtin "object.__class__")))
   (hn:PySem.W.specialIn K (.builtin "object.__class__") "__get__"=some (some (.builtin "getset_descriptor.__get__"))) (htk:PySem.W.takesIn K (.builtin "object.__class__")=some true)
   (hm:PySem.W.mroIn K C (.type "object")=some true):Ek K H (.ref a) (.ref C)
def Zmi (I:Inv X pins σ H s)(rx:RelV x u)(ty:Ek X.K H x t)(e:Rp X.K t c=some b)(h:∀tk,Q (.bool b) { s with toks:=tk }) :
  wpAny (model X.prog X.w) A (call (.builtin "isinstance") [u,c]) Q E s:=by
 cases ty with
 |non=>cases (show u=Value.none from rx);exact Q1 PySem.W.kitx_none I.kIn True.intro e (λz=>nomatch z) h
 |bl y=>cases (show u=Value.bool y from rx);exact Q1 PySem.W.kitx_bool I.kIn True.intro e (λz=>nomatch z) h
 |int i=>obtain⟨t,q⟩:=(show ∃t,u=Value.int i t from rx);cases q;exact Q1 PySem.W.kitx_int I.kIn True.intro e (λz=>nomatch z) h
 |str y=>obtain⟨t,q⟩:=(show ∃t,u=Value.str y t from rx);cases q;exact Q1 PySem.W.kitx_str I.kIn True.intro e (λz=>nomatch z) h
 |flt y=>obtain⟨t,q⟩:=(show ∃t,u=Value.float y t from rx);cases q;exact Q1 PySem.W.kitx_float I.kIn True.intro e (λz=>nomatch z) h
 | @lst a xs U =>
  cases (show u=Value.ref a from rx);obtain⟨_,_,n,_,h1⟩:=(show ObjOk X.prog X.w H s.heap a (.lst xs) from I.hok a _ U);exact Q1 Wy I.kIn ⟨_,h1,rfl⟩ e (λz=>nomatch z) h
 | @frz a ob xs U =>
  cases (show u=Value.ref a from rx);obtain⟨_,_,_,n,_,h1⟩:=(show ObjOk X.prog X.w H s.heap a (.frz ob (.lst xs)) from I.hok a _ U);exact Q1 Wy I.kIn ⟨_,h1,rfl⟩ e (λz=>nomatch z) h
 | @tup a xs U =>
  cases (show u=Value.ref a from rx);obtain⟨_,_,_,p⟩:=(show ObjOk X.prog X.w H s.heap a (.tup xs) from I.hok a _ U);obtain⟨o,h1,h2,_⟩:=p;exact Q1 PySem.W.kitx_tuple I.kIn ⟨o,h1,h2⟩ e (λz=>nomatch z) h
 | @dK a kvs U =>
  cases (show u=Value.ref a from rx);obtain⟨_,_,vs,_,p⟩:=(show ObjOk X.prog X.w H s.heap a (.dK kvs) from I.hok a _ U);obtain⟨o,es,ep,h1,h2,_⟩:=p;exact Q1 PySem.W.kitx_dict I.kIn ⟨o,h1,h2.1⟩ e (λz=>nomatch z) h
 | @dT a kvs U =>
  cases (show u=Value.ref a from rx);obtain⟨_,_,xs,_,o,es,ep,h1,h2,_⟩:=(show ObjOk X.prog X.w H s.heap a (.dT kvs) from I.hok a _ U);exact Q1 PySem.W.kitx_dict I.kIn ⟨o,h1,h2.1⟩ e (λz=>nomatch z) h
 | @ins a C dx fs U cl ha hn Y Z =>
  cases (show u=Value.ref a from rx);obtain⟨mA,O,_⟩:=Ph I.hok U;obtain⟨od,J,_⟩:=O.look;exact Q1 (PySem.W.kitx_own (cl.get _) cl.hd ha hn Y Z) I.kIn J e (λz=>nomatch z) h
end
structure Room (k:Nat)(A:Around):Prop where
 hd:A.handled=none
 dp:A.depth+3*k+5<recursionLimit
 un:A.units+16*k+200<cLine
def Room.mono (r:Room k A)(h:j<=k):Room j A:=⟨r.hd,by have:=r.dp;lia,by have:=r.un;lia⟩
def Room.deeper (r:Room (k+1) A)(env:Env):Room k (A.deeper env) :=
 ⟨r.hd,by have:=r.dp;show A.depth+1+3*k+5<_;lia,by have:=r.un;show A.units+3+16*k+200<_;lia⟩
def Zrw {A:Around}{C:Addr}{us:List Value}{kw:List (Str×Value)}:(A.under (.builtin "type.__call__" ⟨.ref C::us,kw⟩)).depth=A.depth+1:=by
 first|rfl|simp[Around.under,Code.weight,Code.isCreation,Code.isGuard,Code.isCaller,Code.frames,Code.isFrame,guardIds]
def Zpw {A:Around}{C:Addr}{us:List Value}{kw:List (Str×Value)}:(A.under (.builtin "type.__call__" ⟨.ref C::us,kw⟩)).units=A.units+1:=by
 first|rfl|simp[Around.under,Code.cUnits,Code.frames,Code.isFrame]
def Room.make (r:Room (k+1) A)(C:Addr)(us:List Value)(kw:List (Str×Value)):Room k (A.under (.builtin "type.__call__" ⟨.ref C::us,kw⟩)) :=
 ⟨r.hd,by have:=r.dp;rw[Zrw];lia,by have:=r.un;rw[Zpw];lia⟩
def Room.depth (r:Room k A):A.depth<recursionLimit:=by have:=r.dp;lia
def Fk:TA:=λ_ H Q=>Q [] H
def Dq (ta:TE)(tr:TA):TA:=λσ H Q=>ta σ H λx H1=>tr σ H1 λxs H2=>Q (x::xs) H2
section
variable {X:Cx}{e:Expr}{es:List Expr}{te:TE}{t:TA}{pos:Pos}
def Zkr:PA X [] Fk:=λ_ _ _ _ H Q I h=>Wz ⟨[],H,I,.nil,h⟩
def Zhi (ha:PE X e te)(hr:PA X es t)(hs:autoParam (starEach (e::es) X.env=(false,eval e X.env)::starEach es X.env) zX):PA X (e::es) (Dq te t):=by
 intro pos pins s σ H Q I h;rw[hs];show wpAny _ _ (spliced ((false,eval e X.env)::backTo pos (starEach es X.env))) _ _ s;refine Ws (Au (ha pins s σ H _ I h) λu Z zq=>?_);obtain⟨x,H1,Y,r1,O⟩:=zq;exact Au (hr pos pins Z σ H1 _ Y O) λus s2 ⟨xs,H2,I2,r2,U⟩=>⟨x::xs,H2,I2,.cons r1 r2,U⟩
def Zb6 (t:TA):TE:=λσ H Q=>t σ H λxs H1=>xs.length<=sizeLine/\∀p,H1 p=none->Q (.ref p) (upd H1 p (.tup xs))
def Zd2 (t:TA):TE:=λσ H Q=>t σ H λxs H1=>xs.length<=sizeLine/\∀p,H1 p=none->Q (.ref p) (upd H1 p (.lst xs))
end
noncomputable abbrev Sp:=List V->Hp->VK->XK->Prop
noncomputable abbrev C3:=List Env->Hp->Shared->XK->Value->Shared->Prop
structure Env0 (P:Program)(w:World)(K:Pi)(mg:Str->Option Value)(base:Heap)(A:Around)(outer:List Env)(s:Shared)(H:Hp):Prop where
 frames:A.frames=some outer
 mod:Mod K mg base
 bs:∀b o,base.get? b=some o->s.heap.get? b=some o/\H b=none
 bsz:base.objs.size<=s.heap.objs.size
 funs:s.heap.FunFrames base outer
 frf:∀b∈B8 outer,H b=none
 hok:HOk P w H s.heap
 bare:AllBare s.gens
def CE (outer:List Env)(P:Program)(w:World)(H:Hp)(s:Shared)(Q:VK)(u:Value)(s':Shared):Prop :=
 eX2 λv H'=>s'.os=s.os/\AllBare s'.gens/\Un (B8 outer) [] H H' s.heap s'.heap/\HOk P w H' s'.heap/\RelV v u/\Q v H'
def CR (CX:C3)(outer:List Env)(P:Program)(w:World)(H:Hp)(s:Shared)(Q:VK)(E:XK)(r:Result)(s':Shared):Prop :=
 match r with
 |.ok (.ret u)=>CE outer P w H s Q u s'
 |.ok _=>False
 |.error e=>CX outer H s E e s'
structure FnOk (P:Program)(w:World)(K:Pi)(mg:Str->Option Value)(base:Heap)(CX:C3)(k:Nat)(f:Addr)(fd:FuncData)(ps:List Str)(sp:Sp):Prop where
 len:∀vs H Q E,sp vs H Q E->vs.length=ps.length
 run:∀(A:Around)(outer:List Env)(s:Shared)(H:Hp)(args:Args)(us:List Value)(vs:List V)(Q:VK)(E:XK),Room k A->Env0 P w K mg base A outer s H->BindsTo s fd args (ps.zip us)->Vals vs us->sp vs H Q E ->
  codeAny (model P w) A (.call (.ref f) args) (CR CX outer P w H s Q E) s
def FnOk.imp {P:Program}{w:World}{K:Pi}{mg:Str->Option Value}{base:Heap}{CX:C3}{k:Nat}{f:Addr}{fd:FuncData}{ps:List Str}{sp sp':Sp}(F:FnOk P w K mg base CX k f fd ps sp)
  (h:∀vs H Q E,sp' vs H Q E->sp vs H Q E):FnOk P w K mg base CX k f fd ps sp' :=
 ⟨λvs H Q E q=>F.len vs H Q E (h _ _ _ _ q),λA outer s H I Z vs Q E Y U hb hv O=>F.run A outer s H I Z vs Q E Y U hb hv (h _ _ _ _ O)⟩
def Env0.make {P:Program}{w:World}{K:Pi}{mg:Str->Option Value}{base:Heap}{A:Around}{outer:List Env}{s:Shared}{H:Hp}(e:Env0 P w K mg base A outer s H)(C:Addr)(us:List Value)(kw:List (Str×Value)) :
  Env0 P w K mg base (A.under (.builtin "type.__call__" ⟨.ref C::us,kw⟩)) outer s H:=⟨by first|exact e.frames|(simpa [Around.under,Code.envs,Code.isFrame,pushEnvs] using e.frames),e.mod,e.bs,e.bsz,e.funs,e.frf,e.hok,e.bare⟩
section
variable {X:Cx}{pins:List (Addr×Obj)}{σ:St}{H:Hp}{s s':Shared}
def Inv.env0 (I:Inv X pins σ H s):Env0 X.prog X.w X.K X.mg X.base X.A X.stack s H :=
 ⟨I.ok.frames,I.ok.mod,I.bs,P9 I.ok.bsz I.sz,I.stack,I.stkFree,I.hok,I.bare⟩
def Inv.after (I:Inv X pins σ H s)(h:CE X.stack X.prog X.w H s Q u s'):EP X pins σ Q u s':=by
 obtain⟨v,H',os,bare,un,hok,r,q⟩:=h;obtain⟨U,g,d,t,O⟩:=s';obtain rfl:O=s.os:=os;exact⟨v,H',I.call (h':=U) (g':=g) (d':=d) (t':=t) (ch:=[]) un hok bare (λb z=>absurd z (by simp)),r,q⟩
end
def Oh (sp:Sp)(dvs:List V)(E:XK)(t:TA):TE:=λσ H Q=>t σ H λvs H1=>sp (vs++dvs) H1 Q E
def Binds (K:Pi)(fd:FuncData)(ps:List Str)(ds:List Value):Prop :=
 ∀(s:Shared)(us:List Value),K.In s.heap->(us++ds).length=ps.length->BindsTo s fd ⟨us,[]⟩ (ps.zip (us++ds))
def Binds.all {K:Pi}{fd:FuncData}{ps:List Str}(h:∀us:List Value,us.length=ps.length->bindArgs fd ⟨us,[]⟩=pure (ps.zip us)):Binds K fd ps []:=λs us _ hl=>by
 rw[Q2]at hl ⊢;exact .of_eq (h us hl)
def G3 (CX:C3)(X:Cx)(E:XK):Prop:=∀(pins:List (Addr×Obj))(σ:St)(H:Hp)(s:Shared)(e:Value)(s':Shared),Inv X pins σ H s->CX X.stack H s E e s'->X.xe e s'
section
variable {X:Cx}{CX:C3}{k:Nat}{f C:Addr}{fd:FuncData}{ps:List Str}{sp:Sp}{dvs:List V}{ds:List Value}{E:XK}{x m:Str}{p pos apos:Pos}{e o:Expr}{es:List Expr}{ta:TE}{t:TA}
def Zdz (F:FnOk X.prog X.w X.K X.mg X.base CX k f fd ps sp)(hr:Room k X.A)(hb:Binds X.K fd ps ds)(hd:Vals dvs ds)(hx:G3 CX X E)(I:Inv X pins σ H s)(r:Vals vs us)(h:sp (vs++dvs) H Q E):wpAny (model X.prog X.w) X.A (call (.ref f) us) (EP X pins σ Q) X.xe s:=by
 have U:Vals (vs++dvs) (us++ds):=r.append hd;have hl:(us++ds).length=ps.length:=by rw[<- U.length];exact F.len _ _ _ _ h
 refine wpAny_call (Tx (F.run X.A X.stack s H ⟨us,[]⟩ (us++ds) (vs++dvs) Q E hr I.env0 (hb s us I.kIn hl) U h) λr s' O=>?_);cases r with
 |error e=>exact hx pins σ H s e s' I O
 |ok Y =>
  cases Y with
  |ret u=>exact I.after O
  |next=>exact Qp O
  |brk=>exact Qp O
  |cont=>exact Qp O
def Zf6 (F:FnOk X.prog X.w X.K X.mg X.base CX k f fd ps sp)(hr:Room k X.A)(hg:Gl X x)(hm:X.mg x=some (.ref f))(hk:Ro X.K (.ref f)=true)(hb:Binds X.K fd ps ds)(hd:Vals dvs ds)(hx:G3 CX X E)
  (ha:PA X (e::es) t) (hdb:autoParam ((x == ("__debug__":Str))=false) zW) (he:autoParam (starEach (e::es) X.env=(false,eval e X.env)::starEach es X.env) zX) (hpl:autoParam ((backTo pos (starEach es X.env)).any (·.1)=false) zX) :
  PE X (.Call (.Name x p) (e::es) [] pos) (Oh sp dvs E t):=by
 intro pins s σ H Q I h;refine Uk (Nb I hg hm ?_ hdb);refine Vj (h₀:=X.base) I.ok.mod.kin hk (Au (ha pos pins s σ H _ I h) λY Z U=>?_) he hpl;obtain⟨vs,H1,O,r,q⟩:=U;refine⟨O.kIn,?_⟩;exact Zdz F hr hb hd hx O r q
structure Mk (K:Pi)(C f:Addr):Prop where
 makes:W6 K C=true
 init:Qn K (.ref C) "__init__"=some (some (.ref f))
 fn:V8 K (.ref f)=true
 kp:Ro K (.ref C)=true
def Zpa (M:Mk X.K C f)(F:FnOk X.prog X.w X.K X.mg X.base CX k f fd ps sp)(hr:Room (k+1) X.A)(hb:Binds X.K fd ps ds)(hd:Vals dvs ds)(hx:G3 CX X E)(I:Inv X pins σ H s)(r:Vals vs us)(h:∀x dx,H x=none->H dx=none->dx≠x->sp (.ref x::(vs++dvs)) (upd (upd H dx (.own x)) x (.ins C dx [])) (λv H2=>v=.non/\Q (.ref x) H2) E) :
  wpAny (model X.prog X.w) X.A (call (.ref C) us) (EP X pins σ Q) X.xe s:=by
 have Y:=h (s.heap.objs.size+1) s.heap.objs.size (I.hok.fresh (Wd _)) (I.hok.fresh (Pm _)) (P3 (Vp _));have U:=Inv.made (C:=C) I;have Z:Vals (V.ref (s.heap.objs.size+1)::(vs++dvs)) (Value.ref (s.heap.objs.size+1)::(us++ds)):=.cons rfl (r.append hd);have hl:(Value.ref (s.heap.objs.size+1)::us++ds).length=ps.length:=by
  have e:=Z.length;rw[F.len _ _ _ _ Y]at e;exact e.symm
 refine wpAny_call (Zln (f:=f) I.kIn M.makes M.init (beq_iff_eq.mp M.fn) (Tx (F.run _ X.stack _ _ ⟨Value.ref (s.heap.objs.size+1)::us,[]⟩ (Value.ref (s.heap.objs.size+1)::(us++ds)) _ _ E (hr.make C us [])
  (U.env0.make C us []) (hb _ (Value.ref (s.heap.objs.size+1)::us) U.kIn hl) Z Y) λr s' O=>?_))
 cases r with
 |error e=>exact hx pins σ _ _ e s' U O
 |ok fl =>
  cases fl with
  |ret u =>
   obtain⟨v,H',I3,rv,ev,q3⟩:=U.after O;subst ev;exact⟨rv,⟨V.ref (s.heap.objs.size+1),H',I3,rfl,q3⟩⟩
  |next=>exact Qp O
  |brk=>exact Qp O
  |cont=>exact Qp O
end
section
variable {X:Cx}{CX:C3}{k:Nat}{f C:Addr}{fd:FuncData}{ps ks:List Str}{sp:Sp}{E:XK}{x m:Str}{p pos apos kpos:Pos}{e o:Expr}{es:List Expr}{kws:List Keyword}{te ta:TE}{t tk:TA}{nm:Option Str}
variable {g:List Value->List Value->List Value}{gV:List V->List V->List V}
end
structure Bc (N P:List Str)(sc:Scope):Prop where
 kind:sc.kind=.function
 co:sc.isCoroutine=false
 gen:sc.isGenerator=false
 nd:N.Nodup
 pre:N.take P.length=P
 par:∀x∈P,sc.names.lookup x=some .local\/sc.names.lookup x=some .cell
 nofree:∀y∈sc.names,y.2≠.free
theorem Zg9 {kindOf:Str->Option NameKind}{x:Str}:∀{binds:List (Str×Value)}{m:Str->Option Value},(∀v,(x,v) ∉ binds)->bindL kindOf binds m x=m x
 |[],_,_=>rfl
 | (n,v)::r,m,h=>by
  unfold bindL;rw[Zg9 λw I=>h w (Rw _ I)];split
  ·have:x≠n:=by rintro rfl;exact h v Uj
   simp[this]
  ·rfl
theorem Zgh {kindOf:Str->Option NameKind}{x:Str}:∀{binds:List (Str×Value)}{m:Str->Option Value},(∀v,(x,v) ∉ binds)->bindC kindOf binds m x=m x
 |[],_,_=>rfl
 | (n,v)::r,m,h=>by
  unfold bindC;rw[Zgh λw I=>h w (Rw _ I)];split
  ·rfl
  ·have:x≠n:=by rintro rfl;exact h v Uj
   simp[this]
theorem Zid {kindOf:Str->Option NameKind}{x:Str}{v:Value}:∀{P:List Str}{vs:List Value}{i:Nat}{m:Str->Option Value},P.Nodup->P[i]?=some x->vs[i]?=some v->kindOf x=some .local ->
  bindL kindOf (P.zip vs) m x=some v
 |[],_,_,_,_,h,_,_=>by simp at h
 |_::_,[],_,_,_,_,h,_=>by simp at h
 |p::P,w::vs,0,m,nd,h1,h2,I=>by
  simp at h1 h2;subst h1;subst h2;show bindL kindOf ((p,w)::P.zip vs) m p=_;unfold bindL;rw[Zg9 λv hv=>(Vu.mp nd).1 (Vv hv).1,if_pos I];simp
 |p::P,w::vs,i+1,m,nd,h1,h2,I=>by
  show bindL kindOf ((p,w)::P.zip vs) m x=_;unfold bindL;exact Zid (i:=i) (Vu.mp nd).2 (by simpa using h1) (by simpa using h2) I
theorem Zhj {kindOf:Str->Option NameKind}{x:Str}{v:Value}:∀{P:List Str}{vs:List Value}{i:Nat}{m:Str->Option Value},P.Nodup->P[i]?=some x->vs[i]?=some v->kindOf x≠some .local ->
  bindC kindOf (P.zip vs) m x=some v
 |[],_,_,_,_,h,_,_=>by simp at h
 |_::_,[],_,_,_,_,h,_=>by simp at h
 |p::P,w::vs,0,m,nd,h1,h2,I=>by
  simp at h1 h2;subst h1;subst h2;show bindC kindOf ((p,w)::P.zip vs) m p=_;unfold bindC;rw[Zgh λv hv=>(Vu.mp nd).1 (Vv hv).1,if_neg I];simp
 |p::P,w::vs,i+1,m,nd,h1,h2,I=>by
  show bindC kindOf ((p,w)::P.zip vs) m x=_;unfold bindC;exact Zhj (i:=i) (Vu.mp nd).2 (by simpa using h1) (by simpa using h2) I
noncomputable def Gq (N:List Str)(vs:List V):St:=vs.map some++Qw (N.length-vs.length) none
noncomputable def Fp (CX:C3)(P:Program)(w:World)(K:Pi)(mg:Str->Option Value)(base:Heap)(N:List Str)(qual:Str)(scope:Scope)(f:Addr)(cd:Value)(A:Around)(outer:List Env)(s:Shared)(H:Hp)(E:XK):Cx where
 prog:=P
 w:=w
 K:=K
 mg:=mg
 base:=base
 A:=A.deeper (envOfC qual scope s.heap.objs.size f cd)
 N:=N
 s₀:=s
 H₀:=H
 env:=envOfC qual scope s.heap.objs.size f cd
 outer:=outer
 stack:=envOfC qual scope s.heap.objs.size f cd::outer
 ex:=[]
 calm:=true
 fn:=λ_=>true
 pn:=[]
 xe:=λe s'=>wpAny (model P w) (A.deeper (envOfC qual scope s.heap.objs.size f cd)) (leaving (envOfC qual scope s.heap.objs.size f cd) e) (λ_ I=>CX outer H s E e I) (λO I=>CX outer H s E O I) s'
def Zc1 {sc:Scope}{n:Nat}{x:Str}(h:sc.names.lookup x=some .cell):∃c,(cellsFrom n sc.names []).lookup x=some c:=by
 have q:=PySem.W.cellsFrom_some sc.names n [] (.inl h);exact Sq.mp q
def Zrs {CX:C3}{P:Program}{w:World}{K:Pi}{mg:Str->Option Value}{base:Heap}{N ps:List Str}{qual:Str}{scope:Scope}{f:Addr}{cd:Value}{A:Around}{outer:List Env}{s s1:Shared}{H:Hp}{E:XK}{us:List Value}{vs:List V}
  (S:Bc N ps scope) (hd:A.handled=none) (e0:Env0 P w K mg base A outer s H) (hl:vs.length=ps.length) (r:Vals vs us)
  (x:InCallC s s.heap.objs.size (bindL (envOfC qual scope s.heap.objs.size f cd).kindOf (ps.zip us) λ_=>none) (cellsFrom (s.heap.objs.size+1) scope.names []) (bindC (envOfC qual scope s.heap.objs.size f cd).kindOf (ps.zip us) λ_=>none) s1) :
  Inv (Fp CX P w K mg base N qual scope f cd A outer s H E) [] (Gq N vs) H s1:=by
 have aa:ps.length<=N.length:=by have:=congrArg Sl S.pre;rw[Qq]at this;lia
 obtain⟨h1,tk,rfl,Y⟩:=x.done;have O:∀b:Addr,b ∉ (Fp CX P w K mg base N qual scope f cd A outer s H E).ex:=λb z=>absurd (show b∈([]:List Addr) from z) (by simp);refine⟨⟨e0.mod,S.kind,rfl,rfl,Pm _,λy z c h1 h2=>?_,λy I=>?_,λy c _ h=>?_,λ_=>hd,Around.frames_deeper e0.frames,.inr ⟨rfl,rfl⟩,λb z=>absurd z (O b),e0.bs,e0.bsz,λb _ _=>O b,λb z=>absurd z (O b),e0.funs,e0.frf⟩,
  rfl,e0.bare,Un.kept Y,⟨_,x.toInCall.ns,λi y v h1 h2 h3=>?_⟩,λy c h=>⟨_,x.cell y c h⟩,e0.hok.fresh (Pm _),λy c h=>?_,λp hp=>absurd (show p∈([]:List (Addr×Obj)) from hp) (by simp),e0.hok.kept Y,?_⟩
 ·exact name_of_addr x.apart (Su h1) (Su h2)
 ·have I:scope.names.lookup y=some .cell\/scope.names.lookup y=some .free:=I;rcases I with I|I
  ·exact Zc1 I
  ·exact absurd rfl (S.nofree _ (Su I))
 ·exact Ux (x.above y c (Su h))
 ·have hi:i<vs.length:=by
   unfold Gq at h2;by_cases hi:i<vs.length
   ·exact hi
   ·rw[Qt (by simpa using hi)]at h2;rw[List.getElem?_replicate]at h2;split at h2 <;> cases h2
  have ha:vs[i]?=some v:=by
   unfold Gq at h2;rw[Qk (by simpa using hi),Qm]at h2;cases e:vs[i]? with
   |none=>rw[e]at h2;cases h2
   |some a=>rw[e]at h2;cases h2;rfl
  obtain⟨u,hu,Z⟩:=r.get ha;have hp:ps[i]?=some y:=by
   rw[<- S.pre,List.getElem?_take_of_lt (by lia)];exact h1
  have U:ps.Nodup:=by rw[<- S.pre];exact S.nd.sublist (List.take_sublist _ _)
  refine⟨u,Z,?_⟩;rcases S.par y (Qu hp) with k|k
  ·exact .inl ⟨k,Zid U hp hu k⟩
  ·obtain⟨c,e⟩:=Zc1 (n:=s.heap.objs.size+1) k;refine .inr ⟨.inl k,c,e,?_⟩;have q:=x.cell y c e;rw[Zhj U hp hu (by show scope.names.lookup y≠_;rw[k];decide)]at q;exact q
 ·exact e0.hok.fresh (Ux (x.above y c (Su h)))
 ·unfold Gq;show _=N.length;rw[Pn,Pq,List.length_replicate];lia
def Zkq {CX:C3}{P:Program}{w:World}{K:Pi}{mg:Str->Option Value}{base:Heap}{k:Nat}{f:Addr}{name qual:Str}{params:Arguments}{body:List Stmt}{scope:Scope}{dV kV doc pm cdv ct oc:Value}{an od:Option Addr}
  {osl:Array (Option Value)} {N ps:List Str} {sp:Sp} (lk:K.lookup f=some ⟨oc,od,.func (Sk name qual params body scope dV kV doc pm an cdv ct),osl⟩) (hcd:PySem.W.codeIn K cdv qual=true) (S:Bc N ps scope)
  (len:∀vs H Q E,sp vs H Q E->vs.length=ps.length)
  (hbody:∀(A:Around)(outer:List Env)(s:Shared)(H:Hp)(vs:List V)(Q:VK)(E:XK),Room k (A.deeper (envOfC qual scope s.heap.objs.size f cdv))->sp vs H Q E ->
   ∃t,PSs (Fp CX P w K mg base N qual scope f cdv A outer s H E) body t/\t { nx:=λ_ H'=>Q .non H',rt:=Q } (Gq N vs) H) :
  FnOk P w K mg base CX (k+1) f (Sk name qual params body scope dV kV doc pm an cdv ct) ps sp:=by
 refine⟨len,λA outer s H ad us vs Q E hr e0 hb r Z=>?_⟩;have hl:=len _ _ _ _ Z;have KX:K.In s.heap:=e0.mod.kin.keeps λb o e=>(e0.bs b o e).1;have ac:s.heap.NoLimit:=e0.mod.nolimit.keeps λb o e=>(e0.bs b o e).1;have U:∀y∈ps.zip us,scope.names.lookup y.1=some .local\/(scope.names.lookup y.1=some .cell/\((cellsFrom (s.heap.objs.size+1) scope.names []).lookup y.1).isSome=true):=λ⟨n,v⟩ hy=>by
  rcases S.par n (Vv hy).1 with q|q
  ·exact .inl q
  ·exact .inr ⟨q,PySem.W.cellsFrom_some _ _ _ (.inl q)⟩
 refine codeAny_call_function hr.depth (KX _ _ lk) rfl S.co S.gen rfl (PySem.W.codeRec_of KX hcd) (hb _ _ _ _ ?_);refine wpAny_newFunctionEnv_cells S.kind U λenv he s1 x=>?_;subst he;refine⟨ac.keeps x.toInCall.keep,codeAny_func ?_⟩;obtain⟨t,ht,hq⟩:=hbody A outer s H vs Q E (hr.deeper _) Z;have I:Inv (Fp CX P w K mg base N qual scope f cdv A outer s H E) [] (Gq N vs) H s1:=Zrs S hr.hd e0 hl r x;refine Rt (ht [] s1 (Gq N vs) H _ I hq) (λfl s' Y=>?_) λe s' Y=>Y;have aa:∀{O:St}{H':Hp}{v:V}{u:Value},Inv (Fp CX P w K mg base N qual scope f cdv A outer s H E) [] O H' s'->RelV v u->Q v H'->CE outer P w H s Q u s' :=
  λ{O H' v u} J rv q=>⟨v,H',J.os,J.bare,J.base,J.hok,rv,q⟩
 cases fl with
 |ret u =>
  obtain⟨v,O,H',J,rv,q⟩:=Y;exact aa J rv q
 |next =>
  obtain⟨O,H',J,q⟩:=Y;exact aa (v:=V.non) (u:=Value.none) J rfl q
 |brk =>
  obtain⟨_,_,_,q⟩:=Y;exact Qp q
 |cont =>
  obtain⟨_,_,_,q⟩:=Y;exact Qp q
section
variable {X:Cx}{x:Str}{p pos:Pos}{e:Expr}{es:List Expr}{t:TA}{id T:String}{r:List V->Hp->VK->Prop}
def Iv (r:List V->Hp->VK->Prop)(t:TA):TE:=λσ H Q=>t σ H λvs H1=>r vs H1 Q
end
end L2
namespace HT
open PySem PyProof.Rows
section
open PySem.SeqAt
open PySem.AutoSeq1 (wpAny_loadPart')
open PySem.MeetsSeq PySem.MeetsSeq2 PySem.MeetsSeq3
end
section
variable {prog:Program}{w:World}{A:Around}{E:Value->Shared->Prop}{s:Shared}
theorem cat_tup (ht:IsTup s.heap t vs.toArray)(hb:IsTup s.heap b ws.toArray)(hv:vs≠[])(h1:ws=[]->Q (.ref t) s)(h2:ws≠[]->Q (.ref s.heap.objs.size) { s with heap:=s.heap.push { cls:=.type "tuple",data:=.seq (vs++ws).toArray } })(hsz:vs.length+ws.length<=sizeLine):wpAny (model prog w) A (binaryOp .Add (.ref t) (.ref b)) Q E s:=by
 obtain⟨⟨cls,dd,data,sl⟩,ho,hc,n,hd⟩:=id ht;obtain⟨⟨ac,O,aa,Y⟩,I,Z,n2,U⟩:=id hb;simp only at hc hd Z U;subst hc hd Z U;have e:vs.toArray++ws.toArray=(vs++ws).toArray:=by simp
 by_cases hw:ws=[]
 ·exact V9 ⟨_,ho,rfl⟩ ⟨_,I,rfl⟩ Vq V4 Ve Vb (U8 _ _)
   (tuple_addW1 t b vs.toArray ws.toArray n n2 dd O sl Y (by simpa using hv) (by simp[hw])) ⟨ho,I,h1 hw⟩
 ·refine V9 ⟨_,ho,rfl⟩ ⟨_,I,rfl⟩ Vq V4 Ve Vb (U8 _ _)
   (tuple_addW2 t b vs.toArray ws.toArray n n2 dd O sl Y (by simpa using hv) (by simpa using hw) (by rw[Po,Po];exact hsz)) ⟨ho,I,?_⟩
  rw[e];exact h2 hw
noncomputable def sIx (n d:Nat):Option Int->Nat
 |none=>d
 |some v=>if v<0 then (v+(n:Int)).toNat else min v.toNat n
theorem sIx_none (n d:Nat):sIx n d none=d:=rfl
theorem sIx_nat (n d k:Nat):sIx n d (some (k:Int))=min k n:=by
 show(if (k:Int)<0 then ((k:Int)+(n:Int)).toNat else min (k:Int).toNat n)=min k n;rw[if_neg (by lia),Qz]
theorem Zsb (n d:Nat)(hd:d<=n)(o:Option Int):sIx n d o<=n:=by
 cases o with
 |none=>exact hd
 |some v =>
  show(if v<0 then (v+(n:Int)).toNat else min v.toNat n)<=n;by_cases hv:v<0
  ·rw[if_pos hv];lia
  ·rw[if_neg hv];exact Nat.min_le_right _ _
theorem Ziw (v:Int)(n d:Nat):(if v<0 then max (v+(n:Int)) 0 else min v (n:Int))=((sIx n d (some v):Nat):Int):=by
 show(if v<0 then max (v+(n:Int)) 0 else min v (n:Int))=(((if v<0 then (v+(n:Int)).toNat else min v.toNat n):Nat):Int);by_cases hv:v<0
 ·simp only[if_pos hv];lia
 ·simp only[if_neg hv];lia
theorem Zp5 (lo hi:Option Int)(n:Nat):Wi lo hi 1 (n:Int)=(((sIx n 0 lo:Nat):Int),((sIx n n hi:Nat):Int)):=by
 have h1:¬((1:Int)<0):=by lia
 unfold Wi;simp only[h1,if_false];refine Prod.ext ?_ ?_
 ·cases lo with
  |none=>rfl
  |some v=>exact Ziw v n 0
 ·cases hi with
  |none=>rfl
  |some v=>exact Ziw v n n
theorem Zrl (i j:Nat):U7 (i:Int) (j:Int) 1=j-i:=by
 unfold U7;have h1:(1:Int) > 0:=by lia
 simp only[h1,if_true,Int.ediv_one];split <;> lia
theorem Zi0 (p:IsPart v o)(h:Q o s):wpAny (model prog w) A (Builtin.Slice.slicePartIndex v) Q E s:=by
 cases p with
 |none=>exact slicePart_none h
 |int i t=>exact slicePart_int h
theorem sliceApplied_gen {sl:Addr}{vl vu:Value}{lo hi:Option Int}{n:Nat}{Q:Int×Int×Nat->Shared->Prop}(hs:s.heap.IsSliceOf sl vl vu .none)(pl:IsPart vl lo)(pu:IsPart vu hi)
  (h:Q (((sIx n 0 lo:Nat):Int),1,sIx n n hi-sIx n 0 lo) s):wpAny (model prog w) A (Builtin.Slice.sliceApplied (.ref sl) (pure (n:Int))) Q E s:=by
 obtain⟨os,I,U,O⟩:=id hs;unfold Builtin.Slice.sliceApplied Builtin.Slice.sliceFields;refine Pj (Pj (Py I O (x:=vl) rfl (Pj (Py I O (x:=vu) rfl (Pj (Py I O (x:=.none) rfl (Pl ?_)))))));refine Pj (slicePart_none ?_);show wpAny _ _ (if ((1:Int) == 0)=true then _ else _) _ _ s;rw[if_neg (by decide)];refine Pj (Zi0 pl (Pj (Zi0 pu (Pj (Pl ?_)))));show wpAny _ _ (match Wi lo hi 1 (n:Int) with|(lo,hi)=>pure (lo,(1:Int),U7 lo hi 1)) _ _ s;rw[Zp5 lo hi n];show wpAny _ _ (pure (((sIx n 0 lo:Nat):Int),(1:Int),U7 ((sIx n 0 lo:Nat):Int) ((sIx n n hi:Nat):Int) 1)) _ _ s;rw[Zrl];exact Pl h
theorem Zq8 (xs:Array Value)(i k:Nat):((P7 k).filterMap λ(m:Nat)=>xs[((i:Int)+(m:Int)*1).toNat]?).toArray=((xs.toList.drop i).take k).toArray:=by
 have e:(λ(m:Nat)=>xs[((i:Int)+(m:Int)*1).toNat]?)=λm=>xs[i+m]?:=by
  funext m;have:((i:Int)+(m:Int)*1).toNat=i+m:=by lia
  rw[this]
 rw[e];have:=pick_run xs i k;rw[List.filterMap_map]at this;have I:((λx=>xs[x]?) ∘ λx=>i+x)=λm=>xs[i+m]?:=rfl;rw[I]at this;rw[this]
theorem getItem_tuple_cut {t sl:Addr}{items:Array Value}{vl vu:Value}{lo hi:Option Int}{Q:Value->Shared->Prop}(ht:IsTup s.heap t items)(hs:s.heap.IsSliceOf sl vl vu .none)(pl:IsPart vl lo)(pu:IsPart vu hi)
  (hw:¬(sIx items.size 0 lo=0/\sIx items.size items.size hi=items.size))
  (h:Q (.ref s.heap.objs.size) { s with heap:=s.heap.push { cls:=.type "tuple",data:=.seq ((items.toList.drop (sIx items.size 0 lo)).take (sIx items.size items.size hi-sIx items.size 0 lo)).toArray } })
  (hsz:items.size<=sizeLine):wpAny (model prog w) A (getItem (.ref t) (.ref sl)) Q E s:=by
 have I:sizeOk (.seq ((items.toList.drop (sIx items.size 0 lo)).take (sIx items.size items.size hi-sIx items.size 0 lo)).toArray):=by
  show((items.toList.drop (sIx items.size 0 lo)).take (sIx items.size items.size hi-sIx items.size 0 lo)).toArray.size<=sizeLine;rw[Po,Qq,Sw,Vi];lia
 have hj:sIx items.size items.size hi<=items.size:=Zsb _ _ (Pm _) hi;obtain⟨os,U,Y,aa⟩:=id hs;have Z:s.TypeIs (.ref sl) "slice":=⟨os,U,Y⟩;unfold getItem
 try with_reducible refine Q8 ?_
 first|refine Pj (Pl ?_)|skip
 refine Pj (wpAny_sequenceKey ht.typeIs (by decide) ?_);refine Pj (Rj (name:=Qx "__getitem__") ht.typeIs Tg
  (Rm Tg ht.typeIs entry_tuple_getitem ?_ (args_tuple_getitem _ _)))
 show wpAny _ _ (Builtin.Tuple.tupleItemsOf (.ref t) >>= _) _ _ s;refine Pj (tupleItemsOf_ ht ?_);refine Pj (Tz Z ?_);rw[if_pos (by decide)];refine Pj (sliceApplied_gen hs pl pu ?_);have O:¬((((sIx items.size 0 lo:Nat):Int) == 0 && (1:Int) == 1 && (sIx items.size items.size hi-sIx items.size 0 lo) == items.size)=true):=by
  intro q;rw[R3,R3]at q;have q1:((sIx items.size 0 lo:Nat):Int)=0:=eq_of_beq q.1.1;have q2:sIx items.size items.size hi-sIx items.size 0 lo=items.size:=eq_of_beq q.2;exact hw ⟨by lia,by lia⟩
 show wpAny _ _ (if (((sIx items.size 0 lo:Nat):Int) == 0 && (1:Int) == 1 && (sIx items.size items.size hi-sIx items.size 0 lo) == items.size)=true then _ else _) _ _ s;rw[if_neg O,Zq8]
 first
  |exact Pj (m:=U9 _) (Se (Pl ⟨_,rfl,Pl h⟩) I)
  |exact Pj (m:=U9 _) (Se (Pj (Pl (Pl ⟨_,rfl,Pl h⟩))) I)
  |exact Pj (Pj (m:=U9 _) (Se (Pl (Pl ⟨_,rfl,Pl h⟩)) I))
  |exact Pj (Pj (m:=U9 _) (Se (Pl ⟨_,rfl,Pl h⟩) I))
end
end HT
namespace L2
open PySem PySem.Spec PyProof.Rows
noncomputable abbrev TO:=St->Hp->(Option Int->Hp->Prop)->Prop
def PO (X:Cx)(e:Option Expr)(t:TO):Prop :=
 ∀(pins:List (Addr×Obj))(s:Shared)(σ:St)(H:Hp)(Q:Option Int->Hp->Prop),Inv X pins σ H s->t σ H Q ->
  wpAny (model X.prog X.w) X.A (evalPart e X.env) (λu s'=>eX2 λo H'=>Inv X pins σ H' s'/\IsPart u o/\Q o H') X.xe s
def Zbx:TO:=λ_ H Q=>Q none H
def Zcu (t:TE):TO:=λσ H Q=>t σ H λx H1=>∃i,x=.int i/\Q (some i) H1
section
variable {X:Cx}{e:Expr}{te:TE}{lo hi:Option Expr}{tl th:TO}{pos p2:Pos}
def SlR (X:Cx)(r:V->Option Int->Option Int->Hp->VK->Prop):Prop :=
 ∀(pins:List (Addr×Obj))(s:Shared)(σ:St)(H:Hp)(x:V)(v vl vu:Value)(lo hi:Option Int)(sl:Addr)(Q:VK),Inv X pins σ H s->RelV x v->s.heap.IsSliceOf sl vl vu .none->IsPart vl lo->IsPart vu hi->r x lo hi H Q ->
  eX2 λT id=>typeLookup (.type T) "__getitem__"=pure (some (.builtin id))/\s.TypeIs v T/\wpAny (model X.prog X.w) X.A (getItem v (.ref sl)) (EP X pins σ Q) X.xe s
def SlR.or (h:SlR X r)(h':SlR X r'):SlR X (λx lo hi H Q=>r x lo hi H Q\/r' x lo hi H Q):=by
 intro pins s σ H x v Z O lo hi sl Q I Y U pl pu q;rcases q with q|q
 ·exact h pins s σ H x v Z O lo hi sl Q I Y U pl pu q
 ·exact h' pins s σ H x v Z O lo hi sl Q I Y U pl pu q
def tSl (r:V->Option Int->Option Int->Hp->VK->Prop)(te:TE)(tl th:TO):TE:=λσ H Q=>te σ H λx H1=>tl σ H1 λl H2=>th σ H2 λu I=>r x l u I Q
noncomputable def Ca (xs:List V)(lo hi:Option Int):List V:=(xs.drop (HT.sIx xs.length 0 lo)).take (HT.sIx xs.length xs.length hi-HT.sIx xs.length 0 lo)
def Zfv (xs:List V)(lo hi:Option Int):(Ca xs lo hi).length<=xs.length:=by
 unfold Ca;rw[Qq,Sw];lia
def rSlT (K:Pi):V->Option Int->Option Int->Hp->VK->Prop:=λx lo hi H Q=>eX2 λa xs=>x=.ref a/\SqT K H a xs /\
 ¬(HT.sIx xs.length 0 lo=0/\HT.sIx xs.length xs.length hi=xs.length)/\∀p,H p=none->Q (.ref p) (upd H p (.tup (Ca xs lo hi)))
def Zia:SlR X (rSlT X.K):=by
 intro pins s σ H x v vl vu lo hi sl Q I rx Z pl pu h;obtain⟨a,xs,rfl,hx,hw,q⟩:=h;cases rx;obtain⟨U,r,Y,hz⟩:=I.tuple hx;have O:U.toArray.size=xs.length:=by rw[Po];exact r.length.symm
 refine⟨"tuple",_,Tg.lookup,Y.typeIs,?_⟩;refine HT.getItem_tuple_cut Y Z pl pu (by rw[O];exact hw) ?_ (by rw[O];exact hz);rw[O];refine⟨.ref s.heap.objs.size,_,I.laid (t':=s.toks) (o:=.tup (Ca xs lo hi)) (λb ob q=>Pp _ q) (Pm _) ?_,rfl,q _ (I.hok.fresh (Pm _))⟩;exact⟨P9 (Zfv xs lo hi) hz,_,(r.drop (HT.sIx xs.length 0 lo)).take (HT.sIx xs.length xs.length hi-HT.sIx xs.length 0 lo),IsTup.new _ _⟩
def Zon (K:Pi):R2:=λx y H Q=>eX4 λa b xs ys=>x=.ref a/\y=.ref b/\SqT K H a xs/\SqT K H b ys/\xs≠[]/\xs.length+ys.length<=sizeLine /\
 (ys=[]->Q (.ref a) H)/\(ys≠[]->∀p,H p=none->Q (.ref p) (upd H p (.tup (xs++ys))))
def Vals.nil_iff (r:Vals xs us):us=[]↔xs=[]:=by
 cases r with
 |nil=>simp
 |cons _ _=>simp
def Zkn:OpR X (binaryOp .Add) (Zon X.K):=by
 intro pins s σ H x y v u Q I rx ry h;obtain⟨a,b,xs,ys,rfl,rfl,ha,hb,hx,hz,Z,q2⟩:=h;cases rx;cases ry;obtain⟨aa,U,p1,_⟩:=I.tuple ha;obtain⟨Y,O,p2,_⟩:=I.tuple hb;refine HT.cat_tup p1 p2 (λz=>hx (U.nil_iff.mp z)) (λz=>⟨.ref a,H,I,rfl,Z (O.nil_iff.mp z)⟩) (λz=>?_) (by rw[<- U.length,<- O.length];exact hz);refine⟨.ref s.heap.objs.size,_,I.laid (t':=s.toks) (o:=.tup (xs++ys)) (λb ob q=>Pp _ q) (Pm _) ?_,rfl,q2 (λw=>z (O.nil_iff.mpr w)) _ (I.hok.fresh (Pm _))⟩;exact⟨by rw[Pn];exact hz,_,U.append O,IsTup.new _ _⟩
end
noncomputable def Fv (n:Nat)(i:Int):Option Nat:=if 0<=i then (if i<n then some i.toNat else none) else if -(n:Int)<=i then some (i+n).toNat else none
noncomputable def Cq {α:Type}(xs:List α)(i:Int):Option α:=(Fv xs.length i).bind λj=>xs[j]?
def Zfi (h:Fv n i=some j):seqIndex? i n=some j/\j<n/\-(n:Int)<=i/\i<n:=by
 unfold Fv at h;by_cases h0:0<=i
 ·rw[if_pos h0]at h;by_cases h1:i<n
  ·rw[if_pos h1]at h;have e:i.toNat=j:=Qh h;exact⟨by rw[seqIndex_of h0 h1,e],by lia,by lia,h1⟩
  ·rw[if_neg h1]at h;cases h
 ·rw[if_neg h0]at h;by_cases h1:-(n:Int)<=i
  ·rw[if_pos h1]at h;have e:(i+n).toNat=j:=Qh h;exact⟨by rw[seqIndex_neg (by lia) h1,e],by lia,h1,by lia⟩
  ·rw[if_neg h1]at h;cases h
def Zdm {α:Type}{xs:List α}{i:Int}{v:α}(h:Cq xs i=some v):∃j,seqIndex? i xs.length=some j/\xs[j]?=some v/\j<xs.length/\-(xs.length:Int)<=i/\i<xs.length:=by
 unfold Cq at h;cases e:Fv xs.length i with
 |none=>rw[e]at h;cases h
 |some j =>
  rw[e]at h;obtain⟨h1,h2,I,O⟩:=Zfi e;exact⟨j,h1,h,h2,I,O⟩
def Cs {α:Type}{xs:List α}{j:Nat}{v:α}(h:xs[j]?=some v):Cq xs (j:Int)=some v:=by
 have I:j<xs.length:=(Pt.mp h).1;have e:Fv xs.length (j:Int)=some j:=by
  unfold Fv;rw[if_pos (by lia),if_pos (by lia)];simp
 unfold Cq;rw[e];exact h
def Zb5 (b:Expr):Prop:=∀o i,subscripted b false o i=operate [o,i] (getItem o i)
def IxR (X:Cx)(r:R2):Prop :=
 ∀(value slice:Expr)(pins:List (Addr×Obj))(s:Shared)(σ:St)(H:Hp)(x y:V)(v u:Value)(Q:VK),Inv X pins σ H s->RelV x v->RelV y u->r x y H Q ->
  subscripted slice false v u=operate [v,u] (getItem v u)->wpAny (model X.prog X.w) X.A (subscriptTail value slice v u) (EP X pins σ Q) X.xe s
def Kh (X:Cx)(id:String)(r:V->List V->Hp->VK->Prop):Prop :=
 ∀(pins:List (Addr×Obj))(s:Shared)(σ:St)(H:Hp)(x:V)(xs:List V)(v:Value)(us:List Value)(Q:VK),Inv X pins σ H s->RelV x v->Vals xs us->r x xs H Q ->
  wpAny (model X.prog X.w) X.A (call (.builtin id) (v::us)) (EP X pins σ Q) X.xe s
section
variable {X:Cx}{a b:Expr}{ta tb:TE}{pos:Pos}
def IxR.or (h:IxR X r)(h':IxR X r'):IxR X (λx y H Q=>r x y H Q\/r' x y H Q):=by
 intro value O pins s σ H x y v u Q I Y Z q U;rcases q with q|q
 ·exact h value O pins s σ H x y v u Q I Y Z q U
 ·exact h' value O pins s σ H x y v u Q I Y Z q U
def rIxL (K:Pi):R2:=λx y H Q=>eX4 λp xs i v=>x=.ref p/\y=.int i/\SqL K H p xs/\Cq xs i=some v/\Q v H
def rIxT (K:Pi):R2:=λx y H Q=>eX4 λp xs i v=>x=.ref p/\y=.int i/\SqT K H p xs/\Cq xs i=some v/\Q v H
def rIxS:R2:=λx y H Q=>eX3 λz i c=>x=.str z/\y=.int i/\z.length<=sizeLine/\Cq z.cps.toList i=some c/\Q (.str ⟨#[c]⟩) H
def ix_list:IxR X (rIxL X.K):=by
 intro value Y pins s σ H x y v u Q I rx ry h hs;obtain⟨p,xs,i,z,rfl,rfl,hq,he,q⟩:=h;cases rx;obtain⟨t,rfl⟩:=ry;obtain⟨Z,r,pl,hz⟩:=I.list hq;obtain⟨j,h1,h2,h3,h4,h5⟩:=Zdm he;obtain⟨w,ew,aa⟩:=r.get h2;have hl:=r.length;have hn:=K1;have O:EP X pins σ Q w s:=⟨z,H,I,aa,q⟩;by_cases h0:0<=i
 ·have U:i.toNat=j:=by
   rw[seqIndex_of h0 h5]at h1;exact Qh h1
  exact item_listR pl.isList h0 (by lia) (by rw[U];simpa using ew) O hs
 ·have U:(i+(Z.toArray.size:Int)).toNat=j:=by
   rw[seqIndex_neg (by lia) h4]at h1;rw[Po,<- hl];exact Qh h1
  exact subscriptTail_builtinR (x:=w) pl.isList.typeIs W0.lookup
   (wpAny_getItem_list_neg (Q:=λr s'=>r=w/\EP X pins σ Q r s') pl.isList (by lia) (by rw[Po] <;> lia) (by lia) (by rw[U];simpa using ew) ⟨rfl,O⟩) hs
def ix_tup:IxR X (rIxT X.K):=by
 intro value U pins s σ H x y v u Q I rx ry h hs;obtain⟨p,xs,i,z,rfl,rfl,Z,he,q⟩:=h;cases rx;obtain⟨t,rfl⟩:=ry;obtain⟨aa,r,pl,hz⟩:=I.tuple Z;obtain⟨j,h1,h2,h3,h4,h5⟩:=Zdm he;obtain⟨w,ew,Y⟩:=r.get h2;have hl:=r.length;have hn:=K1;have O:EP X pins σ Q w s:=⟨z,H,I,Y,q⟩;exact subscriptTail_builtinR (x:=w) pl.typeIs slot_tuple_getitem.lookup
  (getItem_tuple (j:=j) (Q:=λr s'=>r=w/\EP X pins σ Q r s') pl (by lia) (by lia) (by rw[Po,<- hl];exact h1) (by simpa using ew) ⟨rfl,O⟩) hs
def Zss:IxR X rIxS:=by
 intro value O pins s σ H x y v u Q I Y ry h U;obtain⟨z,i,c,rfl,rfl,hz,Z,q⟩:=h;obtain⟨t,rfl⟩:=Y;obtain⟨t',rfl⟩:=ry;obtain⟨j,h1,h2,h3,h4,h5⟩:=Zdm Z;have hl:z.cps.toList.length=z.length:=by simp[Str.length]
 rw[hl]at h1 h4 h5;have hn:=K1;exact tail_any (typeIs_str s z t) slot_str_getitem.lookup (getItem_str (c:=c) (by
  have e1:decide (i < -(2 ^ 63:Int))=false:=dI (by lia);have e2:decide (i ≥ 2 ^ 63)=false:=dI (by lia);rw[e1,e2,Bool.or_false]) (by rw[h1];simpa using h2) ⟨.str ⟨#[c]⟩,H,I.tok _,⟨_,rfl⟩,q⟩) U
def Ld (K:Pi):R2:=λx y H Q=>rIxL K x y H Q\/rIxT K x y H Q\/rIxS x y H Q
def Znm:IxR X (Ld X.K):=ix_list.or (ix_tup.or Zss)
def Zob (its:List Value)(n j:Nat)(u:Value):Qy (·.setIfInBounds j u) { cls:=.type "list",data:=.seq its.toArray n }={ cls:=.type "list",data:=.seq (its.set j u).toArray n }:=by
 simp[Qy]
def Inv.lst (I:Inv X pins σ H s)(h:H p=some (.lst xs)) :
  eX2 λ(its:List Value)(n:Nat)=>Vals xs its/\s.heap.get? p=some { cls:=.type "list",data:=.seq its.toArray n }/\xs.length<=sizeLine:=by
 obtain⟨z,its,n,r,e⟩:=I.hok p _ h;exact⟨its,n,r,e,z⟩
def Inv.lstUpd {pins:List (Addr×Obj)}{σ:St}{H:Hp}{s:Shared}{p:Addr}{xs ys:List V}{its its':List Value}{n n':Nat}{f:Obj->Obj}(I:Inv X pins σ H s)(h:H p=some (.lst xs))
  (ho:s.heap.get? p=some { cls:=.type "list",data:=.seq its.toArray n }) (hf:f { cls:=.type "list",data:=.seq its.toArray n }={ cls:=.type "list",data:=.seq its'.toArray n' }) (r:Vals ys its') (hz:ys.length<=sizeLine) (t:Nat) :
  Inv X pins σ (upd H p (.lst ys)) { s with heap:=s.heap.update p f,toks:=t }:=by
 have e:(s.heap.update p f).get? p=some { cls:=.type "list",data:=.seq its'.toArray n' }:=by
  rw[Sb f ho (by rw[hf] <;> rfl),hf]
 refine I.write (x:=p) (e:=p) (by rw[h];trivial) (.inl rfl) (λb u hb q=>(Re _ _ (Px hb)).trans q) ⟨_,e⟩ ?_;exact⟨hz,its',n',r,e⟩
def Zk3:V->V->V->Hp->(Hp->Prop)->Prop:=λo i v H Q=>eX4 λp xs k j=>o=.ref p/\i=.int k/\H p=some (.lst xs)/\Fv xs.length k=some j/\Q (upd H p (.lst (xs.set j v)))
def Znj:Zek X Zk3:=by
 intro pins s σ H o i v ov iv u Q I ro ri rv h;obtain⟨p,xs,k,j,rfl,rfl,hp,hj,q⟩:=h;cases ro;obtain⟨t,rfl⟩:=ri;obtain⟨O,n,r,U,hz⟩:=I.lst hp;obtain⟨h1,h2,h3,h4⟩:=Zfi hj;have hl:=r.length;have hn:=K1;have Z:Inv X pins σ (upd H p (.lst (xs.set j v))) { s with heap:=s.heap.update p (Qy (·.setIfInBounds j u)) } :=
  I.lstUpd hp U (Zob O n j u) (r.set rv j) (by rw[To];exact hz) s.toks
 by_cases h0:0<=k
 ·have Y:k.toNat=j:=by
   rw[seqIndex_of h0 h4]at h1;exact Qh h1
  exact PySem.W.ki_setAt U h0 (by lia) (by rw[Po,<- hl];exact h4) (by rw[Y];exact⟨_,Z,q⟩)
 ·have Y:(k+(O.toArray.size:Int)).toNat=j:=by
   rw[seqIndex_neg (by lia) h3]at h1;rw[Po,<- hl];exact Qh h1
  exact PySem.W.ki_setBack U (by lia) (by rw[Po,<- hl];exact h3) (by lia) (by rw[Y];exact⟨_,Z,q⟩)
def Zut (lo hi:Option Int)(n:Nat):(sliceBounds lo hi none n).1=((HT.sIx n 0 lo:Nat):Int)/\(sliceBounds lo hi none n).2.1=((HT.sIx n n hi:Nat):Int)/\(sliceBounds lo hi none n).2.2=1:=by
 refine⟨?_,?_,rfl⟩
 ·cases lo with
  |none=>simp[sliceBounds,HT.sIx]
  |some i =>
   simp only[sliceBounds,HT.sIx,Option.getD_none,show(1:Int) > 0 by decide,if_true];by_cases h:i<0
   ·simp only[h,if_true] <;> lia
   ·simp only[h,if_false] <;> lia
 ·cases hi with
  |none=>simp[sliceBounds,HT.sIx]
  |some i =>
   simp only[sliceBounds,HT.sIx,Option.getD_none,show(1:Int) > 0 by decide,if_true];by_cases h:i<0
   ·simp only[h,if_true] <;> lia
   ·simp only[h,if_false] <;> lia
def Zvk (its:List Value)(lo hi:Option Int):slicePick its.toArray lo hi none=((its.drop (HT.sIx its.length 0 lo)).take (HT.sIx its.length its.length hi-HT.sIx its.length 0 lo)).toArray:=by
 obtain⟨h1,h2,I⟩:=Zut lo hi its.toArray.size;unfold slicePick;rw[h1,h2,I];simp only[sliceRange_one,pick_run,Po] <;> rfl
def Zdc (K:Pi):V->Option Int->Option Int->Hp->VK->Prop:=λx lo hi H Q=>eX2 λa xs=>x=.ref a/\SqL K H a xs/\∀p,H p=none->Q (.ref p) (upd H p (.lst (Ca xs lo hi)))
def sl_list:SlR X (Zdc X.K):=by
 intro pins s σ H x v vl vu lo hi sl Q I Z Y pl pu h;obtain⟨a,xs,rfl,hx,q⟩:=h;cases Z;obtain⟨aa,r,U,hz⟩:=I.list hx;have O:=r.length;refine⟨"list",_,W0.lookup,U.isList.typeIs,?_⟩;refine wpAny_getItem_list_slice U.isList Y pl pu .none (by simp) ?_ (by rw[Po] <;> lia);rw[Zvk,<- O];refine⟨.ref s.heap.objs.size,_,I.laid (t':=s.toks) (o:=.lst (Ca xs lo hi)) (λb ob q=>Pp _ q) (Pm _) ?_,rfl,q _ (I.hok.fresh (Pm _))⟩;exact⟨P9 (Zfv xs lo hi) hz,_,0,(r.drop (HT.sIx xs.length 0 lo)).take (HT.sIx xs.length xs.length hi-HT.sIx xs.length 0 lo),P4 _ rfl⟩
noncomputable def Db:V->Bool
 |.non=>true
 |.bl _=>true
 |.int _=>true
 |.str _=>true
 |_=>false
noncomputable def Fi:V->V->Bool
 |.non,.non=>true
 |.bl a,.bl b=>a == b
 |.bl a,.int b=>(if a then 1 else 0) == b
 |.int a,.bl b=>a == (if b then 1 else 0)
 |.int a,.int b=>a == b
 |.str a,.str b=>a == b
 |_,_=>false
def Zbs (ry:RelV y u)(rx:RelV x v)(fy:Db y=true)(fx:Db x=true):P6 A s u v (Fi y x):=by
 cases y with
 |non =>
  cases ry;cases x with
  |non=>cases rx;exact W7 _
  |bl b=>cases rx;exact P6.none_bool b
  |int b=>obtain⟨t,rfl⟩:=rx;exact P6.none_int b t
  |str b=>obtain⟨t,rfl⟩:=rx;exact P6.none_str b t
  |_=>exact absurd (show false=true from fx) Pu
 |bl a =>
  cases ry;cases x with
  |non=>cases rx;exact P6.bool_none a
  |bl b=>cases rx;exact P6.bool_bool a b
  |int b=>obtain⟨t,rfl⟩:=rx;exact P6.bool_int a b t
  |str b=>obtain⟨t,rfl⟩:=rx;exact P6.bool_str a b t
  |_=>exact absurd (show false=true from fx) Pu
 |int a =>
  obtain⟨t',rfl⟩:=ry;cases x with
  |non=>cases rx;exact P6.int_none a t'
  |bl b=>cases rx;exact P6.int_bool a t' b
  |int b=>obtain⟨t,rfl⟩:=rx;exact P6.int_int a t' b t
  |str b=>obtain⟨t,rfl⟩:=rx;exact P6.int_str a t' b t
  |_=>exact absurd (show false=true from fx) Pu
 |str a =>
  obtain⟨t',rfl⟩:=ry;cases x with
  |non=>cases rx;exact P6.str_none a t'
  |bl b=>cases rx;exact P6.str_bool a t' b
  |int b=>obtain⟨t,rfl⟩:=rx;exact P6.str_int a t' b t
  |str b=>obtain⟨t,rfl⟩:=rx;exact P6.str_str a t' b t
  |_=>exact absurd (show false=true from fx) Pu
 |_=>exact absurd (show false=true from fy) Pu
noncomputable def Ef (x:V)(u:Value):Bool:=match u with
 |.none=>Fi .non x
 |.bool b=>Fi (.bl b) x
 |.int i _=>Fi (.int i) x
 |.str z _=>Fi (.str z) x
 |_=>false
def Zi9 (r:RelV y u)(f:Db y=true):Ef x u=Fi y x:=by
 cases y with
 |non=>cases r;rfl
 |bl b=>cases r;rfl
 |int i=>obtain⟨t,rfl⟩:=r;rfl
 |str z=>obtain⟨t,rfl⟩:=r;rfl
 |_=>exact absurd (show false=true from f) Pu
theorem Od:∀{xs:List V}{us:List Value},Vals xs us->xs.all Db=true->us.any (Ef x)=xs.any λy=>Fi y x
 |_,_,.nil,_=>rfl
 |y::xs,u::us,.cons r t,f=>by
  rw[Rq,R3]at f;rw[Uw,Uw,Zi9 r f.1,Od t f.2]
theorem N6 (rx:RelV x v)(fx:Db x=true):∀{xs:List V}{us:List Value},Vals xs us->xs.all Db=true->∀u∈us,P6 A s u v (Ef x u)
 |_,_,.nil,_=>λu hu=>by cases hu
 |y::xs,u::us,.cons r t,f=>λI hu=>by
  rw[Rq,R3]at f;rcases Ps.mp hu with rfl|hu
  ·rw[Zi9 r f.1];exact Zbs r rx f.1 fx
  ·exact N6 rx fx t f.2 I hu
noncomputable def Ff (x:V)(xs:List V):Bool:=xs.any λy=>Fi y x
def rIn (K:Pi)(neg:Bool):R2:=λx y H Q=>eX2 λp xs=>y=.ref p/\(SqL K H p xs\/SqT K H p xs)/\Db x=true/\xs.all Db=true/\Q (.bl (if neg then !Ff x xs else Ff x xs)) H
def op_in_seq:OpR X (compareOp .In) (rIn X.K false):=by
 intro pins s σ H x y v u Q I Z ry h;obtain⟨p,xs,rfl,U,fx,fs,q⟩:=h;cases ry;rcases U with U|U
 ·obtain⟨O,r,pl,hz⟩:=I.list U;refine SeqAt.in_listAt (Ef x) pl.isList (λw Y=>N6 Z fx r fs w (by simpa using Y)) ⟨.bl _,H,I,rfl,?_⟩;rw[show O.toArray.any (Ef x)=O.any (Ef x) by simp,Od r fs];exact q
 ·obtain⟨O,r,pl,hz⟩:=I.tuple U;refine SeqAt.in_tupleAt (Ef x) pl (λw Y=>N6 Z fx r fs w (by simpa using Y)) ⟨.bl _,H,I,rfl,?_⟩;rw[show O.toArray.any (Ef x)=O.any (Ef x) by simp,Od r fs];exact q
def op_notIn_seq:OpR X (compareOp .NotIn) (rIn X.K true):=by
 intro pins s σ H x y v u Q I Z ry h;obtain⟨p,xs,rfl,U,fx,fs,q⟩:=h;cases ry;rcases U with U|U
 ·obtain⟨O,r,pl,hz⟩:=I.list U;refine SeqAt.notIn_listAt (Ef x) pl.isList (λw Y=>N6 Z fx r fs w (by simpa using Y)) ⟨.bl _,H,I,rfl,?_⟩;rw[show O.toArray.any (Ef x)=O.any (Ef x) by simp,Od r fs];exact q
 ·obtain⟨O,r,pl,hz⟩:=I.tuple U;refine SeqAt.notIn_tupleAt (Ef x) pl (λw Y=>N6 Z fx r fs w (by simpa using Y)) ⟨.bl _,H,I,rfl,?_⟩;rw[show O.toArray.any (Ef x)=O.any (Ef x) by simp,Od r fs];exact q
def Zpm:C0 X (.type "list") (λxs H Q=>eX2 λp ys=>xs=[.ref p]/\(SqL X.K H p ys\/SqT X.K H p ys)/\∀l,H l=none->Q (.ref l) (upd H l (.lst ys))):=by
 intro pins s σ H xs us Q I r h;obtain⟨p,ys,rfl,hq,q⟩:=h;obtain⟨u,rfl,rx⟩:=Kk r;cases rx;have aa:∀(O:List Value),Vals ys O->ys.length<=sizeLine->∀(h':Heap)(Y:Nat),(∀b o',s.heap.get? b=some o'->h'.get? b=some o') ->
   h'.get? s.heap.objs.size=some { cls:=.type "list",dict:=none,data:=.seq O.toArray Y,slots:=#[] }->EP X pins σ Q (.ref s.heap.objs.size) { s with heap:=h' }:=λO U hz h' Y kp e =>
  ⟨.ref s.heap.objs.size,_,I.laid (t':=s.toks) kp (Pm _) (show ObjOk X.prog X.w _ h' _ (.lst ys) from⟨hz,O,Y,U,e⟩),rfl,q _ (I.hok.fresh (Pm _))⟩
 rcases hq with hq|hq
 ·obtain⟨O,U,pl,hz⟩:=I.list hq;have Z:=U.length;obtain⟨o,ho,hc,n,hd⟩:=pl.isList;exact call_list_seq p (.inl rfl) ho hc hd (λh' Y kp e=>aa O U hz h' Y kp e) (by simp only[Po] <;> lia)
 ·obtain⟨O,U,pl,hz⟩:=I.tuple hq;have Z:=U.length;obtain⟨o,ho,hc,n,hd⟩:=pl;exact call_list_seq p (.inr rfl) ho hc hd (λh' Y kp e=>aa O U hz h' Y kp e) (by simp only[Po] <;> lia)
def Zm9:C0 X (.type "tuple") (λxs H Q=>eX2 λp ys=>xs=[.ref p]/\((SqL X.K H p ys/\∀l,H l=none->Q (.ref l) (upd H l (.tup ys)))\/(SqT X.K H p ys/\Q (.ref p) H))):=by
 intro pins s σ H xs us Q I r h;obtain⟨p,ys,rfl,h⟩:=h;obtain⟨u,rfl,rx⟩:=Kk r;cases rx;rcases h with⟨U,q⟩|⟨U,q⟩
 ·obtain⟨O,Y,pl,hz⟩:=I.list U;have Z:=Y.length;refine call_tuple_list pl.isList (λh' kp=>?_) (by simp only[Po] <;> lia);have I1:Inv X pins σ H { s with heap:=h' }:=I.kept (t':=s.toks) kp;have I2:Inv X pins σ (upd H h'.objs.size (.tup ys)) { s with heap:=h'.push { cls:=.type "tuple",data:=.seq O.toArray } } :=
   I1.laid (t':=s.toks) (λb o e=>Pp _ e) (Pm _) (show ObjOk X.prog X.w _ _ _ (.tup ys) from⟨hz,O,Y,IsTup.new _ _⟩)
  exact⟨.ref h'.objs.size,_,I2,rfl,q _ (I1.hok.fresh (Pm _))⟩
 ·obtain⟨O,Y,pl,hz⟩:=I.tuple U;exact call_tuple_same pl ⟨.ref p,H,I,rfl,q⟩
def Ll (K:Pi)(T:String)(x:V)(H:Hp):Prop:=match x with
 |.str _=>T="str"
 |.int _=>T="int"
 |.ref p=>(T="list" /\ ∃xs,SqL K H p xs)\/(T="tuple" /\ ∃o,K.lookup p=some o/\o.cls=.type "tuple"/\o.dict=none) \/
   (T="dict"/\((∃kvs,H p=some (.dK kvs))\/∃kvs,H p=some (.dT kvs)))\/(T="set" /\ eX2 λS n=>H p=some (.set S n))
 |_=>False
def Zk8 (I:Inv X pins σ H s)(r:RelV x v)(ty:Ll X.K T x H) :
  s.TypeIs v T/\∀a,v=.ref a->∃ob,s.heap.get? a=some ob/\ob.dict=none:=by
 cases x with
 |str z =>
  obtain⟨t,rfl⟩:=r;cases (show T="str" from ty);exact⟨typeIs_str s z t,λ_ e=>nomatch e⟩
 |int i =>
  obtain⟨t,rfl⟩:=r;cases (show T="int" from ty);exact⟨typeIs_int s i t,λ_ e=>nomatch e⟩
 |ref p =>
  cases r;rcases ty with⟨rfl,xs,Z⟩|⟨rfl,o,O,Y,hd⟩|⟨rfl,O⟩|⟨rfl,S,n,O⟩
  ·obtain⟨aa,_,pl,_⟩:=I.list Z;refine⟨pl.isList.typeIs,λa e=>?_⟩;cases e;obtain⟨o,n,e,c,hd,_⟩:=pl;exact⟨o,e,hd⟩
  ·refine⟨⟨o,I.kIn p o O,Y⟩,λa e=>?_⟩;cases e;exact⟨o,I.kIn _ o O,hd⟩
  ·have z:∃o,s.heap.get? p=some o/\o.ExactDict:=by
    rcases O with⟨kvs,O⟩|⟨kvs,O⟩
    ·obtain⟨_,_,_,_,o,_,_,e,ex,_⟩:=I.hok p _ O;exact⟨o,e,ex⟩
    ·obtain⟨_,_,_,_,o,_,_,e,ex,_⟩:=I.hok p _ O;exact⟨o,e,ex⟩
   obtain⟨o,e,ex⟩:=z;refine⟨⟨o,e,ex.1⟩,λa U=>?_⟩;cases U;exact⟨o,e,ex.2.1⟩
  ·obtain⟨o,_,_,_,e,ex,_⟩:=I.hok p _ O;refine⟨⟨o,e,ex.1⟩,λa U=>?_⟩;cases U;exact⟨o,e,ex.2.1⟩
 |_=>exact Qp ty
def Pf (K:Pi)(T:String)(r:V->List V->Hp->VK->Prop)(to:TE):TE:=λσ H Q=>to σ H λx H1=>Ll K T x H1/\r x [] H1 Q
def tBM (K:Pi)(T:String)(r:V->List V->Hp->VK->Prop)(to:TE)(t:TA):TE:=λσ H Q=>to σ H λx H1=>Ll K T x H1/\t σ H1 λxs H2=>r x xs H2 Q
variable {o e:Expr}{es:List Expr}{to:TE}{t:TA}{name:Str}{apos cpos:Pos}{T id:String}{r:V->List V->Hp->VK->Prop}
end
def MtM (X:Cx)(id:String)(r:V->List V->Hp->VK->Prop):Prop :=
 ∀(pins:List (Addr×Obj))(s:Shared)(σ:St)(H:Hp)(x:V)(xs:List V)(v:Value)(us:List Value)(Q:VK),Inv X pins σ H s->RelV x v->Vals xs us->r x xs H Q ->
  wpAny (model X.prog X.w) X.A (call (.builtin id) (v::us)) (EP X pins σ Q) X.xe s
def Vals.one:∀{x:V}{us:List Value},Vals [x] us->∃u,us=[u]/\RelV x u
 := λh=>by
 cases h with
 |cons r t =>
 cases t;exact⟨_,rfl,r⟩
def Vals.two:∀{x y:V}{us:List Value},Vals [x,y] us->eX2 λu v=>us=[u,v]/\RelV x u/\RelV y v
 := λh=>by
 cases h with
 |cons r t =>
 cases t with
 |cons q z =>
 cases z;exact⟨_,_,rfl,r,q⟩
theorem Vals.zero:∀{us:List Value},Vals [] us->us=[]
 |_,.nil=>rfl
def Vals.dropLast (h:Vals xs us):Vals xs.dropLast us.dropLast:=by
 induction h with
 |nil=>exact .nil
 |cons r t I =>
  cases t with
  |nil=>exact .nil
  |cons q t'=>exact .cons r I
theorem Vals.rep (h:Vals xs us):∀k:Nat,Vals (Qw k xs).flatten (Qw k us).flatten
 |0=>.nil
 |k+1=>by
  rw[Uh,Uh,Vn,Vn];exact Vals.append h (Vals.rep h k)
def Zv0 {α:Type}(l:List α):l.eraseIdx (l.length-1)=l.dropLast:=by
 induction l with
 |nil=>rfl
 |cons a r I =>
  cases r with
  |nil=>rfl
  |cons b r =>
   have e:(a::b::r).length-1=((b::r).length-1)+1:=by
    have h1:(a::b::r).length=r.length+2:=rfl;have h2:(b::r).length=r.length+1:=rfl;lia
   rw[e,List.eraseIdx_cons_succ,I]
   all_goals rfl
theorem Zjh (its:List Value):∀(k:Nat)(acc:List Value),
  List.foldl (λx1 x2=>x1++x2) acc.toArray (Qw k its.toArray)=(acc++(Qw k its).flatten).toArray
 |0,acc=>by simp
 |k+1,acc=>by
  have e:acc.toArray++its.toArray=(acc++its).toArray:=by simp
  have I:(acc++its)++(Qw k its).flatten=acc++(Qw (k+1) its).flatten:=by
   rw[Uh,Vn,Qd]
  rw[<- I,<- Zjh its k (acc++its),<- e,Uh,List.foldl_cons]
section
variable {X:Cx}{pins:List (Addr×Obj)}{σ:St}{H:Hp}{s:Shared}{l b:Addr}{xs ys zs:List V}
def Inv.lset {its its':List Value}{n:Nat}{f:Array Value->Array Value}{t':Nat}(I:Inv X pins σ H s)(hH:H l=some (.lst xs))
  (e:s.heap.get? l=some { cls:=.type "list",data:=.seq its.toArray n }) (hf:f its.toArray=its'.toArray) (hv:Vals ys its') (hz:ys.length<=sizeLine) :
  Inv X pins σ (upd H l (.lst ys)) { s with heap:=s.heap.update l (Qy f),toks:=t' }:=by
 have q:=PySem.IsL.update e f;rw[hf]at q;refine I.write (x:=l) (e:=l) (by rw[hH];exact trivial) (.inl rfl) (λO u hb hu=>(Re s.heap (Qy f) (Px hb)).trans hu) ⟨_,q⟩ ?_;exact⟨hz,its',_,hv,q⟩
def Inv.lnew (I:Inv X pins σ H s)(hv:Vals ys its)(hz:ys.length<=sizeLine) :
  Inv X pins σ (upd H s.heap.objs.size (.lst ys)) { s with heap:=s.heap.push { cls:=.type "list",data:=.seq its.toArray },toks:=t' } :=
 I.laid (λ_ _ q=>Pp _ q) (Pm _) ⟨hz,its,0,hv,P4 _ rfl⟩
def Inv.fresh (I:Inv X pins σ H s):H s.heap.objs.size=none:=I.hok.fresh (Pm _)
def Inv.lstM (I:Inv X pins σ H s)(hH:H l=some (.lst xs)):xs.length<=sizeLine/\eX2 λ(its:List Value)(n:Nat)=>Vals xs its/\xs.length=its.length/\s.heap.get? l=some { cls:=.type "list",data:=.seq its.toArray n }:=by
 obtain⟨z,its,n,r,e⟩:=I.hok l _ hH;exact⟨z,its,n,r,r.length,e⟩
def Zh8 (h:n<=sizeLine):Va n=false:=by
 unfold Va;exact dI (by lia)
end
section
variable {X:Cx}
def Zib:V->List V->Hp->VK->Prop:=λx vs H Q=>eX3 λl xs y=>x=.ref l/\vs=[y]/\H l=some (.lst xs)/\xs.length<sizeLine/\Q .non (upd H l (.lst (xs++[y])))
def Cy:MtM X "list.append" Zib:=by
 intro pins s σ H x vs v us Q I Y Z h;obtain⟨l,xs,y,rfl,rfl,U,hz,q⟩:=h;cases Y;obtain⟨u,rfl,ru⟩:=Z.one;obtain⟨z,O,n,r,hl,e⟩:=I.lstM U;refine Td F.slot_list_append ⟨_,e,rfl⟩ F.entry_list_append (F.args_list_append_2 _ _) (PySem.list_append l O.toArray n u (by rw[Po];lia)) ⟨e,?_⟩;refine⟨.non,_,I.lset (its':=O++[u]) U e (by simp) (r.append (.cons ru .nil)) ?_,rfl,q⟩;rw[Pn,Pz];lia
def Zwp:V->List V->Hp->VK->Prop:=λx vs H Q=>eX4 λl b xs zs=>x=.ref l/\vs=[.ref b]/\H l=some (.lst xs)/\H b=some (.lst zs)/\xs.length+zs.length<=sizeLine/\Q .non (upd H l (.lst (xs++zs)))
def Zb4:MtM X "list.extend" Zwp:=by
 intro pins s σ H x vs v us Q I rx rv h;obtain⟨l,b,xs,zs,rfl,rfl,hH,hB,hz,q⟩:=h;cases rx;obtain⟨u,rfl,ru⟩:=rv.one;cases ru;obtain⟨z,U,n,r,hl,e⟩:=I.lstM hH;obtain⟨z2,O,n2,r2,aa,e2⟩:=I.lstM hB;have Z:U.toArray.size+O.toArray.size<=sizeLine:=by rw[Po,Po];lia
 have Y:¬(!U.toArray.isEmpty && Va (U.toArray.size+O.toArray.size))=true:=by
  rw[Zh8 Z,Bool.and_false];exact Pu
 refine Td F.slot_list_extend ⟨_,e,rfl⟩ F.entry_list_extend (F.args_list_extend_2 _ _)
  (AutoSeq1.list_extend_list_list_0 l U.toArray n b O.toArray n2 Y (by rw[Po];lia) (by lia)) ⟨e,e2,?_⟩
 refine⟨.non,_,I.lset (its':=U++O) hH e (by simp) (r.append r2) ?_,rfl,q⟩;rw[Pn];lia
def rPop:V->List V->Hp->VK->Prop:=λx vs H Q=>eX3 λl xs y=>x=.ref l/\vs=[]/\H l=some (.lst xs)/\xs[xs.length-1]?=some y/\Q y (upd H l (.lst xs.dropLast))
def Ol:MtM X "list.pop" rPop:=by
 intro pins s σ H x vs v us Q I rx rv h;obtain⟨l,xs,y,rfl,rfl,Z,hy,q⟩:=h;cases rx;have U:=rv.zero;subst U;obtain⟨z,O,n,r,hl,e⟩:=I.lstM Z;obtain⟨u,hu,ru⟩:=r.get hy;have Y:O.toArray[O.toArray.size-1]?=some u:=by
  show O.toArray[O.length-1]?=some u;rw[<- Array.getElem?_toList,<- hl];exact hu
 refine Td F.slot_list_pop ⟨_,e,rfl⟩ F.entry_list_pop (F.args_list_pop_1 _) (MeetsSeq.list_pop_last l O.toArray n u Y (by rw[Po];lia)) ⟨e,?_⟩;refine⟨y,_,I.lset (its':=O.dropLast) Z e ?_ r.dropLast ?_,ru,q⟩
 ·show O.toArray.eraseIdxIfInBounds (O.toArray.size-1)=O.dropLast.toArray;rw[Po,List.eraseIdxIfInBounds_toArray,Zv0]
 ·rw[List.length_dropLast];lia
def rCat:R2:=λx y H Q=>eX4 λl b xs zs=>x=.ref l/\y=.ref b/\H l=some (.lst xs)/\H b=some (.lst zs)/\xs.length+zs.length<=sizeLine/\∀p,H p=none->Q (.ref p) (upd H p (.lst (xs++zs)))
def op_cat:OpR X (binaryOp .Add) rCat:=by
 intro pins s σ H x y v u Q I Z ry h;obtain⟨l,b,xs,zs,rfl,rfl,hH,hB,hz,q⟩:=h;cases Z;cases ry;obtain⟨z,U,n,r,hl,e⟩:=I.lstM hH;obtain⟨z2,O,n2,r2,aa,e2⟩:=I.lstM hB;refine PySem.P.add_list e e2 ?_ (by rw[Po,Po];lia);have Y:U.toArray++O.toArray=(U++O).toArray:=by simp
 rw[Y];exact⟨.ref _,_,I.lnew (t':=s.toks) (r.append r2) (by rw[Pn];lia),rfl,q _ I.fresh⟩
def rRep:R2:=λx y H Q=>eX3 λl k xs=>x=.ref l/\y=.int k/\H l=some (.lst xs)/\-(2 ^ 63)<=k/\k<2 ^ 63/\xs.length*k.toNat<=sizeLine /\
 ∀p,H p=none->Q (.ref p) (upd H p (.lst (Qw k.toNat xs).flatten))
def Ztw {α:Type}(xs:List α)(k:Nat):(Qw k xs).flatten.length=k*xs.length:=by
 induction k with
 |zero=>simp
 |succ k I=>rw[Uh,Vn,Pn,I,Nat.succ_mul,Nat.add_comm]
def Zsi:OpR X (binaryOp .Mult) rRep:=by
 intro pins s σ H x y v u Q I rx ry h;obtain⟨l,k,xs,rfl,rfl,hH,h1,h2,hz,q⟩:=h;cases rx;obtain⟨t,rfl⟩:=ry;obtain⟨z,O,n,r,hl,e⟩:=I.lstM hH;have Z:O.toArray.size*k.toNat<=sizeLine:=by rw[Po,<- hl];exact hz
 have ad:¬O.toArray.size*k.toNat > (2 ^ 63-1) / 8:=by
  have:(sizeLine:Nat)<=(2 ^ 63-1) / 8:=by decide
  lia
 have ac:¬(!Builtin.List.listFitsIndex k)=true:=by
  rw[fitsIndex_both h1 h2];exact Pu
 have Y:¬Va (O.toArray.size*k.toNat)=true:=by
  rw[Zh8 Z];exact Pu
 have aa:List.foldl (λx1 x2=>x1++x2) #[] (Qw (if O.toArray.isEmpty=true then 0 else k.toNat) O.toArray)=(Qw k.toNat O).flatten.toArray:=by
  have f0:∀m:Nat,List.foldl (λx1 x2=>x1++x2) #[] (Qw m O.toArray)=(Qw m O).flatten.toArray:=λm=>by
   have:=Zjh O m [];rw[Q6]at this;exact this
  rw[f0];cases O with
  |nil=>simp
  |cons a r'=>rw[if_neg (by simp)]
 refine wpAny_binaryOp_repeat_ref (T:="list") (U:="int") (by decide) ⟨_,e,rfl⟩ (λs'=>typeIs_int s' k t) noFill_list_mul F.fills_int_mul F.slot_int_rmul repeat_list F.slot_int_index.lookup
  (Td F.slot_int_rmul (typeIs_int s k t) F.entry_int_rmul (F.args_int_rmul_2 _ _) (int___rmul___int_list k t l O.toArray n)
   ⟨e,rfl,⟨_,e,rfl⟩,Td F.slot_list_mul ⟨_,e,rfl⟩ F.entry_list_mul (F.args_list_mul_2 _ _) (AutoListH.list___mul___list_int_3 l O.toArray n k t ac ad Y) ⟨e,?_⟩⟩)
 rw[aa];exact⟨.ref _,_,I.lnew (t':=s.toks) (r.rep k.toNat) (by rw[Ztw,Nat.mul_comm];exact hz),rfl,q _ I.fresh⟩
end
section
variable {prog:Program}{w:World}{A:Around}{E:Value->Shared->Prop}{s:Shared}
end
section
variable {X:Cx}
end
end L2
namespace Att
open PySem PySem.W PySem.Calls PyProof.Rows
theorem Zw0:∀(ns:List Int)(vs:List Value),WellAll P h vs (ns.map WData.int)->IntsAre vs ns:=by
 intro ns
 induction ns with
 |nil =>
  intro vs w;rw[Uy]at w;cases w;exact .nil
 |cons n ns I =>
  intro vs w;rw[Qr]at w;cases w with
  |cons a b =>
   cases a;exact .cons _ _ (I _ b)
theorem Zsl {l:OpenLaw}{n:Nat}(hn:l.most=some n){P:Params}{h:Heap}{args:List WData}{vals:List Value}
  (hpre:l.row.toRowW.claim.pre args=true) (hwl:WellAll P h vals args) :
  eX3 λa vs ns=>vals=[Value.ref a]/\args=[WData.list (ns.map WData.int)]/\h.get? a=some { cls:=.type "list",data:=.seq vs.toArray }/\IntsAre vs ns/\ns.length<=n:=by
 have Y:WShape.hasAll [] args [.list .int]=true:=(pre_splitW hpre).1;have Z:l.pre.holds [] { args:=args }=true:=(pre_splitW hpre).2;obtain⟨d,r,rfl,h1,h2⟩:=hasAllW_cons Y;obtain rfl:=hasAllW_nil h2;obtain⟨xs,rfl,h3⟩:=hasW_list h1;obtain⟨ns,rfl⟩:=items_int h3;have O:ns.length<=n:=by
  unfold OpenLaw.pre at Z;have U:(WTm.not (.lt (.lit (.int (n:Int))) (.len (.arg 0)))).holds [] { args:=[.list (ns.map .int)] }=true:=by
   have U:=(holds_andW Z).1;rw[hn]at U;exact U
  have h5:=condW_of U (w_not (w_lt w_lit (w_len_list (w_arg rfl))));rw[Pq]at h5;refine Nat.le_of_not_lt λq=>?_;have q':(n:Int)<((ns.length:Nat):Int):=by lia
  first
   | (rw[dH q']at h5;exact absurd h5 (by decide))
   | (simp at h5;lia)
 cases hwl with
 |cons w1 w2 =>
  cases w2;cases w1 with
  |list ho I=>exact⟨_,_,ns,rfl,rfl,ho,Zw0 ns _ I,O⟩
theorem Znc (l:OpenLaw)(args:List WData):l.row.toRowW.claim.post args (.bool true) args=true :=
 postW_of (r:=l.row.toRowW) (X:=(true == true))
  (show WShape.has [] (.bool true) .bool=true by first|rfl|decide|simp[WShape.has,WShape.arms,WShape.armsAll])
  (show(WTm.eq .res (.lit (.bool true))).value [] { args:=args,res:=some (.bool true),after:=args }=some (.bool (true == true)) from w_eq_bool (w_res rfl) w_lit) rfl
theorem attach_call {l:OpenLaw}{n:Nat}{q:Program}{loose:List Str}{XP:(Str->Option Value)->Heap->Prop}{YP:World->Heap->Prop}{d:DefRec}
  (hn:l.most=some n) (hdf:d.params.defaults=[])
  (call:∀(w:World)(s₀ s₁:Shared)(mg mb:Str->Option Value)(fa:Addr)(o:Obj)(pm cd doc:Value)(a:Addr)(vs:List Value)(ns:List Int),
   Ground q loose [] XP w s₀ mg mb s₁.heap->YP w s₁.heap ->
   s₁.heap.get? fa=some o->o.data=.func (docDef d.name d.params d.body d.scope pm cd doc)->s₁.heap.CodeRec cd d.name->mg d.name=some (.ref fa) ->
   s₁.heap.get? a=some { cls:=.type "list",data:=.seq vs.toArray }->IntsAre vs ns->ns.length<=n->s₁.gens=#[] ->
   codeAny (model l.prog w) callerA (.call (.ref fa) ⟨[.ref a],[]⟩) (λr s'=>r=.ok (.ret (.bool true))/\OldK s₁.heap s'.heap/\s'.os=s₁.os/\AllBare s'.gens) s₁) :
  WalkO q loose XP YP l.row.toRowW d [] (λf vs=>PySem.call f vs):=by
 intro w s₀ s₁ mg mb G Y fa o pm cd doc dV kV ho hd ad hD aa hg ag af as U ae ah ac ai;obtain rfl:dV=.none:=Dflts.none hD hdf;obtain rfl:kV=.none:=Dflts.noKw hD;obtain⟨a,vs,ns,rfl,rfl,Z,I,O⟩:=Zsl hn U ac;refine enter_call (Tx (call w s₀ s₁ mg mb fa o pm cd doc a vs ns G Y ho (fd_plain hd) ad aa Z I O hg) λr s' hq=>?_);obtain⟨rfl,h2,h3,h4⟩:=hq;exact⟨.inl ⟨.bool true,.bool true,[],rfl,λ_=>rfl,.bool true,Znc l _,λ_=>⟨List.Pairwise.nil,λ_ hm=>(nomatch hm)⟩⟩,h2,h3,h4⟩
section
variable {prog:Program}{w:World}{A:Around}{E:Value->Shared->Prop}{s:Shared}{K:Frag}
end
end Att
namespace L2
open PySem PySem.Spec PyProof.Rows
theorem Zjt:∀{vs:List Value}{ns:List Int},IntsAre vs ns->Vals (ns.map V.int) vs
 |_,_,.nil=>.nil
 |_,_,.cons n t h=>.cons ⟨t,rfl⟩ (Zjt h)
def Zdl (H:Hp):Prop:=∀b,H b=none\/eX2 λo xs=>H b=some (.frz o (.lst xs))
def Zsa {P:Program}{w:World}{K:Pi}{mg mb:Str->Option Value}{CX:C3}{k:Nat}{fa a:Addr}{fd:FuncData}{x:Str}{sp:Sp}{s₁:Shared}{vs:List Value}{ns:List Int}
  (KX:K.In s₁.heap) (hns:s₁.heap.Ns mainGlobals mg) (hb:s₁.heap.Ns builtinsNs mb) (hbb:∀x:Str,x≠"__name__" -> mb x=bootBuiltins x) (hlim:s₁.heap.NoLimit) (hg:s₁.gens=#[])
  (ha:s₁.heap.get? a=some { cls:=.type "list",data:=.seq vs.toArray }) (hi:IntsAre vs ns) (hl:ns.length<=sizeLine) (hr:Room k callerA)
  (F:∀base:Heap,K.In base->base.Ns mainGlobals mg->FnOk P w K mg base CX k fa fd [x] sp) (hbind:∀(s:Shared)(u:Value),BindsTo s fd ⟨[u],[]⟩ [(x,u)])
  (hsp:∀H:Hp,Zdl H->SqL K H a (ns.map V.int)->sp [.ref a] H (λv _=>v=.bl true) λ_ _ _=>False)
  (hCX:∀H e s',CX [] H s₁ (λ_ _ _=>False) e s'->False) :
  codeAny (model P w) callerA (.call (.ref fa) ⟨[.ref a],[]⟩) (λr s'=>r=.ok (.ret (.bool true))/\OldK s₁.heap s'.heap/\s'.os=s₁.os/\AllBare s'.gens) s₁:=by
 have rv:=Zjt hi;have ac:=hi.length;have U:∀H:Hp,Zdl H->SqL K H a (ns.map V.int)->HOk P w H s₁.heap->(∀b,H b≠none->b=a)->(H a≠none->K.lookup a=none) ->
   codeAny (model P w) callerA (.call (.ref fa) ⟨[.ref a],[]⟩) (λr s'=>r=.ok (.ret (.bool true))/\OldK s₁.heap s'.heap/\s'.os=s₁.os/\AllBare s'.gens) s₁:=by
  intro H hO hS hok hA hK;have I:∀{b:Addr}{o:Obj},s₁.heap.get? b=some o->H b=none->(Hc s₁.heap H).get? b=some o:=λe n=>Zqh e n;have ad:∀{b:Addr}{o:Obj}{es:Array DictEntry}{ep:Nat},s₁.heap.get? b=some o->o.data=.dict es ep->H b=none:=λ{b o es ep} e d=>by
   cases q:H b with
   |none=>rfl
   |some u =>
    have e':b=a:=hA b (by rw[q];simp);subst e';rw[ha]at e;cases e;have d':Data.seq vs.toArray _=Data.dict es ep:=d;cases d'
  have O:∀{b:Addr}{m:Str->Option Value},s₁.heap.Ns b m->(Hc s₁.heap H).Ns b m:=λ{b m} ⟨o,es,ep,e,d,r⟩=>⟨o,es,ep,I e (ad e d),d,r⟩;have aa:K.In (Hc s₁.heap H):=λb o e=>I (KX b o e) (by
   cases q:H b with
   |none=>rfl
   |some u =>
    have e':b=a:=hA b (by rw[q];simp);subst e';rw[hK (by rw[q];simp)]at e;cases e)
  have hM:Mod K mg (Hc s₁.heap H):=⟨aa,O hns,⟨mb,O hb,hbb⟩,let ⟨mc,h1,h2⟩:=hlim;⟨mc,O h1,h2⟩⟩;have e0:Env0 P w K mg (Hc s₁.heap H) callerA [] s₁ H:=⟨rfl,hM,λb o e=>Zst e,Nat.le_of_eq (Zoy _ _),trivial,λb hb=>absurd (show b∈([]:List Addr) from hb) (by simp),hok,.of_eq hg⟩;refine Tx ((F _ aa (O hns)).run callerA [] s₁ H ⟨[.ref a],[]⟩ [.ref a] [.ref a] _ _ hr e0 (hbind s₁ (.ref a)) (.cons rfl .nil) (hsp H hO hS)) λr s' h=>?_;cases r with
  |error e=>exact(hCX H e s' h).elim
  |ok fl =>
   cases fl with
   |next=>exact Qp h
   |brk=>exact Qp h
   |cont=>exact Qp h
   |ret u =>
    obtain⟨v,H',os,bare,un,Y,r',q⟩:=h;have q':v=.bl true:=q;subst q';obtain rfl:u=Value.bool true:=r';refine⟨rfl,OldK.of_keep λb o e=>?_,os,bare⟩;cases q:H b with
    |none=>exact un.keep b o e q (by intro z;exact absurd (show b∈([]:List Addr) from z) (by simp)) (by simp)
    |some u =>
     rcases hO b with z|⟨ob,xs,z⟩
     ·rw[q]at z;cases z
     ·have z2:=un.frzs b ob _ z;obtain⟨e1,_⟩:=hok b _ z;obtain⟨e2,_⟩:=Y b _ z2;rw[e]at e1;cases e1;exact e2
 cases hk:K.lookup a with
 |some o =>
  have e:=KX a o hk;rw[ha]at e;cases e;refine U (λ_=>none) (λ_=>.inl rfl) (.inr ⟨_,vs.toArray,_,hk,rfl,rfl,rfl,by rw[Po,ac];exact hl,by simpa using rv⟩) (λb u z=>by have Z:(none:Option HO)=some u:=z;cases Z) (λb z=>absurd rfl z) λz=>absurd rfl z
 |none =>
  refine U (λb=>if b=a then some (.frz { cls:=.type "list",data:=.seq vs.toArray } (.lst (ns.map V.int))) else none) (λb=>?_) (.inl (.inr ⟨{ cls:=.type "list",data:=.seq vs.toArray },if_pos rfl⟩)) (λb u z=>?_) (λb z=>?_) λ_=>hk
  ·by_cases hb:b=a
   ·exact .inr ⟨_,_,if_pos hb⟩
   ·exact .inl (if_neg hb)
  ·by_cases hb:b=a
   ·have Z:=(if_pos hb).symm.trans z;cases Z;subst hb;exact⟨ha,by rw[Pq];exact hl,vs,_,rv,ha⟩
   ·have Z:=(if_neg hb).symm.trans z;cases Z
  ·by_cases hb:b=a
   ·exact hb
   ·exact absurd (if_neg hb) z
def walk_of {l:W8}{n k:Nat}{q:Program}{loose:List Str}{XP:(Str->Option Value)->Heap->Prop}{YP:World->Heap->Prop}{d:DefRec}{K:Params->Pi}{CX:World->C3}{sp:World->Sp}{x:Str}
  (hn:l.most=some n) (hn2:n<=sizeLine) (hdf:d.params.defaults=[]) (hr:Room k callerA)
  (hY:∀(w:World)(h:Heap),YP w h->(K w.params).In h)
  (F:∀(w:World)(mg:Str->Option Value)(fa:Addr)(h:Heap),(K w.params).In h->h.Ns mainGlobals mg->mg d.name=some (.ref fa) ->
   ∃fd:FuncData,(∀(s:Shared)(u:Value),BindsTo s fd ⟨[u],[]⟩ [(x,u)]) /\
    ∀base:Heap,(K w.params).In base->base.Ns mainGlobals mg->FnOk l.prog w (K w.params) mg base (CX w) k fa fd [x] (sp w))
  (hsp:∀(w:World)(H:Hp)(a:Addr)(ns:List Int),ns.length<=n->Zdl H->SqL (K w.params) H a (ns.map V.int)->sp w [.ref a] H (λv _=>v=.bl true) λ_ _ _=>False)
  (hCX:∀(w:World)(H:Hp)(s:Shared)(e:Value)(s':Shared),CX w [] H s (λ_ _ _=>False) e s'->False) :
  PySem.W.WalkO q loose XP YP l.row.toRowW d [] (λf vs=>PySem.call f vs):=by
 refine Att.attach_call hn hdf λw s₀ Z mg mb fa o pm cd ac a vs ns G Y ho hd ad aa U O I hg=>?_;have KX:=hY w _ Y;obtain⟨fd,hb,hF⟩:=F w mg fa _ KX G.T.g aa;exact Zsa KX G.T.g G.T.b G.T.builtins G.T.nolimit hg U O (P9 I hn2) hr hF hb (λH hO hS=>hsp w H a ns I hO hS) λH e s'=>hCX w H Z e s'
noncomputable def Iq (s:Stmt):Arguments:=match s with
 |.FunctionDef _ a _ _ _ _ _ _ _ _=>a
 |_=>{ posonlyargs:=[],args:=[],vararg:=none,kwonlyargs:=[],kw_defaults:=[],kwarg:=none,defaults:=[] }
noncomputable def Gh (s:Stmt):List Stmt:=match s with
 |.FunctionDef _ _ b _ _ _ _ _ _ _=>b
 |_=>[]
noncomputable def A7 (s:Stmt):Scope:=match s with
 |.FunctionDef _ _ _ _ _ _ I _ _ _=>I
 |_=>{ kind:=.function,names:=[],isGenerator:=false,isCoroutine:=false }
noncomputable abbrev As:C3:=λ_ _ _ _ _ _=>False
noncomputable abbrev E0:XK:=λ_ _ _=>False
def Dy:G3 As X E0:=λ_ _ _ _ _ _ _ h=>h.elim
structure Fun (K:Pi)(x qual:Str)(st:Stmt)(f:Addr)(fd:FuncData):Prop where
 ex:∃(oc:Value)(od:Option Addr)(kV doc pm:Value)(an:Option Addr)(cdv ct:Value)(osl:Array (Option Value)),
  fd=Sk x qual (Iq st) (Gh st) (A7 st) .none kV doc pm an cdv ct/\K.lookup f=some ⟨oc,od,.func fd,osl⟩/\PySem.W.codeIn K cdv qual=true
 kp:Ro K (.ref f)=true
section
variable {P:Program}{w:World}{K:Pi}{mg:Str->Option Value}{base:Heap}
def Fun.ok {x qual:Str}{st:Stmt}{f:Addr}{fd:FuncData}{N ps:List Str}{k:Nat}{sp:Sp}(F:Fun K x qual st f fd)(S:Bc N ps (A7 st))(len:∀vs H Q E,sp vs H Q E->vs.length=ps.length)
  (hbody:∀(cdv:Value)(A:Around)(outer:List Env)(s:Shared)(H:Hp)(vs:List V)(Q:VK)(E:XK),Room k (A.deeper (envOfC qual (A7 st) s.heap.objs.size f cdv))->sp vs H Q E ->
   ∃t,PSs (Fp As P w K mg base N qual (A7 st) f cdv A outer s H E).nox (Gh st) t/\t { nx:=λ_ H'=>Q .non H',rt:=Q } (Gq N vs) H):FnOk P w K mg base As (k+1) f fd ps sp:=by
 obtain⟨oc,od,kV,aa,pm,an,cdv,ct,Z,rfl,Y,O⟩:=F.ex;refine Zkq Y O S len λA outer s H vs Q E U I=>?_;obtain⟨t,h,q⟩:=hbody cdv A outer s H vs Q E U I;exact⟨t,h.nox,q⟩
def Fun.binds {x qual:Str}{st:Stmt}{f:Addr}{fd:FuncData}{ps:List Str}(F:Fun K x qual st f fd)
  (h:∀(kV doc pm:Value)(an:Option Addr)(cdv ct:Value)(us:List Value),us.length=ps.length->bindArgs (Sk x qual (Iq st) (Gh st) (A7 st) .none kV doc pm an cdv ct) ⟨us,[]⟩=pure (ps.zip us)):Binds K fd ps []:=by
 obtain⟨Y,od,kV,doc,pm,an,cdv,ct,I,rfl,U,O⟩:=F.ex;exact .all (h kV doc pm an cdv ct)
def fun_mk {x qual:Str}{st:Stmt}{f:Addr}{oc:Value}{od an:Option Addr}{osl:Array (Option Value)}{kV doc pm cdv ct:Value}(l:K.lookup f=some ⟨oc,od,.func (Sk x qual (Iq st) (Gh st) (A7 st) .none kV doc pm an cdv ct),osl⟩)
  (c:PySem.W.codeIn K cdv qual=true) (k:Ro K (.ref f)=true):Fun K x qual st f (Sk x qual (Iq st) (Gh st) (A7 st) .none kV doc pm an cdv ct):=⟨⟨oc,od,kV,doc,pm,an,cdv,ct,osl,rfl,l,c⟩,k⟩
end
section
variable {X:Cx}
end
def iteF {A B:Prop}(h:B):if false=true then A else B:=by
 rw[if_neg Pu];exact h
def iteT {A B:Prop}(h:A):if true=true then A else B:=by
 rw[if_pos rfl];exact h
def Bf {c A B:Prop}[Decidable c](h1:c->A)(h2:¬c->B):if c then A else B:=by
 by_cases h:c
 ·rw[if_pos h];exact h1 h
 ·rw[if_neg h];exact h2 h
def Same (H H':Hp):Prop:=∀b o,H b=some o->H' b=some o
def Same.refl (H:Hp):Same H H:=λ_ _ h=>h
def Same.trans (a:Same H H1)(b:Same H1 H2):Same H H2:=λc o h=>b c o (a c o h)
def Same.free (e:Same H H')(h:H' l=Option.none):H l=Option.none:=by
 cases q:H l with
 |none=>rfl
 |some o =>
  rw[e l o q]at h;cases h
def Same.seq {K:Pi}{H H':Hp}{a:Addr}{xs:List V}(e:Same H H')(h:SqL K H a xs):SqL K H' a xs:=by
 rcases h with(h|⟨o,h⟩)|h
 ·exact .inl (.inl (e _ _ h))
 ·exact .inl (.inr ⟨o,e _ _ h⟩)
 ·exact .inr h
end L2
set_option maxHeartbeats 8000000
namespace L2
open PySem PySem.Spec PyProof.Rows
noncomputable def E7 (env:Env):List (Str×NameKind)->List (Str×Addr)->List (Str×Addr)
 |[],I=>I
 | (n,k)::r,I=>E7 env r (if k == .free then (match env.cells.lookup n with|some a=>(n,a)::I|none=>I) else I)
theorem Zdd:∀{ns:List (Str×NameKind)}{acc:List (Str×Addr)}{x:Str}{c:Addr},(∀x c,acc.lookup x=some c->env.cells.lookup x=some c)->(E7 env ns acc).lookup x=some c->env.cells.lookup x=some c
 |[],acc,x,c,h,e=>h x c e
 | (n,k)::r,acc,x,c,h,e=>by
  refine Zdd (ns:=r) ?_ e;intro y d;split
  ·split
   ·rename_i a U;intro q;rw[Sf]at q;split at q
    ·rename_i O;have I:y=n:=by simpa using O
     subst I;rw[U];exact q
    ·exact h y d q
   ·exact h y d
  ·exact h y d
theorem Zkt:∀{ns:List (Str×NameKind)}{acc:List (Str×Addr)}{x:Str},(acc.lookup x).isSome=true->((E7 env ns acc).lookup x).isSome=true
 |[],acc,x,h=>h
 | (n,k)::r,acc,x,h=>by
  refine Zkt (ns:=r) ?_;split
  ·split
   ·rw[Sf];split
    ·rfl
    ·exact h
   ·exact h
  ·exact h
theorem Zkx:∀{ns:List (Str×NameKind)}{acc:List (Str×Addr)}{x:Str},(x,NameKind.free)∈ns->(env.cells.lookup x).isSome=true->((E7 env ns acc).lookup x).isSome=true
 |[],acc,x,h,_=>by cases h
 | (n,k)::r,acc,x,h,I=>by
  rcases Ps.mp h with e|e
  ·cases e;refine Zkt (ns:=r) ?_;obtain⟨a,O⟩:=Sq.mp I;rw[if_pos (by rfl),O];show(R4 n ((n,a)::acc)).isSome=true;rw[Sf];simp
  ·exact Zkx (ns:=r) e I
def Zj1 (h:∀x∈scope.names,x.2=.free->(env.cells.lookup x.1).isSome=true):closureFor scope env=pure (E7 env scope.names []):=by
 have all:∀(ns:List (Str×NameKind))(I:List (Str×Addr)),(∀x∈ns,x.2=.free->(env.cells.lookup x.1).isSome=true) ->
   (forIn ns I λ(x:Str×NameKind) (cs:List (Str×Addr))=>(if (x.2 == NameKind.free)=true then do let a <- cellOf env x.1;pure (ForInStep.yield ((x.1,a)::cs)) else pure (ForInStep.yield cs):Sem (ForInStep (List (Str×Addr)))))=pure (E7 env ns I):=by
  intro ns
  induction ns with
  |nil=>intro I _;rfl
  |cons x r ih =>
   intro I hx;obtain⟨n,k⟩:=x;rw[Ur];by_cases U:(k == NameKind.free)=true
   ·obtain⟨a,Y⟩:=Sq.mp (hx (n,k) Uj (by simpa using U));have Y:env.cells.lookup n=some a:=Y;have O:cellOf env n=pure a:=by unfold cellOf;rw[Y]
    simp only[U,if_true,O];refine Eq.trans (ih ((n,a)::I) λy Z=>hx y (Rw _ Z)) ?_
    conv=>rhs;unfold E7
    simp only[U,if_true,Y]
   ·simp only[U];refine Eq.trans (ih I λy Z=>hx y (Rw _ Z)) ?_
    conv=>rhs;unfold E7
    simp only[U];rfl
 unfold closureFor;exact(by
  have:=all scope.names [] h
  first|exact this|(simp only[bind_pure] ;exact this)|simpa using this)
noncomputable def Ds (X:Cx)(scope:Scope)(C:Addr)(N:List Str)(s₀:Shared)(H₀:Hp)(ex:List Addr):Cx where
 prog:=X.prog
 w:=X.w
 K:=X.K
 mg:=X.mg
 base:=X.base
 A:=X.A
 N:=N
 s₀:=s₀
 H₀:=H₀
 env:=compEnvC scope (E7 X.env scope.names []) C X.env
 outer:=X.stack
 stack:=X.stack
 ex:=ex
 fn:=λ_=>false
 calm:=X.calm
 pn:=[]
 xe:=λ_ _=>False
structure Kc (sc:Scope)(env:Env):Prop where
 kind:sc.kind=.function
 nocell:∀y∈sc.names,y.2≠.cell
 loc:∀y∈sc.names,y.2=.local->sc.names.lookup y.1=some .local
 free:∀x∈sc.names,x.2=.free->(env.cells.lookup x.1).isSome=true
theorem Zac {env:Env}:∀{names:List (Str×NameKind)}{x:Str}{k:NameKind},((names.map λ(n,k)=>if (k == NameKind.free && env.scope.kind == .function && env.kindOf n == some .cell) then (n,NameKind.cell) else (n,k)).lookup x=some k) ->
  ∃k',names.lookup x=some k'/\(k'=k\/(k'=.free/\k=.cell))
 |[],x,k,h=>by simp at h
 | (n,q)::r,x,k,h=>by
  have U:=@Zac env r x k;have h:R4 x ((if (q == NameKind.free && env.scope.kind == .function && env.kindOf n == some .cell)=true then (n,NameKind.cell) else (n,q))::_)=some k:=h;rw[Sf];cases O:x == n with
  |true =>
   by_cases I:(q == NameKind.free && env.scope.kind == .function && env.kindOf n == some .cell)=true
   ·rw[if_pos I]at h;simp only[Sf,O]at h;refine⟨q,rfl,.inr ⟨?_,(Qh h).symm⟩⟩;simp only[R3]at I;simpa using I.1.1
   ·rw[if_neg I]at h;simp only[Sf,O]at h;exact⟨q,rfl,.inl (Qh h)⟩
  |false =>
   by_cases I:(q == NameKind.free && env.scope.kind == .function && env.kindOf n == some .cell)=true
   ·rw[if_pos I]at h;simp only[Sf,O]at h;exact U h
   ·rw[if_neg I]at h;simp only[Sf,O]at h;exact U h
def Iu (X:Cx)(scope:Scope)(N:List Str)(σ σ0:St):Prop :=
 σ0.length=N.length/\∀(i:Nat)(x:Str)(v:V),N[i]?=some x->σ0[i]?=some (some v)->∃j:Nat,X.N[j]?=some x/\σ[j]?=some (some v)/\scope.names.lookup x=some .free/\(X.env.kindOf x=some .cell\/X.env.kindOf x=some .free)
section
variable {X:Cx}
def Zus (I:Inv X pins σ H s)(S:Kc scope X.env)(hf:∀b∈fp,FpOk X pins H b)(hlt:∀b∈fp,b<s.heap.objs.size)(T:Iu X scope N σ σ0)(hn:h'.Ns s.heap.objs.size (λ_=>none))(hk:∀b o,s.heap.get? b=some o->h'.get? b=some o) :
  Inv (Ds X scope s.heap.objs.size N s H fp) [] σ0 H { s with heap:=h',toks:=tk }:=by
 have O:∀x c,(E7 X.env scope.names []).lookup x=some c->X.env.cells.lookup x=some c:=λx c e=>Zdd (ns:=scope.names) (acc:=[]) (λy d z=>by simp at z) e;have Y:∀x,scope.names.lookup x=some .free->∃c,(E7 X.env scope.names []).lookup x=some c:=λx e=>by
  have m:=Su e;exact Sq.mp (Zkx m (S.free _ m rfl))
 have ad:∀b∈fp,b ∉ B8 X.stack:=λb hb z=>by
  obtain⟨_,f1,f2,_⟩:=hf b hb;rcases Ps.mp (I.stkSub b z) with e|e
  ·exact f1 e
  ·exact f2 e
 have aa:∀x,((relabel scope X.env).names.lookup x=some .cell\/(relabel scope X.env).names.lookup x=some .free)->scope.names.lookup x=some .free:=λx Z=>by
  rcases Z with Z|Z
  ·obtain⟨k',e,q⟩:=Zac Z;rcases q with q|⟨q,_⟩
   ·subst q;exact absurd rfl (S.nocell _ (Su e))
   ·rw[e,q]
  ·obtain⟨k',e,q⟩:=Zac Z;rcases q with q|⟨_,q⟩
   ·rw[e,q]
   ·cases q
 have noex:∀b o,X.base.get? b=some o->b ∉ fp:=λb o e hb=>by
  obtain⟨_,_,_,f3,_⟩:=hf b hb;rcases f3 with z|z
  ·exact I.ok.noex b o e z
  ·exact absurd (Qb (Pr e) (P9 I.ok.bsz z)) (Q7 _)
 refine⟨⟨I.ok.mod,S.kind,I.ok.glob,I.ok.blt,Pm _,λx y c e1 e2=>I.ok.inj x y c (O x c e1) (O y c e2),λx Z=>Y x (aa x Z),λx c z=>absurd (show false=true from z) Pu,I.ok.hd,I.ok.frames,.inl rfl,
   λb hb=>⟨P3 (hlt b hb),λx c e=>(hf b hb).2.2.2.2.1 x c (O x c e)⟩,I.bs,P9 I.ok.bsz I.sz,noex,ad,I.stack,I.stkFree⟩,
  rfl,I.bare,Un.kept hk,⟨_,hn,λi x v e1 e2 e3=>?_⟩,λx c e=>?_,I.hok.fresh (Pm _),λx c e=>I.freeC x c (O x c e),λp hp=>absurd (show p∈([]:List (Addr×Obj)) from hp) (by simp),I.hok.kept hk,T.1⟩
 ·obtain⟨j,hj,hs,ac,U⟩:=T.2 i x v e1 e2;obtain⟨m,_,hl⟩:=I.loc;obtain⟨u,r,l⟩:=hl j x v hj hs (U.elim (λz=>Or.inr (Or.inl z)) λz=>Or.inr (Or.inr z));refine⟨u,r,.inr ⟨?_,?_⟩⟩
  ·show(relabel scope X.env).names.lookup x=some .cell\/(relabel scope X.env).names.lookup x=some .free;rcases e3 with z|z|z
   ·obtain⟨k',e,q⟩:=Zac (show(relabel scope X.env).names.lookup x=some .local from z);rw[ac]at e;cases e;rcases q with q|⟨_,q⟩ <;> cases q
   ·exact .inl z
   ·exact .inr z
  ·obtain⟨c,hc⟩:=Y x ac;refine⟨c,hc,?_⟩;rcases l with⟨k,_⟩|⟨_,c',e,z⟩
   ·rcases U with U|U <;> (rw[U]at k;cases k)
   ·have e':=O x c hc;rw[e]at e';cases e';obtain⟨o,ho,hd⟩:=z;exact⟨o,hk _ o ho,hd⟩
 ·obtain⟨v,o,ho,hd⟩:=I.cell x c (O x c e);exact⟨v,o,hk _ o ho,hd⟩
def Zr7 (I:Inv X pins σ H s)(hf:∀b∈fp,FpOk X pins H b)(I':Inv (Ds X scope s.heap.objs.size N s H fp) pins' σ' H' s')(hs:P5 s.heap.objs.size s'.heap h'):Inv X pins σ H' { s' with heap:=h' }:=by
 have Y:H' s.heap.objs.size=none:=I'.free;have ne:∀b o,s.heap.get? b=some o->b≠s.heap.objs.size:=λb o e=>P3 (Pr e);have B:Un (B8 X.stack) fp H H' s.heap s'.heap:=I'.base;refine I.call' (s':={ s' with heap:=h' }) (ch:=fp) I'.os ⟨λb o e n hb O=>?_,λb o e n hb O=>?_,B.free,λb o e O=>?_,B.tups,B.frzs,B.tbls⟩ (λb o e=>?_) I'.bare (λb hb=>?_)
 ·exact(hs.2 b (ne b o e)).trans (B.keep b o e n hb O)
 ·obtain⟨sl,q⟩:=B.slot b o e n hb O;exact⟨sl,(hs.2 b (ne b o e)).trans q⟩
 ·obtain⟨o',q⟩:=B.there b o e O;exact⟨o',(hs.2 b (ne b o e)).trans q⟩
 ·refine(I'.hok b o e).stay (λc w' U q=>(hs.2 c ?_).trans q) (λ_ q=>q) λ_ _ q=>q;rintro rfl;rcases U with rfl|U
  ·rw[Y]at e;cases e
  ·rw[Y]at U;cases U
 ·obtain⟨_,f1,_,f3,Z,f5⟩:=hf b hb;exact⟨f3,f1,Z,f5⟩
end
section
variable {prog:Program}{w:World}{A:Around}{R:Result->Shared->Prop}{s:Shared}
def Zug (I:Nat->Shared->Prop)(turn:∀n s,I n s->wpAny (model prog w) A (pyNext it) (λr s₁=>match r with
   |none=>R (.ok .next) s₁
   |some v=>wpAny (model prog w) A (letOwnedTupleGo target it v) (λ_ s₁'=>wpAny (model prog w) A (assign target env v) (λ_ s₂ =>
     wpAny (model prog w) A (forIn ifs true λc r=>if r=true then do let ok <- isTrue c env (eval c env);pure (ForInStep.yield ok) else pure (ForInStep.yield r)) (λok s₃ =>
      if ok=true then wpAny (model prog w) A (eval elt env) (λx s₄ =>
       wpAny (model prog w) A (call (.builtin "list.append") [acc,x]) (λ_ s₅=>∃m,m<n/\I m s₅) (λ_ _=>False) s₄) (λ_ _=>False) s₃
      else ∃m,m<n/\I m s₃) (λ_ _=>False) s₂) (λ_ _=>False) s₁') (λ_ _=>False) s₁) (λ_ _=>False) s)(n:Nat)(h:I n s):codeAny (model prog w) A (.compLoop (.ListComp elt [⟨target,iter,ifs,0⟩] scope pos) 0 it acc env) R s:=by
 refine codeAny_loop rfl I (λn s hI=>?_) n h;show wpAny _ A ((compTurn (.ListComp elt [⟨target,iter,ifs,0⟩] scope pos) 0 it acc env).onRaise (λx=>do noteFrame x env;theTreesLotGoes x)) _ _ s;refine wpAny_noted ?_;rw[compTurn_list];have up:∀{α:Type}{t:Sem α}{Q:α->Shared->Prop}{s:Shared}{E:Value->Shared->Prop},wpAny (model prog w) A t Q (λ_ _=>False) s->wpAny (model prog w) A t Q E s:=λh=>wpAny_noRaise h;refine Pj (wpAny_standAt (Pj (up (Au (turn n s hI) λr s₁ U=>?_))));cases r with
 |none=>exact Pl U
 |some v =>
  refine Pj (up (Au U λ_ s₁' Y=>?_));refine Pj (up (Au Y λ_ s₂ Z=>Pj (up (Au Z λok s₃ O=>?_))));cases ok with
  |false=>exact Pl ⟨rfl,O⟩
  |true =>
   exact Pj (Pj (up (Au O λx s₄ ac=>Pj (up (Au ac λ_ s₅ aa=>Pl (Pl ⟨rfl,aa⟩))))))
end
def Zbc (J:It)(g:TG)(tt:TT)(te:TE)(σ0:St)(H1:Hp)(D:Addr)(Q:VK):Prop :=
 ∃W:Nat->Nat->St->Hp->Prop,(∃m,W 0 m σ0 (upd H1 D (.lst [])))/\∀i m σ' H',W i m σ' H' ->
  (J.stop i H'/\Q (.ref D) H')\/(J.go i H'/\∃N:St->Hp->Prop,(∀I H2,N I H2->∃m',m'<m/\W (i+1) m' I H2)/\∀x H2,J.yld i H' x H2->g x σ' H2 λI Y=>tt I Y λb U =>
   if b=true then te I U λy O=>∃ys,O D=some (.lst ys)/\ys.length<sizeLine/\N I (upd O D (.lst (ys++[y]))) else N I U)
def Nq (wi:TI)(σ0:St->St)(g:TG)(tt:TT)(te:TE):TE:=λσ H Q=>wi σ H λJ H1=>∀D,H1 D=none->Zbc J g tt te (σ0 σ) H1 D Q
def Kf (X:Cx)(ifs:List Expr)(t:TT):Prop :=
 ∀(pins:List (Addr×Obj))(s:Shared)(σ:St)(H:Hp)(Q:Bool->Hp->Prop),Inv X pins σ H s->t σ H Q ->
  wpAny (model X.prog X.w) X.A (forIn ifs true λc r=>if r=true then do let ok <- isTrue c X.env (eval c X.env);pure (ForInStep.yield ok) else pure (ForInStep.yield r)) (TP X pins σ Q) X.xe s
def Zen:TT:=λ_ H Q=>Q true H
section
variable {X:Cx}{elt target iter:Expr}{ifs:List Expr}{scope:Scope}{pos:Pos}{N:List Str}{wi:TI}{σ0:St->St}{g:TG}{tt:TT}{te:TE}
def Zgy {pins:List (Addr×Obj)}{σ:St}{H:Hp}{s:Shared}{it:Addr}{fp:List Addr}{tn:Nat->Heap->Prop}{J:It}{Q:Addr->Hp->Prop}{RR:Value->Addr->Result->Shared->Prop}{E:Value->Shared->Prop}
  (hc:X.calm=true) (S:Kc scope X.env) (T:Iu X scope N σ (σ0 σ)) (I:Inv X pins σ H s) (Tn:Jr X.prog X.w X.K target J fp it tn) (st:tn 0 s.heap) (hf:∀b∈fp,FpOk X pins H b)
  (hg:∀C s H fp,PG (Ds X scope C N s H fp) target g) (ht:∀C s H fp,Kf (Ds X scope C N s H fp) ifs tt) (he:∀C s H fp,PE (Ds X scope C N s H fp) elt te)
  (hw:∀D,H D=none->∃W:Nat->Nat->St->Hp->Prop,(∃m,W 0 m (σ0 σ) (upd H D (.lst [])))/\∀i m σ' H',W i m σ' H' ->
   (J.stop i H'/\Q D H')\/(J.go i H'/\∃N:St->Hp->Prop,(∀σ2 H2,N σ2 H2->∃m',m'<m/\W (i+1) m' σ2 H2)/\∀x H2,J.yld i H' x H2->g x σ' H2 λσ2 H3=>tt σ2 H3 λb H4 =>
    if b=true then te σ2 H4 λy H5=>∃ys,H5 D=some (.lst ys)/\ys.length<sizeLine/\N σ2 (upd H5 D (.lst (ys++[y]))) else N σ2 H4))
  (hR:∀(D C:Addr)(H':Hp)(s':Shared)(m:Str->Option Value),s.heap.objs.size<=C->H' C=none->s'.heap.Ns C m->(∀h',P5 C s'.heap h'->Inv X pins σ H' { s' with heap:=h' })->Q D H'->RR (.ref D) C (.ok .next) s') :
  wpAny (model X.prog X.w) X.A (newList []) (λacc s₃=>wpAny (model X.prog X.w) X.A (newFunctionEnv scope X.env.globals (E7 X.env scope.names []) [] X.env.qual none .none (some X.env)) (λcenv s₄ =>
   codeAny (model X.prog X.w) X.A (.compStart (.ListComp elt [⟨target,iter,ifs,0⟩] scope pos) 0 (.ref it) acc { cenv with scope:=relabel scope X.env }) (RR acc cenv.locals) s₄) E s₃) E s:=by
 refine Se (wpAny_newFunctionEnv S.nocell (by intro y hy;simp at hy) (λae ah ag=>?_) S.kind);have hD:H s.heap.objs.size=none:=I.hok.fresh (Pm _);have I3:Inv X pins σ (upd H s.heap.objs.size (.lst [])) { s with heap:=s.heap.push { cls:=.type "list",dict:=none,data:=.seq ([]:List Value).toArray } }:=I.lnew (ys:=[]) (its:=[]) (t':=s.toks) .nil (by simp);have aq:∀b∈fp,b<s.heap.objs.size:=λb hb=>by obtain⟨o,e,_⟩:=Tn.obj _ _ st b hb;exact Pr e
 have aj:∀b∈fp,FpOk X pins (upd H s.heap.objs.size (.lst [])) b:=λb hb=>⟨by rw[Ah (P3 (aq b hb))];exact(hf b hb).1,(hf b hb).2⟩;have al:∀b∈fp,b<({ s with heap:=s.heap.push { cls:=.type "list",dict:=none,data:=.seq ([]:List Value).toArray } }:Shared).heap.objs.size:=λb hb=>by
  show b<(s.heap.push _).objs.size;rw[Qv];exact Nat.lt_succ_of_lt (aq b hb)
 have ax:∀b o,({ s with heap:=s.heap.push { cls:=.type "list",dict:=none,data:=.seq ([]:List Value).toArray } }:Shared).heap.get? b=some o->ae.get? b=some o:=λb o e =>
  ag.extBut b o (P3 (Pr e)) (Pp _ e)
 have I4:=Zus (N:=N) (tk:=s.toks+([]:List (Str×Value)).length) I3 S aj al T ah ax;have a4:tn 0 ae:=Tn.keep _ _ _ st λb hb o e=>ax b o (Pp _ e);obtain⟨W,⟨m0,w0⟩,ay⟩:=hw _ hD;generalize hX:Ds X scope ({ s with heap:=s.heap.push { cls:=.type "list",dict:=none,data:=.seq ([]:List Value).toArray } }:Shared).heap.objs.size N { s with heap:=s.heap.push { cls:=.type "list",dict:=none,data:=.seq ([]:List Value).toArray } } (upd H s.heap.objs.size (.lst [])) fp=O at I4;have eP:O.prog=X.prog:=by rw[<- hX];rfl
 have eW:O.w=X.w:=by rw[<- hX];rfl
 have eK:O.K=X.K:=by rw[<- hX];rfl
 have eA:O.A=X.A:=by rw[<- hX];rfl
 have eC:O.calm=true:=by rw[<- hX];exact hc
 have eX:O.xe=λ_ _=>False:=by rw[<- hX];rfl
 have bi:O.ex=fp:=by rw[<- hX];rfl
 have a6:PG O target g:=by rw[<- hX];exact hg _ _ _ _
 have bh:Kf O ifs tt:=by rw[<- hX];exact ht _ _ _ _
 have bf:PE O elt te:=by rw[<- hX];exact he _ _ _ _
 have eE:O.env=compEnvC scope (E7 X.env scope.names []) ({ s with heap:=s.heap.push { cls:=.type "list",dict:=none,data:=.seq ([]:List Value).toArray } }:Shared).heap.objs.size X.env:=by rw[<- hX];rfl
 have ad:∀{H':Hp},(∀b∈fp,H' b=none)->∀b∈fp,FpOk O [] H' b:=λ{H'} hn b hb=>by
  obtain⟨f0,f1,f2,f3,f4,f5⟩:=aj b hb;rw[<- hX];refine⟨hn b hb,P3 (al b hb),λz=>?_,.inl hb,λx c e=>f4 x c (Zdd (ns:=scope.names) (acc:=[]) (λy d z=>by simp at z) e),λp hp=>absurd (show p∈([]:List (Addr×Obj)) from hp) (by simp)⟩;rcases Ps.mp (I3.stkSub b z) with e|e
  ·exact f1 e
  ·exact f2 e
 have a5:∀b∈fp,upd H s.heap.objs.size (.lst []) b=none:=λb hb=>(aj b hb).1;have af:codeAny (model X.prog X.w) X.A (.compLoop (.ListComp elt [⟨target,iter,ifs,0⟩] scope pos) 0 (.ref it) (.ref s.heap.objs.size) O.env)
   (RR (.ref s.heap.objs.size) ({ s with heap:=s.heap.push { cls:=.type "list",dict:=none,data:=.seq ([]:List Value).toArray } }:Shared).heap.objs.size)
   { s with heap:=ae,toks:=s.toks+([]:List (Str×Value)).length }:=by
  refine Zug (λn s'=>eX3 λi σ' H'=>Inv O [] σ' H' s'/\tn i s'.heap/\(∀b∈fp,H' b=none)/\W i n σ' H') ?_ m0 ⟨0,σ0 σ,_,I4,a4,a5,w0⟩;rintro n s5 ⟨i,ai,H5,I5,av,as,w5⟩;rcases ay i n ai H5 w5 with⟨stop,qn⟩|⟨go,Nx,hN,step⟩
  ·have q:=Tn.done O eP eW eK eC i [] s5 ai H5 (λ_ _=>False) I5 (ad as) av stop;rw[eA]at q;refine Au q λr s6 zq=>?_;obtain⟨hr,I6⟩:=zq;subst hr;obtain⟨mm,ak,_⟩:=I6.loc;rw[eE]at ak;have a3:=I6.free;rw[eE]at a3;refine hR _ _ H5 s6 mm ?_ a3 ak (λh' hs=>?_) qn
   ·show s.heap.objs.size<=(s.heap.push _).objs.size;rw[Qv];exact Wd _
   ·rw[<- hX]at I6;exact Zr7 I3 aj I6 hs
  ·have q:=Tn.item O eP eW eK eC i [] s5 ai H5 (λ_ _=>False) I5 (ad as) av go;rw[eA]at q;refine Au q λr s6 zq=>?_;obtain⟨u,hr,h6⟩:=zq;subst hr;refine Au h6 λ_ s7 zq=>?_;obtain⟨x,H7,I7,r7,y7,an,bg⟩:=zq;have ba:=I7.pinned (ad bg) (Tn.obj _ _ an);have q8:=a6 _ s7 ai H7 x u _ ba r7 (step x H7 y7);rw[eP,eW,eA,eX]at q8;refine Au q8 λ_ s8 zq=>?_;obtain⟨Z,H8,I8,q8⟩:=zq;have q9:=bh _ s8 Z H8 _ I8 q8;rw[eP,eW,eA,eX]at q9;refine Au q9 λok s9 zq=>?_;obtain⟨H9,I9,q9⟩:=zq;have ac:∀{U:St}{Y:Hp}{aa:Shared},Inv O ([]++Nu fp s7.heap) U Y aa->Nx U Y->∃m,m<n/\eX3 λi σ' H'=>Inv O [] σ' H' aa/\tn i aa.heap/\(∀b∈fp,H' b=none)/\W i m σ' H':=λ{U Y aa} am ao=>by
    obtain⟨m',hm,w10⟩:=hN U Y ao;refine⟨m',hm,i+1,U,Y,am.unpinned,Tn.keep _ _ _ an λb hb o e=>(am.pin (b,o) (Rk _ (Rk _ (Zaa hb e)))).1,λb hb=>?_,w10⟩;obtain⟨o,e,d⟩:=Tn.obj _ _ an b hb;exact(am.pin (b,o) (Rk _ (Rk _ (Zaa hb e)))).2.1
   cases ok with
   |false =>
    have ap:Nx Z H9:=q9;exact ac I9 ap
   |true =>
    have ap:te Z H9 _:=q9;have au:=bf _ s9 Z H9 _ I9 ap;rw[eP,eW,eA,eX]at au;refine Au au λy aa zq=>?_;obtain⟨yv,Y,a9,be,ys,a7,hz,ao⟩:=zq;have a0:=(Cy (X:=O)) _ aa Z Y (.ref s.heap.objs.size) [yv] (.ref s.heap.objs.size) [y] (λ_ aw=>Nx Z aw) a9 rfl (.cons be .nil) ⟨_,ys,yv,rfl,rfl,a7,hz,ao⟩;rw[eP,eW,eA,eX]at a0;exact Au a0 λ_ bj ⟨_,aw,a8,_,bb⟩=>ac a8 bb
 rw[eE]at af;exact codeAny_compStart_list af (Tn.self _ 0 _ _ _ a4 af)
def Zuj (hc:X.calm=true)(S:Kc scope X.env)(hi:PI X target iter wi)(T:∀σ,σ.length=X.N.length->Iu X scope N σ (σ0 σ))
  (hg:∀C s H fp,PG (Ds X scope C N s H fp) target g) (ht:∀C s H fp,Kf (Ds X scope C N s H fp) ifs tt) (he:∀C s H fp,PE (Ds X scope C N s H fp) elt te)
  (hs:autoParam (∀x,foldedSetIterable iter X.env x=pure x) zE):PE X (.ListComp elt [⟨target,iter,ifs,0⟩] scope pos) (Nq wi σ0 g tt te):=by
 intro pins s σ H Q I h;rw[eval_ListComp];refine wpAny_comprehension_free (use:=none) rfl hs (Zj1 S.free) S.kind S.loc (Au (hi pins s σ H _ I h) λxv ac O=>Au O λae ad U=>?_);obtain⟨it,fp,tn,J,H2,rfl,I2,Tn,Y,f2,hw⟩:=U;refine Zgy (Q:=λD H'=>Q (.ref D) H') (RR:=λaa C=>compPost (model X.prog X.w) X.A X.xe none (EP X pins σ Q) aa C) hc S (T σ I.len) I2 Tn Y f2 hg ht he hw ?_;intro D C H' s' m hC _ hn hI hq;exact⟨m,hn,λh' Z=>⟨.ref D,H',hI h' Z,rfl,hq⟩⟩
def Zv4 (hc:X.calm=true)(S:Kc scope X.env)(hi:PI X target iter wi)(T:∀σ,σ.length=X.N.length->Iu X scope N σ (σ0 σ))(hg:∀C s H fp,PG (Ds X scope C N s H fp) target g)(ht:∀C s H fp,Kf (Ds X scope C N s H fp) ifs tt)(he:∀C s H fp,PE (Ds X scope C N s H fp) elt te)(hN:X.N.Nodup)(hy:X.N[i]?=some y)(hx:D4 X.env.scope y)(hsw:autoParam (swapsWith (.ListComp elt [⟨target,iter,ifs,0⟩] scope pos) (some (.Name y py)) spos.line X.env=pure true) zX)(hf:autoParam (X.fn y=true\/X.env.scope.names.lookup y=some .local) zQ)(hs:autoParam (∀x,foldedSetIterable iter X.env x=pure x) zE):PS X (.Assign [.Name y py] (.ListComp elt [⟨target,iter,ifs,0⟩] scope pos) spos) (Io (Nq wi σ0 g tt te) (Ev i)):=by
 intro pins s σ H D I h;rw[exec_Assign_Name_used _ _ _ _ hsw];refine Pj (wpAny_standAt (Pj ?_));show wpAny _ X.A (do let _ <- comprehension (.ListComp elt [⟨target,iter,ifs,0⟩] scope pos) scope X.env _ (newList []) false (eval iter X.env) (some (assign (.Name y py) X.env))) _ _ s;refine Pj (Au (wpAny_comprehension_free (use:=some (assign (.Name y py) X.env)) (Q:=λ_ s'=>SP X pins D .next s') rfl hs (Zj1 S.free) S.kind S.loc
  (Au (hi pins s σ H _ I h) λxv ai Z=>Au Z λak aj aa=>?_)) λ_ s' hq=>Pl (Pl hq))
 obtain⟨it,fp,tn,J,H2,rfl,U,Tn,ae,f2,hw⟩:=aa;refine Zgy (Q:=λL H'=>D.nx (σ.set i (some (.ref L))) H') (RR:=λag C=>compPost (model X.prog X.w) X.A X.xe (some (assign (.Name y py) X.env)) (λ_ s'=>SP X pins D .next s') ag C) hc S (T σ I.len) U Tn ae f2 hg ht he hw ?_;intro L C H' s' m Y O hn hI hq;have I3:Inv X pins σ H' s':=hI s'.heap (.refl ..);refine wpAny_assign_Name (Zjw I3 hN hy hx (v:=.ref L) rfl (λs4 I4 ah=>?_) hf);obtain⟨a,ad,ha⟩:=ah;have ac:C≠a:=by
  rintro rfl;rcases ha with e|e
  ·have:=U.lt;rw[<- e]at this;exact absurd (Qb this Y) (Q7 _)
  ·obtain⟨v,z⟩:=U.cell y _ e;exact absurd (Qb z.lt Y) (Q7 _)
 refine⟨m,hn.sameBut ad ac,λh' af=>⟨_,H',?_,hq⟩⟩;have e4:({ s4 with heap:=h' }:Shared)={ s4 with heap:=h',toks:=s4.toks }:=rfl;rw[e4];refine I4.turned (it:=C) (λb o hb e=>(af.2 b hb).trans e) O ?_ (.inr (P9 U.sz Y)) ?_ ?_
 ·exact Q3 (Qb U.lt Y)
 ·rintro x c e rfl;obtain⟨v,z⟩:=U.cell x _ e;exact absurd (Qb z.lt Y) (Q7 _)
 ·rintro p hp e;exact absurd (Qb (Pr (U.pin p hp).1) (by rw[e];exact Y)) (Q7 _)
end
section
variable {X:Cx}
def Zwo {K:Pi}{T:String}:Rp K (.type T) (.type T)=some true:=by
 unfold Rp;rw[if_pos (by simp)]
def Zr1 {K:Pi}{T U:String}{b:Bool}{l:List Value}(hm:PySem.W.kitMeta U=true)(hn:¬T=U)(hl:fastBuiltinMro T=some l)(hb:l.contains (.type U)=b):Rp K (.type T) (.type U)=some b:=by
 unfold Rp;rw[if_neg (by simp[hn])];show(if PySem.W.kitMeta U=true then Sj K (.type T) (.type U) else none)=some b;rw[if_pos hm];show(fastBuiltinMro T).map (·.contains (.type U))=some b;rw[hl,<- hb];rfl
def Zti:OpR X (compareOp .LtE) (λx y H Q=>eX2 λi j=>x=.str i/\y=.str j/\Q (.bl (!(decide (j.cps.toList<i.cps.toList)))) H):=by
 intro pins s σ H x y v u Q I O U h;obtain⟨i,j,rfl,rfl,q⟩:=h;obtain⟨t,rfl⟩:=O;obtain⟨t',rfl⟩:=U;exact PySem.P.le_str (B6 I q rfl)
def Zrz:OpR X (compareOp .In) (λx y H Q=>eX2 λ(c:Nat)(j:Str)=>x=.str ⟨#[c]⟩/\y=.str j/\Q (.bl (decide (c∈j.cps.toList))) H):=by
 intro pins s σ H x y v u Q I O U h;obtain⟨c,j,rfl,rfl,q⟩:=h;exact Zmp pins s σ H _ _ v u Q I O U ⟨_,_,rfl,rfl,by rw[StrLaws.found_one];exact q⟩
def Zrf:OpR X (compareOp .NotIn) (λx y H Q=>eX2 λ(c:Nat)(j:Str)=>x=.str ⟨#[c]⟩/\y=.str j/\Q (.bl (!decide (c∈j.cps.toList))) H):=by
 intro pins s σ H x y v u Q I O U h;obtain⟨c,j,rfl,rfl,q⟩:=h;exact Znl pins s σ H _ _ v u Q I O U ⟨_,_,rfl,rfl,by rw[StrLaws.found_one];exact q⟩
def Zbu:V->Option Int->Option Int->Hp->VK->Prop:=λx lo hi H Q=>∃z,x=.str z/\z.length<=sizeLine/\Q (.str (U1 z lo hi)) H
def sl_str:SlR X Zbu:=by
 intro pins s σ H x v vl vu lo hi sl Q I rx hs pl Z h;obtain⟨z,rfl,hz,q⟩:=h;obtain⟨t,rfl⟩:=rx;obtain⟨o,O,U,hd⟩:=hs;refine⟨"str",_,slot_str_getitem.lookup,typeIs_str _ _ _,?_⟩;cases pl with
 |none =>
  cases Z with
  |none=>exact Vc (l:=none) (u:=none) (st:=none) ⟨_,O,U,hd⟩ rfl (Vw ⟨P9 (Wa z _ _) hz,λt' k=>⟨.str (U1 z _ _),H,I.tok k,⟨t',rfl⟩,q⟩⟩)
  |int j u=>exact Vc (l:=none) (u:=some (j,u)) (st:=none) ⟨_,O,U,hd⟩ rfl (Vw ⟨P9 (Wa z _ _) hz,λt' k=>⟨.str (U1 z _ _),H,I.tok k,⟨t',rfl⟩,q⟩⟩)
 |int i Y =>
  cases Z with
  |none=>exact Vc (l:=some (i,Y)) (u:=none) (st:=none) ⟨_,O,U,hd⟩ rfl (Vw ⟨P9 (Wa z _ _) hz,λt' k=>⟨.str (U1 z _ _),H,I.tok k,⟨t',rfl⟩,q⟩⟩)
  |int j u=>exact Vc (l:=some (i,Y)) (u:=some (j,u)) (st:=none) ⟨_,O,U,hd⟩ rfl (Vw ⟨P9 (Wa z _ _) hz,λt' k=>⟨.str (U1 z _ _),H,I.tok k,⟨t',rfl⟩,q⟩⟩)
end
noncomputable def Its (z:Str):It:=⟨λi _=>i<z.cps.size,λi H x H'=>H'=H/\∃c,z.cps.toList[i]?=some c/\x=.str ⟨#[c]⟩,λi _=>i=z.cps.size⟩
def Zs5 (z:Str):["enumerate","zip","dict_itemiterator","dict_reverseitemiterator","odict_iterator","itertools.zip_longest","itertools.pairwise"].contains (strIterType z)=false:=by
 unfold strIterType;cases z.cps.all (· < 128) <;> decide
def Zjo (hh:A.handled=none)(it:Addr)(z:Str)(t:Tok):Walks P w A it [it] [it] z.cps.size (SignAt z) (λi h=>h.IsStrIter it (strIterType z) z t i):=by
 unfold strIterType;cases z.cps.all (· < 128)
 ·exact Walks.strWide hh it z t
 ·exact Walks.strAscii hh it z t
def Zo7 {P:Program}{w:World}{K:Pi}{tg:Expr}(it:Addr)(z:Str)(t:Tok):Jr P w K tg (Its z) [it] it (λi h=>h.IsStrIter it (strIterType z) z t i) where
 mem:=by simp
 obj:=λi h st b hb=>by
  have e:b=it:=by simpa using hb
  subst e;obtain⟨o,e,c,d⟩:=st;exact⟨o,e,λv z=>by rw[d]at z;cases z⟩
 keep:=λi h h' st k=>let ⟨o,e,r⟩:=st;⟨o,k it (by simp) o e,r⟩
 item:=by
  intro X hP hw Z Y i pins s σ H E I hf st hg;subst hP hw Z;obtain⟨f0,f1,f2,f3,U,f5⟩:=hf it (by simp);refine(Zjo (P:=X.prog) (w:=X.w) (I.ok.hd Y) it z t).item i s _ _ hg st λv h' tk hv O kk=>?_;obtain⟨c,u,aa,rfl⟩:=hv;have I1:Inv X pins σ H { s with heap:=h',toks:=tk }:=I.turned (λb o hb e=>kk b o (by simpa using hb) e) f0 f1 f3 U f5;obtain⟨o,e,cc,d⟩:=id O;exact⟨_,rfl,N3 (s:={ s with heap:=h',toks:=tk }) e cc d (Zs5 z) ⟨.str ⟨#[c]⟩,H,I1,⟨u,rfl⟩,⟨rfl,c,by simpa using aa,rfl⟩,O,λb hb=>(hf b hb).1⟩⟩
 done:=by
  intro X hP hw Z Y i pins s σ H E I hf st hg;subst hP hw Z;obtain⟨f0,f1,f2,f3,U,f5⟩:=hf it (by simp);have hg:i=z.cps.size:=hg;subst hg;exact(Zjo (P:=X.prog) (w:=X.w) (I.ok.hd Y) it z t).done s _ _ st λh' tk kk=>⟨rfl,I.turned (λb o hb e=>kk b o (by simpa using hb) e) f0 f1 f3 U f5⟩
 self:=λA i s Q E st h=>by
  obtain⟨o,e,c,d⟩:=st;unfold strIterType at c;cases ha:z.cps.all (· < 128)
  ·rw[ha]at c;exact wpAny_pyIter_striter_wide ⟨o,e,c,d⟩ h
  ·rw[ha]at c;exact wpAny_pyIter_striter_ascii ⟨o,e,c,d⟩ h
section
variable {X:Cx}{tg:Expr}
end
section
variable {g:TG}{tt:TT}{te:TE}{σ0:St}{H1:Hp}{D:Addr}{Q:VK}
def Ze1 (g:TG)(tt:TT)(te:TE)(D:Addr)(Nx:List V->St->Hp->Prop)(x:V)(σ:St)(H:Hp):Prop :=
 g x σ H λI Y=>tt I Y λb U=>if b=true then te I U λy O=>∃ys,O D=some (.lst ys)/\ys.length<sizeLine/\(∃zs,upd O D (.lst (ys++[y])) D=some (.lst zs)/\Nx zs I (upd O D (.lst (ys++[y])))) else ∃zs,U D=some (.lst zs)/\Nx zs I U
def Zbm {K:Pi}{a:Addr}{xs:List V}(Pv:Nat->List V->St->Hp->Prop)(h0:Pv 0 [] σ0 (upd H1 D (.lst [])))(hl:∀i ys σ H,i<=xs.length->Pv i ys σ H->SqL K H a xs)
  (hs:∀i x ys σ H,xs[i]?=some x->H D=some (.lst ys)->Pv i ys σ H->Ze1 g tt te D (Pv (i+1)) x σ H)
  (hd:∀ys σ H,H D=some (.lst ys)->Pv xs.length ys σ H->Q (.ref D) H):Zbc (Jv K a) g tt te σ0 H1 D Q:=by
 refine⟨λi m σ H=>m=xs.length-i/\i<=xs.length/\∃ys,H D=some (.lst ys)/\Pv i ys σ H,⟨xs.length,by simp,Qo _,[],Ac,h0⟩,?_⟩;rintro i m σ H ⟨rfl,hi,ys,U,p⟩;have q:=hl i ys σ H hi p;by_cases I:i<xs.length
 ·refine .inr ⟨⟨xs,xs[i],q,by simp[I]⟩,λO H2=>∃zs,H2 D=some (.lst zs)/\Pv (i+1) zs O H2,λY H' Z=>⟨xs.length-(i+1),by lia,rfl,I,Z⟩,λx H' y=>?_⟩;obtain⟨e,y⟩:=y;subst e;exact hs i x ys σ _ (y xs q) U p
 ·have e:i=xs.length:=by lia
  subst e;exact .inl ⟨⟨xs,q,Pm _⟩,hd ys σ H U p⟩
end
section
variable {X:Cx}
theorem Zig:∀{bs:List Bool}{us:List Value},Vals (bs.map V.bl) us->us=bs.map Value.bool
 |[],_,.nil=>rfl
 |b::bs,_,.cons r t=>by
  cases r;rw[Zig t];rfl
def Zwd {bs:List Bool}:(P7 bs.length).all (λi=>bs.getD i true)=bs.all id:=by
 induction bs with
 |nil=>rfl
 |cons b r I =>
  rw[Qc,List.range_succ_eq_map,Rq,List.all_map,Rq];have:((λi=>(b::r).getD i true) ∘ Nat.succ)=λi=>r.getD i true:=by
   funext i;simp
  rw[this,I];rfl
def Zof (hc:X.calm=true):C0 X (.builtin "all") (λxs H Q=>eX2 λ(p:Addr)(bs:List Bool)=>xs=[.ref p]/\SqL X.K H p (bs.map V.bl)/\Q (.bl (bs.all id)) H):=by
 intro pins s σ H xs us Q I r h;obtain⟨p,bs,rfl,hq,q⟩:=h;obtain⟨u,rfl,ru⟩:=r.one;cases ru;obtain⟨aa,rv,pl,hz⟩:=I.list hq;obtain rfl:=Zig rv;refine call_all_walk (Vo pl.isList ?_);have Y:p<s.heap.objs.size:=by obtain⟨o,e,_⟩:=pl.isList;exact Pr e
 have ac:(s.heap.push { cls:=.type "list_iterator",data:=.fields #[.ref p,rawInt 0] }).IsList p (bs.map Value.bool).toArray:=pl.isList.at λo e=>Pp _ e;refine⟨s.heap.objs.size,_,_,_,_,_,λi=>bs.getD i true,rfl,Walks.list (A:=X.A.in1) (show X.A.in1.handled=none from I.ok.hd hc) s.heap.objs.size p (P3 Y) (bs.map Value.bool).toArray,⟨⟨_,P4 _ rfl,rfl,rfl⟩,?_⟩,?_,?_⟩
 ·exact pl.isList.at λo e=>Pp _ e
 ·intro i v s' Q' E' hv U;have O:(bs.map Value.bool)[i]?=some v:=by simpa using hv
  rw[Qm]at O;cases e:bs[i]? with
  |none=>rw[e]at O;cases O
  |some b =>
   rw[e]at O;cases O;have:bs.getD i true=b:=by simp[List.getD,e]
   have U:Q' (bs.getD i true) s':=U;rw[this]at U;exact Ry U
 ·intro h' tk hk;have I1:Inv X pins σ H { s with heap:=s.heap.push { cls:=.type "list_iterator",data:=.fields #[.ref p,rawInt 0] } }:=I.kept (t':=s.toks) λb o e=>Pp _ e;have F:=I.fpOk (Pm s.heap.objs.size) (I.hok.fresh (Pm _));obtain⟨f0,f1,f2,f3,Z,f5⟩:=F;have I2:Inv X pins σ H { s with heap:=h',toks:=tk }:=Inv.turned (s:={ s with heap:=s.heap.push { cls:=.type "list_iterator",data:=.fields #[.ref p,rawInt 0] } }) (h':=h') (t':=tk) (it:=s.heap.objs.size) I1 (λb o hb e=>hk b o (by simpa using hb) e) f0 f1 f3 Z f5;refine⟨.bl (bs.all id),H,I2,?_,q⟩;show Value.bool _=Value.bool _;have:(bs.map Value.bool).toArray.size=bs.length:=by simp
  rw[this,Zwd]
end
def Same.upd (h:H p=none):Same H (upd H p o):=λb u e=>by rw[Ah (Dh e h)];exact e
def Df (h:H a=none)(o:HO):∃H1,Same H H1/\H1 a=some o/\upd H a o=H1:=⟨_,Same.upd h,Ac,rfl⟩
def Same.put (s:Same H0 H)(h:H p=none):Same H0 (L2.upd H p o):=s.trans (Same.upd h)
def Same.over (s:Same H0 H)(h:H0 p=none):Same H0 (L2.upd H p o):=λb u e=>by rw[Ah (Dh e h)];exact s b u e
def Same.tup {K:Pi}{H H':Hp}{a:Addr}{xs:List V}(e:Same H H')(h:SqT K H a xs):SqT K H' a xs:=by
 rcases h with(h|⟨o,h⟩)|h
 ·exact .inl (.inl (e _ _ h))
 ·exact .inl (.inr ⟨o,e _ _ h⟩)
 ·exact .inr h
def Mg (hk:sc.kind=.function)(hc:(sc.names.all λy=>y.2 != .cell)=true)(hl:(sc.names.all λy=>y.2 != .local || sc.names.lookup y.1 == some .local)=true)(hf:(sc.names.all λy=>y.2 != .free || out.names.lookup y.1 == some .cell)=true):Kc sc (envOfC qual out n f cd) where
 kind:=hk
 nocell:=λy I e=>by have:=Sg.mp hc y I;rw[e]at this;cases this
 loc:=λy I e=>by
  have:=Sg.mp hl y I;rw[e]at this;simpa using this
 free:=λy I e=>by
  have h:=Sg.mp hf y I;rw[e]at h;have h:out.names.lookup y.1=some .cell:=by simpa using h
  obtain⟨c,hc⟩:=Zc1 (n:=n+1) h;show((cellsFrom (n+1) out.names []).lookup y.1).isSome=true;rw[hc];rfl
noncomputable def Ge (k:Nat)(cap:List Nat)(σ:St):St:=Qw k none++cap.map λj=>(σ[j]?).join
def Zu6 (hl:k+cap.length=N.length)(h:∀(i j:Nat)(x:Str),cap[i]?=some j->N[k+i]?=some x->X.N[j]?=some x/\scope.names.lookup x=some .free/\(X.env.kindOf x=some .cell\/X.env.kindOf x=some .free)):Iu X scope N σ (Ge k cap σ):=by
 refine⟨by unfold Ge;simp[hl],λi x v U hv=>?_⟩;unfold Ge at hv;by_cases hi:i<k
 ·rw[Qk (by simpa using hi),List.getElem?_replicate,if_pos hi]at hv;cases hv
 ·rw[Qt (by simpa using hi),List.length_replicate,Qm]at hv;cases I:cap[i-k]? with
  |none=>rw[I]at hv;cases hv
  |some j =>
   rw[I]at hv;have hv:(σ[j]?).join=some v:=Qh hv;obtain⟨h1,h2,O⟩:=h (i-k) j x I (by rw[show k+(i-k)=i by lia];exact U);refine⟨j,h1,?_,h2,O⟩;cases e:σ[j]? with
   |none=>rw[e]at hv;cases hv
   |some o=>rw[e]at hv;exact congrArg some hv
def Lf (hl:k+cap.length=N.length)(h:((cap.zip (N.drop k)).all λp=>X.N[p.1]? == some p.2 && scope.names.lookup p.2 == some .free && (X.env.kindOf p.2 == some .cell || X.env.kindOf p.2 == some .free))=true):∀σ,σ.length=X.N.length->Iu X scope N σ (Ge k cap σ):=λσ _ =>
 Zu6 hl λi j x O I=>by
  have m:(j,x)∈cap.zip (N.drop k):=by
   refine Qu (i:=i) ?_;rw[List.getElem?_zip_eq_some];exact⟨O,by rw[List.getElem?_drop];exact I⟩
  have:=Sg.mp h _ m;simp only[R3,Bool.or_eq_true,beq_iff_eq]at this;exact⟨this.1.1,this.1.2,this.2⟩
def Ma {α:Type}{xs:List α}{i:Int}(h0:0<=i)(h1:i<xs.length):∃v,Cq xs i=some v/\v∈xs:=by
 have I:i.toNat<xs.length:=by lia
 refine⟨xs[i.toNat],?_,Vr I⟩;have:=Cs (xs:=xs) (j:=i.toNat) (v:=xs[i.toNat]) (by simp[I]);rwa[Wr h0]at this
noncomputable def Zcl:Expr->Option V
 |.Constant (.str x) _ _=>some (.str x)
 |.Constant (.int i) _ _=>some (.int i)
 |.Constant (.bool b) _ _=>some (.bl b)
 |.Constant .none _ _=>some .non
 |_=>none
noncomputable def Za0:List Expr->Option (List V)
 |[]=>some []
 |e::es=>match Zcl e,Za0 es with
  |some v,some vs=>some (v::vs)
  |_,_=>none
def Zea (xs:List V):TA:=λ_ H Q=>Q xs H
def Zuo (h:Zcl e=some v):PE X e (tC v)/\∀es,starEach (e::es) X.env=(false,eval e X.env)::starEach es X.env:=by
 unfold Zcl at h;split at h
 ·cases h;exact⟨Zh2,λ_=>rfl⟩
 ·cases h;exact⟨Zgj,λ_=>rfl⟩
 ·cases h;exact⟨Zim,λ_=>rfl⟩
 ·cases h;exact⟨Zgg,λ_=>rfl⟩
 ·cases h
theorem Zg7:∀{es:List Expr}{xs:List V},Za0 es=some xs->PA X es (Zea xs)
 |[],xs,h=>by
  have h:some []=some xs:=h;cases h;exact Zkr
 |e::es,xs,h=>by
  unfold Za0 at h;split at h
  ·rename_i v vs h1 h2;cases h;obtain⟨p,I⟩:=Zuo (X:=X) h1;exact Zhi p (Zg7 h2) (I es)
  ·cases h
structure A5 (P:Program)(w:World)(K:Pi)(mg:Str->Option Value)(base:Heap)(k:Nat)(x:Str)(ps:List Str)(sp:Sp):Prop where
 ex:eX2 λ(f:Addr)(fd:FuncData)=>FnOk P w K mg base As k f fd ps sp/\mg x=some (.ref f)/\Ro K (.ref f)=true/\Binds K fd ps []
section
variable {X:Cx}{k:Nat}{x:Str}{ps:List Str}{sp:Sp}{p pos:Pos}{e:Expr}{es:List Expr}{t:TA}
end
end L2
namespace L2
open PySem
def Ztn (h:O2 u=some x):RelV x u:=by
 cases u <;> simp only[O2]at h <;> first|(cases h;first|rfl|exact⟨_,rfl⟩)|cases h
noncomputable def F3:List Value->Option (List V)
 |[]=>some []
 |u::r=>match O2 u,F3 r with
  |some x,some xs=>some (x::xs)
  |_,_=>none
theorem Zgs:∀{us:List Value}{xs:List V},F3 us=some xs->Vals xs us
 |[],xs,h=>by
  have h:some []=some xs:=h;cases h;exact .nil
 |u::r,xs,h=>by
  unfold F3 at h;split at h
  ·rename_i x ys h1 h2;cases h;exact .cons (Ztn h1) (Zgs h2)
  ·cases h
def Kp (l:K.lookup a=some ⟨.type "tuple",od,.seq its n,sl⟩)(h:F3 its.toList=some xs)(hz:xs.length<=1000):∀H,SqT K H a xs:=λH=>by
 have v:=Zgs h;refine .inr ⟨_,its,n,l,rfl,rfl,?_,v⟩;have e:=v.length;have b:1000<=sizeLine:=by decide
 have I:its.toList.length=its.size:=Vi;lia
def Kd (F:FnOk P w K mg base As k f fd ps sp)(m:mg x=some (.ref f))(kp:Ro K (.ref f)=true)(b:Binds K fd ps []):A5 P w K mg base k x ps sp:=⟨f,fd,F,m,kp,b⟩
section
variable {P:Program}{w:World}{K:Pi}{mg:Str->Option Value}{base:Heap}
end
end L2
set_option autoImplicit true
namespace L2
open PySem PySem.Spec PyProof.Rows
structure QE (X:Cx)(e:Expr)(t:TE):Prop where
 run:PE X e t
structure QT (X:Cx)(e:Expr)(t:TT):Prop where
 run:PT X e t
structure QW (X:Cx)(e:Expr)(t:TT):Prop where
 run:PW X e t
structure QA (X:Cx)(es:List Expr)(t:TA):Prop where
 run:PA X es t
structure QS (X:Cx)(st:Stmt)(t:TS):Prop where
 run:PS X st t
structure Fs (X:Cx)(sts:List Stmt)(t:TS):Prop where
 run:PSs X sts t
structure QG (X:Cx)(e:Expr)(g:TG):Prop where
 run:PG X e g
structure QGs (X:Cx)(es:List Expr)(g:Fj):Prop where
 run:PGs X es g
structure QI (X:Cx)(tg iter:Expr)(wi:TI):Prop where
 run:PI X tg iter wi
structure QC (X:Cx)(op:CmpOp)(a b:Expr)(t:TE):Prop where
 run:PC X op a b t
structure QO (X:Cx)(e:Option Expr)(t:TO):Prop where
 run:PO X e t
structure QTs (X:Cx)(ifs:List Expr)(t:TT):Prop where
 run:Kf X ifs t
def Aa {i j pos}:QE X (.Constant (.int i) j pos) (tC (.int i)):=⟨Zgj⟩
def Cw {b j pos}:QE X (.Constant (.bool b) j pos) (tC (.bl b)):=⟨Zim⟩
def Fm {j pos}:QE X (.Constant .none j pos) (tC .non):=⟨Zgg⟩
def Am {x j pos}:QE X (.Constant (.str x) j pos) (tC (.str x)):=⟨Zh2⟩
def Cc (hg:Gl X x)(hm:X.mg x=none)(hv:bootBuiltins x=some u)(r:RelV v u)(hn:autoParam (x≠"__name__") zW)(hd:autoParam ((x == ("__debug__":Str))=false) zW):QE X (.Name x pos) (tC v):=⟨λ_ _ _ H _ I h=>Gy I hg hm hv ⟨v,H,I,r,h⟩ hn hd⟩
def Ae (ho:OpR X (binaryOp op) r)(ha:QE X a ta)(hb:QE X b tb):QE X (.BinOp a op b pos) (Es r ta tb):=by
 refine⟨?_⟩;have ha:=ha.run;have hb:=hb.run
 intro pins s σ H Q I h;exact wpAny_BinOp (Zbo ha hb I h λv u U x y H2 Z O Y q=>ho pins U σ H2 x y v u Q Z O Y q)
def Jl (ho:UnR X (unaryOp op) r)(ha:QE X a ta):QE X (.UnaryOp op a pos) (tUn r ta):=by
 refine⟨?_⟩;have ha:=ha.run
 intro pins s σ H Q I h;exact UnaryOp_ (Au (ha pins s σ H _ I h) λv U ⟨x,H1,Y,Z,O⟩=>ho pins U σ H1 x v Q Y Z O)
def Kn (h:QC X op a b t)(h1:behindInMarks op b=false:=by first|exact Za2 _ (by decide) (by decide)|rfl):QE X (.Compare a [op] [b] pos) t:=by
 refine⟨?_⟩;have h:=h.run;exact λpins s σ H Q I O=>wpAny_Compare1 (h pins s σ H Q I O) h1
def Oy (h:QC X op a b t)(h1:behindInMarks op b=false:=by first|exact Za2 _ (by decide) (by decide)|rfl):QT X (.Compare a [op] [b] pos) (tB t):=by
 refine⟨?_⟩;have h:=h.run
 intro pins s σ H Q I Z;refine wpAny_isTrue_Compare1 (Au (h pins s σ H _ I Z) λv s1 h1=>Au h1 λu s2 h2=>Au h2 λc s3 Y=>?_) h1;obtain⟨x,H1,U,r1,O⟩:=Y;obtain⟨d,rfl,q⟩:=O;cases r1;exact Ry ⟨H1,U,q⟩
def Zde (ho:OpR X (compareOp op) r)(ha:QE X a ta)(hb:QE X b tb)(hm:behindInMarks op b=false):QE X (.Compare a [op] [b] pos) (Es r ta tb):=by
 refine⟨?_⟩;have ha:=ha.run;have hb:=hb.run
 intro pins s σ H Q I h;exact wpAny_Compare1 (Zbo ha hb I h λv u U x y H2 Z O Y q=>ho pins U σ H2 x y v u Q Z O Y q) hm
def Zgb (ho:OpR X (compareOp op) r)(ha:QE X a ta)(hb:QE X b tb)(hm:behindInMarks op b=false):QT X (.Compare a [op] [b] pos) (N1 (Es r ta tb)):=by
 refine⟨?_⟩;have ha:=ha.run;have hb:=hb.run
 intro pins s σ H Q I h;refine wpAny_isTrue_Compare1 (Au (ha pins s σ H _ I h) λv s1 ⟨x,H1,Z,r1,O⟩=>Au (hb pins s1 σ H1 _ Z O) λu s2 ⟨y,H2,I2,r2,Y⟩ =>
  Au (ho pins s2 σ H2 x y v u _ I2 r1 r2 Y) λc s3 ⟨z,H3,I3,U,k,e,q3⟩=>?_) hm
 subst e;cases U;exact Ry ⟨H3,I3,q3⟩
def Zkh (ho:OpR X (compareOp op) r)(ho':OpR X (compareOp op') r')(ha:QE X a ta)(hb:QE X b tb)(hc:QE X c tc)(hm:lastMarks [op,op'] [b,c]=false:=by with_unfolding_all rfl):QE X (.Compare a [op,op'] [b,c] pos) (Zcz r r' ta tb tc):=by
 refine⟨?_⟩;have ha:=ha.run;have hb:=hb.run;have hc:=hc.run
 intro pins s σ H Q I h;refine Compare_chain (Au (ha pins s σ H _ I h) λv s1 ⟨x,H1,I1,r1,q1⟩=>chain_link (Au (hb pins s1 σ H1 _ I1 q1) λu s2 ⟨y,H2,I2,O,q2⟩ =>
  Au (ho pins s2 σ H2 x y v u _ I2 r1 O q2) λd s3 ⟨z,Z,U,r3,k,e,Y⟩=>?_)) hm
 subst e;cases r3;refine Ry ?_;cases k with
 |false=>exact ite_ff ⟨.bl false,Z,U,rfl,Y⟩
 |true=>exact ite_tt (chain_last (Au (hc pins s3 σ Z _ U Y) λw' s4 ⟨z',H4,I4,r4,q4⟩=>ho' pins s4 σ H4 y z' u w' Q I4 O r4 q4))
def Bx (h:QE X e t)(he:autoParam (∀whole,isTrue e X.env whole=(do let v <- whole;standAt e.pos;holding [v] (truthy v))) zE):QT X e (tB t):=by
 refine⟨?_⟩;have h:=h.run
 intro pins s σ H Q I Z;refine isTrue_plain (Au (h pins s σ H _ I Z) λv s1 Y=>?_) (he _);obtain⟨x,H1,U,r1,O⟩:=Y;obtain⟨d,rfl,q⟩:=O;cases r1;exact Ry ⟨H1,U,q⟩
def D7 (ha:QT X a tA):QW X (.BoolOp .And [a] pos) tA:=by
 refine⟨?_⟩;have ha:=ha.run
 intro O pins s σ H Q I h;refine isTrue_and (Au (ha pins s σ H Q I h) λc U e=>?_);cases c with
 |true=>exact isTrue_and_nil e
 |false=>exact e
def Dm (ha:QT X a tA):QW X (.BoolOp .Or [a] pos) tA:=by
 refine⟨?_⟩;have ha:=ha.run
 intro O pins s σ H Q I h;refine isTrue_or (Au (ha pins s σ H Q I h) λc U e=>?_);cases c with
 |false=>exact isTrue_or_nil e
 |true=>exact e
def D3 (ha:QT X a tA)(hb:QW X (.BoolOp .And (b::rest) pos) tB'):QW X (.BoolOp .And (a::b::rest) pos) (Zco tA tB'):=by
 refine⟨?_⟩;have ha:=ha.run;have hb:=hb.run
 intro Y pins s σ H Q I h;refine isTrue_and (Au (ha pins s σ H _ I h) λc s1 Z=>?_);obtain⟨H1,U,O⟩:=Z;cases c with
 |true=>exact hb Y pins s1 σ H1 Q U O
 |false=>exact⟨H1,U,O⟩
def C9 (ha:QT X a tA)(hb:QW X (.BoolOp .Or (b::rest) pos) tB'):QW X (.BoolOp .Or (a::b::rest) pos) (tOr tA tB'):=by
 refine⟨?_⟩;have ha:=ha.run;have hb:=hb.run
 intro Y pins s σ H Q I h;refine isTrue_or (Au (ha pins s σ H _ I h) λc s1 Z=>?_);obtain⟨H1,U,O⟩:=Z;cases c with
 |true=>exact⟨H1,U,O⟩
 |false=>exact hb Y pins s1 σ H1 Q U O
def C2 (ha:QT X a tA):QT X (.UnaryOp .Not a pos) (Zdq tA):=by
 refine⟨?_⟩;have ha:=ha.run
 intro pins s σ H Q I h;exact isTrue_not (ha pins s σ H (λc H1=>Q (!c) H1) I h)
def Go {op}(h:QE X a t):QE X (.BoolOp op [a] pos) t:=by
 refine⟨?_⟩;have h:=h.run;exact λpins s σ H Q I O=>BoolOp_one (h pins s σ H Q I O)
def F6 (ha:QE X a ta)(hb:QE X (.BoolOp .And (b::rest) pos) tb):QE X (.BoolOp .And (a::b::rest) pos) (Zcn ta tb):=by
 refine⟨?_⟩;have ha:=ha.run;have hb:=hb.run
 intro pins s σ H Q I h;refine BoolOp_and (Au (ha pins s σ H _ I h) λv Y Z=>?_);obtain⟨x,H1,U,r1,O⟩:=Z;obtain⟨c,rfl,O⟩:=O;cases r1;refine Ry ?_;cases c with
 |true=>exact hb pins Y σ H1 Q U O
 |false=>exact⟨.bl false,H1,U,rfl,O⟩
def Zqu (ha:QE X a ta)(hb:QE X (.BoolOp .Or (b::rest) pos) tb):QE X (.BoolOp .Or (a::b::rest) pos) (Zdj ta tb):=by
 refine⟨?_⟩;have ha:=ha.run;have hb:=hb.run
 intro pins s σ H Q I h;refine BoolOp_or (Au (ha pins s σ H _ I h) λv Y Z=>?_);obtain⟨x,H1,U,r1,O⟩:=Z;obtain⟨c,rfl,O⟩:=O;cases r1;refine Ry ?_;cases c with
 |false=>exact hb pins Y σ H1 Q U O
 |true=>exact⟨.bl true,H1,U,rfl,O⟩
def Zpq (ha:QE X a ta):QE X (.UnaryOp .Not a pos) (Zed ta):=by
 refine⟨?_⟩;have ha:=ha.run
 intro pins s σ H Q I h;refine UnaryOp_ (Au (ha pins s σ H _ I h) λv s1 Y=>?_);obtain⟨x,H1,U,Z,O⟩:=Y;obtain⟨c,rfl,O⟩:=O;cases Z;exact not_of (Ry ⟨.bl (!c),H1,U,rfl,O⟩)
def Pb (hc:QT X c tA)(ha:QE X a ta)(hb:QE X b tb):QE X (.IfExp c a b pos) (Mr tA ta tb):=by
 refine⟨?_⟩;have hc:=hc.run;have ha:=ha.run;have hb:=hb.run
 intro pins s σ H Q I h;refine wpAny_IfExp (Au (hc pins s σ H _ I h) λd Y Z=>?_);obtain⟨H1,U,O⟩:=Z;cases d with
 |true=>exact ha pins Y σ H1 Q U O
 |false=>exact hb pins Y σ H1 Q U O
def A2  : Fs X [] Zbt:=⟨λ_ _ σ H _ I h=>Tl ⟨σ,H,I,h⟩⟩
def Ab {st:Stmt}{rest:List Stmt}{t u:TS}(h1:QS X st t)(h2:Fs X rest u):Fs X (st::rest) (Zcs t u):=by
 refine⟨?_⟩;have h1:=h1.run;have h2:=h2.run
 intro pins s σ H D I h;refine W2 (Au (h1 pins s σ H { D with nx:=u D } I h) λf Y q=>?_);cases f with
 |next =>
  obtain⟨O,H',U,q⟩:=q;exact h2 pins Y O H' D U q
 |ret v=>exact q
 |brk=>exact q
 |cont=>exact q
def A4 {st:Stmt}{t:TS}(h1:QS X st t):Fs X [st] t:=by
 refine⟨?_⟩;have h1:=h1.run
 intro pins s σ H D I h;refine W2 (Au (h1 pins s σ H D I h) λf O q=>?_);cases f with
 |next=>exact Tl q
 |ret v=>exact q
 |brk=>exact q
 |cont=>exact q
def B2 (he:QE X e te)(hs:autoParam (swapsWith e none pos.line X.env=pure false) zX):QS X (.Expr e pos) (Zc2 te):=by
 refine⟨?_⟩;have he:=he.run
 intro pins s σ H D I h;exact wpAny_Expr_any (Au (he pins s σ H _ I h) λv Y ⟨x,H1,U,Z,O⟩=>⟨σ,H1,U,O⟩) I.quiet hs
def Zuq (he:QE X e te):QS X (.Return (some e) pos) (Zbk te):=by
 refine⟨?_⟩;have he:=he.run
 intro pins s σ H D I h;exact wpAny_Return_some (Au (he pins s σ H _ I h) λv Z ⟨x,H1,U,Y,O⟩=>⟨x,σ,H1,U,Y,O⟩)
def Ay (hc:QT X c tc)(ha:Fs X a t)(hb:Fs X b u):QS X (.If c a b pos) (Cm tc t u):=by
 refine⟨?_⟩;have hc:=hc.run;have ha:=ha.run;have hb:=hb.run
 intro pins s σ H D I h;refine wpAny_If (Au (hc pins s σ H _ I h) λd Y Z=>?_);obtain⟨H1,U,O⟩:=Z;cases d with
 |true=>exact ha pins Y σ H1 D U O
 |false=>exact hb pins Y σ H1 D U O
def Zah  : QGs X [] Oi:=by
 refine⟨?_⟩
 intro pins s σ H vs O Q I r h;obtain⟨e,h⟩:=h;subst e;cases r;exact assignInOrder_nil ⟨σ,H,I,h⟩
def Ha (h1:QG X e t)(h2:QGs X es u)(hs:autoParam ((assignEach (e::es) X.env).map (·.2)=assign e X.env::(assignEach es X.env).map (·.2)) zX):QGs X (e::es) (Ht t u):=by
 refine⟨?_⟩;have h1:=h1.run;have h2:=h2.run
 intro pins s σ H vs us Q I r h;obtain⟨v,vr,e1,h⟩:=h;subst e1;cases r with
 |cons r Z =>
  rw[hs];refine assignInOrder_cons (Au (h1 pins s σ H _ _ _ I r h) λ_ s1 zq=>?_);obtain⟨O,H1,Y,U⟩:=zq;exact h2 pins s1 O H1 _ _ Q Y Z U
def Hf (hN:X.N.Nodup)(hi:X.N[i]?=some x)(hx:D4 X.env.scope x)(hf:autoParam (X.fn x=true\/X.env.scope.names.lookup x=some .local) zQ):QG X (.Name x pos) (Ev i):=by
 refine⟨?_⟩
 intro pins s σ H v u Q I r h;exact wpAny_assign_Name (Zck I hN hi hx r (λs' O=>⟨_,H,O,h⟩) hf)
def Zs9 (hc:X.calm=true)(h:QGs X es t)(hn:autoParam ((assignEach es X.env).length=n) zX)(hst:autoParam ((assignEach es X.env).findIdx? (·.1)=none) zX):QG X (.Tuple es k pos) (Mo X.K n t):=by
 refine⟨?_⟩;have h:=h.run
 intro pins s σ H v u Q I r O;obtain⟨a,xs,e1,Y,hl,O⟩:=O;subst e1;cases r;obtain⟨Z,U,ht,hz⟩:=I.tuple Y;refine assign_Tuple_tuple (I.ok.hd hc) ht (by simp[hn,<- hl,U.length]) hst λh' hx=>?_;have I1:Inv X pins σ H { s with heap:=h' }:=I.kept (t':=s.toks) λb o e=>hx b o (P3 (Pr e)) e;exact h pins _ σ H xs _ Q I1 (by simpa using U) O
def Zm6 (ho:QE X o to)(hi:QE X i ti)(hs:Zek X t)(ha:autoParam (∀v,assign (.Subscript o i pos) X.env v=(do
   let ov <- holding [v] (eval o X.env);let iv <- holding [v,ov] (eval i X.env)
   standAt pos
   holding [v,ov,iv] (setItem ov iv v)
   release [v,ov,iv] [])) zE):QG X (.Subscript o i pos) (Zb2 to ti t):=by
 refine⟨?_⟩;have ho:=ho.run;have hi:=hi.run
 intro pins s σ H v u Q I r h;rw[ha];refine Pj (Q8 (Au (ho pins s σ H _ I h) λov s1 O=>?_));obtain⟨x,H1,Z,r1,U⟩:=O;refine Pj (Q8 (Au (hi pins s1 σ H1 _ Z U) λiv s2 O=>?_));obtain⟨y,H2,I2,r2,Y⟩:=O;refine Pj (wpAny_standAt (Pj (Q8 (Au (hs pins s2 σ H2 x y v ov iv u _ I2 r1 r2 r Y) λ_ s3 O=>?_))));obtain⟨H3,I3,q3⟩:=O;exact wpAny_release ⟨σ,H3,I3,q3⟩
def Et (he:QE X e te)(hg:QG X tg g)(hs:autoParam (swapsWithSole [tg] e pos.line X.env=pure false) zX)(hw:autoParam (swappedStores [tg] e X.env=pure none) zX)(h1:autoParam ((assignEach [tg] X.env).map (·.2)=[assign tg X.env]) zX):QS X (.Assign [tg] e pos) (Io te g):=by
 refine⟨?_⟩;have he:=he.run;have hg:=hg.run
 intro pins s σ H D I h;refine wpAny_Assign_stores (Au (he pins s σ H _ I h) λv U Z=>?_) hs hw;obtain⟨x,H1,Y,r1,O⟩:=Z;rw[h1];exact Au (hg pins U σ H1 x v _ Y r1 O) λ_ s2 q=>q
def Zvv (hN:X.N.Nodup)(hi:X.N[i]?=some x)(hx:D4 X.env.scope x)(he:QE X e te)(hs:autoParam (swapsWith e (some (.Name x pos')) pos.line X.env=pure false) zX)(hf:autoParam (X.fn x=true\/X.env.scope.names.lookup x=some .local) zQ):QS X (.Assign [.Name x pos'] e pos) (Io te (Ev i)):=by
 refine⟨?_⟩;have he:=he.run
 intro pins s σ H D I h;refine wpAny_Assign_Name (Au (he pins s σ H _ I h) λv s1 Z=>?_) hs;obtain⟨y,H1,Y,r1,O⟩:=Z;exact Zck Y hN hi hx r1 (λs2 U=>⟨_,H1,U,O⟩) hf
def Zj7 (hp:PassesOwn (model X.prog X.w) X.A X.env X.xe)(hc:QT X c tc)(hb:Fs X body tb):QS X (.While c body [] pos) (Zi4 tc tb):=by
 refine⟨?_⟩;have hc:=hc.run;have hb:=hb.run
 intro pins s σ H D I h;obtain⟨W,⟨m0,w0⟩,Y⟩:=h;refine wpAny_While (codeAny_whileLoop (λn s'=>eX2 λσ' H'=>Inv X pins σ' H' s'/\W n σ' H') ?_ m0 ⟨σ,H,I,w0⟩);rintro n s1 ⟨U,H1,I1,w1⟩;refine Sz hp (Au (hc pins s1 U H1 _ I1 (Y n U H1 w1)) λb s2 zq=>?_);obtain⟨H2,I2,q2⟩:=zq;cases b with
 |true =>
  obtain⟨N,hN,q2⟩:=q2;rw[if_pos rfl];refine Sz hp (Au (hb pins s2 U H2 _ I2 q2) λf s3 q3=>?_);cases f with
  |next =>
   obtain⟨O,Z,I3,n3⟩:=q3;obtain⟨m',hm,w3⟩:=hN O Z n3;exact⟨m',hm,O,Z,I3,w3⟩
  |cont =>
   obtain⟨O,Z,I3,n3⟩:=q3;obtain⟨m',hm,w3⟩:=hN O Z n3;exact⟨m',hm,O,Z,I3,w3⟩
  |brk=>exact q3
  |ret v=>exact q3
 |false =>
  rw[if_neg Pu];exact Tl ⟨U,H2,I2,q2⟩
def Gk (hg:Gl X "range")(hm:X.mg "range"=none)(ha:QA X [a] ta)(hs:autoParam (starEach [a] X.env=[(false,eval a X.env)]) zX):QI X tg (.Call (.Name "range" p) [a] [] pos) (Zd9 ta):=by
 refine⟨?_⟩;have ha:=ha.run
 intro pins s σ H R I h;refine Call_ (Gy I hg hm boot_range (Sn (Au (ha pos pins s σ H _ I h) λus s1 zq=>?_) hs rfl));obtain⟨vs,H1,Y,r1,O⟩:=zq;obtain⟨j,e,O,U,q⟩:=O;subst e;cases r1 with
 |cons r Z =>
  cases Z;obtain⟨t,rfl⟩:=r;exact call_range_1 (Zm7 Y (by lia) (by lia) O U (by simpa using q))
def Dk (hp:PassesOwn (model X.prog X.w) X.A X.env X.xe)(hc:X.calm=true)(hi:QI X tg iter wi)(hg:QG X tg g)(hb:Fs X body tb)(hs:autoParam (∀x,foldedSetIterable iter X.env x=pure x) zE):QS X (.For tg iter body [] pos) (Zet wi g tb):=by
 refine⟨?_⟩;have hi:=hi.run;have hg:=hg.run;have hb:=hb.run
 intro pins s σ H D I h;refine wpAny_For (Au (hi pins s σ H _ I h) λv s1 h1=>Au h1 λal s2 h2=>?_) hs;obtain⟨it,fp,tn,J,H2,e,I2,T,ak,f2,W,⟨m0,w0⟩,ag⟩:=h2;subst e;have aa:∀{H':Hp},(∀b∈fp,H' b=none)->∀b∈fp,FpOk X pins H' b:=λhn b hb=>⟨hn b hb,(f2 b hb).2⟩;refine codeAny_forLoop_any (λn s'=>eX3 λi σ' H'=>Inv X pins σ' H' s'/\tn i s'.heap/\(∀b∈fp,H' b=none)/\W i n σ' H') ?_ m0 ⟨0,σ,H2,I2,ak,λb hb=>(f2 b hb).1,w0⟩;rintro n s3 ⟨i,ac,H3,I3,ae,af,w3⟩;rcases ag i n ac H3 w3 with⟨stop,qn⟩|⟨go,N,hN,step⟩
 ·refine Sz hp (Au (T.done X rfl rfl rfl hc i pins s3 ac H3 X.xe I3 (aa af) ae stop) λr s4 zq=>?_);obtain⟨hr,I4⟩:=zq;subst hr;exact Tl ⟨ac,H3,I4,qn⟩
 ·refine Sz hp (Au (T.item X rfl rfl rfl hc i pins s3 ac H3 X.xe I3 (aa af) ae go) λr s4 zq=>?_);obtain⟨u,hr,h4⟩:=zq;subst hr;refine Sz hp (Au h4 λ_ s5 zq=>?_);obtain⟨x,H5,I5,r5,y5,ad,ah⟩:=zq;have ai:=I5.pinned (aa ah) (T.obj _ _ ad);refine Sz hp (Au (hg _ s5 ac H5 x u _ ai r5 (step x H5 y5)) λ_ s6 zq=>?_);obtain⟨aj,H6,I6,q6⟩:=zq;refine Sz hp (Au (hb _ s6 aj H6 _ I6 q6) λf s7 q7=>?_);have Y:∀{O:St}{U:Hp},Inv X (pins++Nu fp s5.heap) O U s7->N O U->∃m,m<n/\eX3 λi σ' H'=>Inv X pins σ' H' s7/\tn i s7.heap/\(∀b∈fp,H' b=none)/\W i m σ' H':=λ{O U} Z n7=>by
   obtain⟨m',hm,w7⟩:=hN O U n7;refine⟨m',hm,i+1,O,U,Z.unpinned,T.keep _ _ _ ad λb hb o e=>(Z.pin (b,o) (Rk _ (Rk _ (Zaa hb e)))).1,λb hb=>?_,w7⟩;obtain⟨o,e,d⟩:=T.obj _ _ ad b hb;exact(Z.pin (b,o) (Rk _ (Rk _ (Zaa hb e)))).2.1
  cases f with
  |next=>obtain⟨O,U,Z,n7⟩:=q7;exact Y Z n7
  |cont=>obtain⟨O,U,Z,n7⟩:=q7;exact Y Z n7
  |brk=>obtain⟨O,U,Z,q7⟩:=q7;exact⟨O,U,Z.unpinned,q7⟩
  |ret v=>obtain⟨x7,O,U,Z,r7,q7⟩:=q7;exact⟨x7,O,U,Z.unpinned,r7,q7⟩
def Zn9 (he:QE X e ta)(hb:attributeBase e f X.env (eval e X.env)=eval e X.env):QE X (.Attribute e f pos) (Zdx X.K ta f):=by
 refine⟨?_⟩;have he:=he.run
 intro pins s σ H Q I h;refine Zr9 hb (Au (he pins s σ H _ I h) λu s1 zq=>?_);obtain⟨x,H1,Y,U,a,C,dx,fs,v,ex,O,c,n,l,q⟩:=zq;subst ex;obtain rfl:u=Value.ref a:=U;exact Zh0 Y O c n l λu' s2 Z ru=>⟨v,H1,Z,ru,q⟩
def Zq7 (ha:QE X o ta)(hv:QE X value tv)(hs:swapsWith value (some (.Attribute o f pos')) pos.line X.env=pure false):QS X (.Assign [.Attribute o f pos'] value pos) (O1 X.K ta tv f):=by
 refine⟨?_⟩;have ha:=ha.run;have hv:=hv.run
 intro pins s σ H D I h;refine plainObj_wpAny_Assign_Attribute (Au (hv pins s σ H _ I h) λu s1 O=>?_) hs;obtain⟨y,H1,Z,ry,q⟩:=O;refine Au (ha pins s1 σ H1 _ Z q) λov s2 O=>?_;obtain⟨x,H2,I2,Y,a,C,dx,fs,ex,U,c,n,l,q2⟩:=O;subst ex;obtain rfl:ov=Value.ref a:=Y;exact Zkl I2 U c n l ry λs3 I3=>⟨σ,_,I3,q2⟩
def Bm  : QA X [] Fk:=⟨Zkr⟩
def Kr (ha:QE X e te)(hr:QA X es t)(hs:autoParam (starEach (e::es) X.env=(false,eval e X.env)::starEach es X.env) zX):QA X (e::es) (Dq te t):=⟨Zhi ha.run hr.run hs⟩
def Aj {x1}(h:QA X es t):QE X (.Tuple es x1 pos) (Zb6 t):=by
 refine⟨?_⟩;have h:=h.run
 intro pins s σ H Q I Y;refine wpAny_Tuple_spliced (Au (h pos pins s σ H _ I Y) λZ O ⟨xs,H1,U,r,z,q⟩=>⟨by rw[<- r.length];exact z,?_⟩);have hf:H1 O.heap.objs.size=none:=U.hok.fresh (Pm _);refine⟨.ref O.heap.objs.size,upd H1 O.heap.objs.size (.tup xs),U.laid (t':=O.toks) (λb u e=>Pp _ e) (Pm _) ?_,rfl,q _ hf⟩;exact⟨z,Z,r,⟨_,P4 _ rfl,rfl,_,rfl⟩⟩
def Bp (h:QA X es t):QE X (.List es pos) (Zd2 t):=by
 refine⟨?_⟩;have h:=h.run
 intro pins s σ H Q I Y;refine wpAny_List_spliced (Au (h pos pins s σ H _ I Y) λZ O ⟨xs,H1,U,r,z,q⟩=>⟨by rw[<- r.length];exact z,?_⟩);have hf:H1 O.heap.objs.size=none:=U.hok.fresh (Pm _);refine⟨.ref O.heap.objs.size,upd H1 O.heap.objs.size (.lst xs),U.laid (t':=O.toks) (λb u e=>Pp _ e) (Pm _) ?_,rfl,q _ hf⟩;exact⟨z,Z,0,r,P4 _ rfl⟩
def Az (C:A5 X.prog X.w X.K X.mg X.base k x ps sp)(hr:Room k X.A)(ha:QA X (e::es) t)(hg:autoParam (Gl X x) zX)(hdb:autoParam ((x == ("__debug__":Str))=false) zW)(he:autoParam (starEach (e::es) X.env=(false,eval e X.env)::starEach es X.env) zX)(hpl:autoParam ((backTo pos (starEach es X.env)).any (·.1)=false) zX):QE X (.Call (.Name x p) (e::es) [] pos) (Oh sp [] E0 t):=by
 refine⟨?_⟩;have ha:=ha.run
 obtain⟨f,fd,F,I,O,hb⟩:=C.ex;exact Zf6 F hr hg I O hb .nil Dy ha hdb he hpl
def Zvj {id:String}(hc:C0 X (.builtin id) r)(hg:Gl X x)(hm:X.mg x=none)(hv:bootBuiltins x=some (.builtin id))(ha:QA X (e::es) t)(hn:autoParam (x≠"__name__") zW)(hdb:autoParam ((x == ("__debug__":Str))=false) zW)(he:autoParam (starEach (e::es) X.env=(false,eval e X.env)::starEach es X.env) zX)(hpl:autoParam ((backTo pos (starEach es X.env)).any (·.1)=false) zX):QE X (.Call (.Name x p) (e::es) [] pos) (Iv r t):=by
 refine⟨?_⟩;have ha:=ha.run
 intro pins s σ H Q I h;refine Uk (Gy I hg hm hv ?_ hn hdb);exact PyProof.Rows.callWith_builtin1 (Au (ha pos pins s σ H _ I h) λZ U ⟨vs,H1,Y,r1,O⟩=>hc pins U σ H1 vs Z Q Y r1 O) he hpl
def Zn2 (hc:C0 X (.type T) r)(hg:Gl X x)(hm:X.mg x=none)(hv:bootBuiltins x=some (.type T))(ha:QA X (e::es) t)(hn:autoParam (x≠"__name__") zW)(hdb:autoParam ((x == ("__debug__":Str))=false) zW)(he:autoParam (starEach (e::es) X.env=(false,eval e X.env)::starEach es X.env) zX)(hpl:autoParam ((backTo pos (starEach es X.env)).any (·.1)=false) zX):QE X (.Call (.Name x p) (e::es) [] pos) (Iv r t):=by
 refine⟨?_⟩;have ha:=ha.run
 intro pins s σ H Q I h;refine Uk (Gy I hg hm hv ?_ hn hdb);exact Sn (Au (ha pos pins s σ H _ I h) λZ U ⟨vs,H1,Y,r1,O⟩=>hc pins U σ H1 vs Z Q Y r1 O) he hpl
def Fz  : QO X none Zbx:=by
 refine⟨?_⟩
 intro pins s σ H Q I h;rw[evalPart_none];exact Pl ⟨none,H,I,.none,h⟩
def Cv (h:QE X e te):QO X (some e) (Zcu te):=by
 refine⟨?_⟩;have h:=h.run
 intro pins s σ H Q I hw;rw[evalPart_some];refine Au (h pins s σ H _ I hw) λu s1 Z=>?_;obtain⟨x,H1,Y,O,U⟩:=Z;obtain⟨i,rfl,q⟩:=U;obtain⟨t,rfl⟩:=O;exact⟨some i,H1,Y,.int i t,q⟩
def Eg {lo hi:Option Expr}{r:V->Option Int->Option Int->Hp->VK->Prop}(hr:SlR X r)(he:QE X e te)(hl:QO X lo tl)(hu:QO X hi th):QE X (.Subscript e (.Slice lo hi none p2) pos) (tSl r te tl th):=by
 refine⟨?_⟩;have he:=he.run;have hl:=hl.run;have hu:=hu.run
 intro pins s σ H Q I h;refine Subscript_ (Au (he pins s σ H _ I h) λv s1 U=>?_);obtain⟨x,H1,I1,r1,q1⟩:=U;refine wpAny_Slice (Au (hl pins s1 σ H1 _ I1 q1) λZ s2 U=>?_);obtain⟨l,H2,I2,pl,q2⟩:=U;refine Au (hu pins s2 σ H2 _ I2 q2) λY O U=>?_;obtain⟨u,H3,I3,pu,q3⟩:=U;rw[evalPart_none];refine Pl ?_;have I4:Inv X pins σ H3 { O with heap:=O.heap.push { cls:=.type "slice",data:=.fields #[Z,Y,.none] } }:=I3.kept (t':=O.toks) λb ob q=>Pp _ q;obtain⟨T,id,hT,ht,hg⟩:=hr pins { O with heap:=O.heap.push { cls:=.type "slice",data:=.fields #[Z,Y,.none] } } σ H3 x v Z Y l u O.heap.objs.size Q I4 r1 (Heap.IsSliceOf.new ..) pl pu q3;show wpAny (model X.prog X.w) X.A (subscriptTail e (.Slice lo hi none p2) v (.ref O.heap.objs.size)) (EP X pins σ Q) X.xe { O with heap:=O.heap.push { cls:=.type "slice",data:=.fields #[Z,Y,.none] } };exact tail_any (ops:=[.ref O.heap.objs.size,v]) ht hT hg (by with_unfolding_all rfl)
def O8 (hr:IxR X r)(ha:QE X a ta)(hb:QE X b tb)(hs:Zb5 b):QE X (.Subscript a b pos) (Es r ta tb):=by
 refine⟨?_⟩;have ha:=ha.run;have hb:=hb.run
 intro pins s σ H Q I h;exact Subscript_ (Zbo ha hb I h λv u U x y H2 Z O Y q=>hr a b pins U σ H2 x y v u Q Z O Y q (hs _ _))
def Zrj {T id:String}(pa:PlainAttrs T)(slot:Slot T name id)(hty:typeOf (.builtin id)=pure (.type "method_descriptor"))(hm:Kh X id r)(ho:QE X o to)(ha:QA X (e::es) t)(hbase:autoParam (attributeBase o name X.env (eval o X.env)=eval o X.env) zX)(hfew:autoParam (((backTo cpos (starEach (e::es) X.env)).all (λx=>!x.1) && (backToKw cpos (keywordEach [] X.env)).all (λx=>x.1.isSome)
   && decide ((e::es).length+([]:List Keyword).length+(if ([]:List Keyword).isEmpty then 0 else 1)<30))=true) zX) (hline:autoParam ((apos.endLine == cpos.line)=true) zX) (hs:autoParam (starEach (e::es) X.env=(false,eval e X.env)::starEach es X.env) zX) (hplain:autoParam ((backTo cpos (starEach es X.env)).any (·.1)=false) zX):QE X (.Call (.Attribute o name apos) (e::es) [] cpos) (tBM X.K T r to t):=by
 refine⟨?_⟩;have ho:=ho.run;have ha:=ha.run
 intro pins s σ H Q I h;refine wpAny_Call_method_late hbase hfew hline rfl (Au (ho pins s σ H _ I h) λv s1 zq=>?_);obtain⟨x,H1,U,Y,ty,Z⟩:=zq;obtain⟨h1,h2⟩:=Zk8 U Y ty;refine⟨T,id,pa,slot,hty,h1,h2,?_⟩;have O:=ha cpos pins s1 σ H1 _ U Z;rw[hs]at O ⊢;refine Calls.callWith_builtin (by show(false || (backTo cpos (starEach es X.env)).any (·.1))=false;rw[hplain] <;> rfl) (Calls.evalArgs_plain ?_);exact Au O λus s2 ⟨vs,H2,I2,r2,q2⟩=>hm pins s2 σ H2 x vs v us Q I2 Y r2 q2
def Ztf {T id:String}(pa:PlainAttrs T)(slot:Slot T name id)(hty:typeOf (.builtin id)=pure (.type "method_descriptor"))(hm:Kh X id r)(ho:QE X o to)(hbase:autoParam (attributeBase o name X.env (eval o X.env)=eval o X.env) zX)(hline:autoParam ((apos.endLine == cpos.line)=true) zX):QE X (.Call (.Attribute o name apos) [] [] cpos) (Pf X.K T r to):=by
 refine⟨?_⟩;have ho:=ho.run
 intro pins s σ H Q I h;refine wpAny_Call_method0_late hbase hline (Au (ho pins s σ H _ I h) λv Z zq=>?_);obtain⟨x,H1,O,U,ty,Y⟩:=zq;obtain⟨h1,h2⟩:=Zk8 O U ty;exact⟨T,id,pa,slot,hty,h1,h2,Calls.callWith_builtin rfl (PySem.evalArgs_none (hm pins Z σ H1 x [] v [] Q O U .nil Y))⟩
def Zci (hc:X.calm=true)(S:Kc scope X.env)(hi:QI X target iter wi)(T:∀σ,σ.length=X.N.length->Iu X scope N σ (σ0 σ))(hg:∀C s H fp,QG (Ds X scope C N s H fp) target g)(ht:∀C s H fp,QTs (Ds X scope C N s H fp) ifs tt)(he:∀C s H fp,QE (Ds X scope C N s H fp) elt te)(hs:autoParam (∀x,foldedSetIterable iter X.env x=pure x) zE):QE X (.ListComp elt [⟨target,iter,ifs,0⟩] scope pos) (Nq wi σ0 g tt te):=⟨Zuj hc S hi.run T (λC s H fp=>(hg C s H fp).run) (λC s H fp=>(ht C s H fp).run) (λC s H fp=>(he C s H fp).run) hs⟩
def Zby (hc:X.calm=true)(S:Kc scope X.env)(hi:QI X target iter wi)(T:∀σ,σ.length=X.N.length->Iu X scope N σ (σ0 σ))(hg:∀C s H fp,QG (Ds X scope C N s H fp) target g)(ht:∀C s H fp,QTs (Ds X scope C N s H fp) ifs tt)(he:∀C s H fp,QE (Ds X scope C N s H fp) elt te)(hN:X.N.Nodup)(hy:X.N[i]?=some y)(hx:D4 X.env.scope y)(hsw:autoParam (swapsWith (.ListComp elt [⟨target,iter,ifs,0⟩] scope pos) (some (.Name y py)) spos.line X.env=pure true) zX)(hf:autoParam (X.fn y=true\/X.env.scope.names.lookup y=some .local) zQ)(hs:autoParam (∀x,foldedSetIterable iter X.env x=pure x) zE):QS X (.Assign [.Name y py] (.ListComp elt [⟨target,iter,ifs,0⟩] scope pos) spos) (Io (Nq wi σ0 g tt te) (Ev i)):=⟨Zv4 hc S hi.run T (λC s H fp=>(hg C s H fp).run) (λC s H fp=>(ht C s H fp).run) (λC s H fp=>(he C s H fp).run) hN hy hx hsw hf hs⟩
def Nz:QTs X [] Zen:=⟨λ_ _ _ H _ I h=>wpAny_tests_nil ⟨H,I,h⟩⟩
def Zqn (h:QT X c t):QTs X [c] t:=by
 refine⟨?_⟩;have h:=h.run;exact λpins s σ H Q I O=>wpAny_tests_one (h pins s σ H Q I O)
def Gn {j pos'}(ha:QE X a ta):QC X .Is a (.Constant .none j pos') (Zb0 ta):=by
 refine⟨?_⟩;have ha:=ha.run
 intro pins s σ H Q I h;refine Au (ha pins s σ H _ I h) λv s1 Y=>?_;obtain⟨x,H1,U,Z,O⟩:=Y;exact Constant_none (is_none_gen ⟨.bl _,H1,U,by rw[Z.none_iff];rfl,O⟩)
def Zlq {j pos'}(ha:QE X a ta):QC X .IsNot a (.Constant .none j pos') (Zeb ta):=by
 refine⟨?_⟩;have ha:=ha.run
 intro pins s σ H Q I h;refine Au (ha pins s σ H _ I h) λv s1 Y=>?_;obtain⟨x,H1,U,Z,O⟩:=Y;exact Constant_none (isnot_none_gen ⟨.bl _,H1,U,by rw[Z.none_iff];rfl,O⟩)
def Hw (h:Za0 es=some xs):QA X es (Zea xs):=⟨Zg7 h⟩
def qv (i:Nat)(hN:autoParam (X.N[i]?=some x) zX)(hv:autoParam (Ip X.env.scope x) zY)(hd:autoParam ((x == ("__debug__":Str))=false) zW)(hcd:autoParam ((x == ("__classdict__":Str))=false) zW):QE X (.Name x pos) (Hl i):=by
 refine⟨?_⟩
 intro pins s σ H Q I h;obtain⟨v,e,h⟩:=h;obtain⟨m,hn,hl⟩:=I.loc;obtain⟨u,r,l⟩:=hl i x v hN e hv;have Y:EP X pins σ Q u s:=⟨v,H,I,r,h⟩;rcases l with⟨U,hm⟩|⟨U,c,Z,O⟩
 ·exact wpAny_Name (wpAny_loadName_local I.ok.kind U hn hm Y) hd
 ·rcases U with U|U
  ·exact wpAny_Name (wpAny_loadName_cell I.ok.kind U Z O Y) hd
  ·exact wpAny_Name (wpAny_loadName_free I.ok.kind U Z O Y hcd) hd
def QW.qt (h:QW X e t):QT X e t:=⟨h.run.pt⟩
section
variable {P:Program}{w:World}{K:Pi}{mg:Str->Option Value}{base:Heap}
def Fun.okq {x qual:Str}{st:Stmt}{f:Addr}{fd:FuncData}{N ps:List Str}{k:Nat}{sp:Sp}(F:Fun K x qual st f fd)(S:Bc N ps (A7 st))(len:∀vs H Q E,sp vs H Q E->vs.length=ps.length)
  (hbody:∀(cdv:Value)(A:Around)(outer:List Env)(s:Shared)(H:Hp)(vs:List V)(Q:VK)(E:XK),Room k (A.deeper (envOfC qual (A7 st) s.heap.objs.size f cdv))->sp vs H Q E ->
   ∃t,Fs (Fp As P w K mg base N qual (A7 st) f cdv A outer s H E).nox (Gh st) t/\t { nx:=λ_ H'=>Q .non H',rt:=Q } (Gq N vs) H):FnOk P w K mg base As (k+1) f fd ps sp :=
 F.ok S len λcdv A outer s H vs Q E I h=>by
  obtain⟨t,q,r⟩:=hbody cdv A outer s H vs Q E I h;exact⟨t,q.run,r⟩
end
section
variable {X:Cx}
def Zry:R2:=λx y H Q=>eX2 λi j=>x=.str i/\y=.str j/\i.length+j.length<=sizeLine/\Q (.str (i++j)) H
def Zjk (K:Pi):R2:=λx y H Q=>eX4 λa b xs ys=>x=.ref a/\y=.ref b/\SqT K H a xs/\SqT K H b ys/\xs.length+ys.length<=sizeLine /\
 ∀r H',Same H H'->SqT K H' r (xs++ys)->Q (.ref r) H'
def Zun:OpR X (binaryOp .Add) (Zjk X.K):=by
 intro pins s σ H x y v u Q I rx ry h;obtain⟨a,b,xs,ys,rfl,rfl,ha,hb,hz,q⟩:=h;by_cases hx:xs=[]
 ·subst hx;cases rx;cases ry;obtain⟨ah,r1,p1,_⟩:=I.tuple ha;obtain⟨af,r2,p2,_⟩:=I.tuple hb;cases r1;obtain⟨⟨ag,dd,ad,sl⟩,ho,hc,n,hd⟩:=id p1;obtain⟨⟨ae,Z,aa,ac⟩,Y,U,n2,O⟩:=id p2;simp only at hc hd U O;subst hc hd U O;exact V9 ⟨_,ho,rfl⟩ ⟨_,Y,rfl⟩ Vq V4 Ve Vb (U8 _ _)
   (tuple_addW0 a b _ _ n n2 dd Z sl ac (by simp)) ⟨ho,Y,⟨.ref b,H,I,rfl,q b H (Same.refl H) hb⟩⟩
 ·refine Zkn pins s σ H _ _ v u Q I rx ry ⟨a,b,xs,ys,rfl,rfl,ha,hb,hx,hz,λe=>?_,λ_ p hp=>q p _ (λc o e=>by rw[Ah (Dh e hp)];exact e) (.inl (.inl Ac))⟩;subst e;exact q a H (Same.refl H) (by rw[Q2];exact ha)
def Jp (K:Pi):R2:=λx y H Q=>F5 (λi j=>.int (i+j)) x y H Q\/Zry x y H Q\/rCat x y H Q\/Zjk K x y H Q
def op_addA:OpR X (binaryOp .Add) (Jp X.K):=op_add.or (op_add_str.or (op_cat.or Zun))
def s_add_int {K:Pi}{i j:Int}{H:Hp}{Q:VK}(h:Q (.int (i+j)) H):Jp K (.int i) (.int j) H Q:=.inl ⟨i,j,rfl,rfl,h⟩
def Za9 {K:Pi}{i j:Str}{H:Hp}{Q:VK}(hl:i.length+j.length<=sizeLine)(h:Q (.str (i++j)) H):Jp K (.str i) (.str j) H Q:=.inr (.inl ⟨i,j,rfl,rfl,hl,h⟩)
def Ig {K:Pi}{a b:Addr}{xs ys:List V}{H:Hp}{Q:VK}(ha:H a=some (.lst xs))(hb:H b=some (.lst ys))(hz:xs.length+ys.length<=sizeLine)(h:∀p,H p=none->Q (.ref p) (upd H p (.lst (xs++ys)))):Jp K (.ref a) (.ref b) H Q:=.inr (.inr (.inl ⟨a,b,xs,ys,rfl,rfl,ha,hb,hz,h⟩))
def Zjx {K:Pi}{a b:Addr}{xs ys:List V}{H:Hp}{Q:VK}(ha:SqT K H a xs)(hb:SqT K H b ys)(hz:xs.length+ys.length<=sizeLine)(h:∀r H',Same H H'->SqT K H' r (xs++ys)->Q (.ref r) H'):Jp K (.ref a) (.ref b) H Q:=.inr (.inr (.inr ⟨a,b,xs,ys,rfl,rfl,ha,hb,hz,h⟩))
def Zd1:R2:=λx y H Q=>rI CMul (λi j=>.int (i*j)) x y H Q\/rRep x y H Q
def E6:OpR X (binaryOp .Mult) Zd1:=op_mul.or Zsi
def s_mul_l (h1:-(2 ^ 64)<i)(h2:i<2 ^ 64)(h:Q (.int (i*j)) H):Zd1 (.int i) (.int j) H Q:=.inl ⟨i,j,rfl,rfl,.inl ⟨h1,h2⟩,h⟩
def s_mul_r (h1:-(2 ^ 64)<j)(h2:j<2 ^ 64)(h:Q (.int (i*j)) H):Zd1 (.int i) (.int j) H Q:=.inl ⟨i,j,rfl,rfl,.inr ⟨h1,h2⟩,h⟩
def s_rI (hc:C i j)(h:Q (g i j) H):rI C g (.int i) (.int j) H Q:=⟨i,j,rfl,rfl,hc,h⟩
def s_rI0 (h:Q (g i j) H):F5 g (.int i) (.int j) H Q:=⟨i,j,rfl,rfl,h⟩
def s_rU (h:Q (g i) H):rU g (.int i) H Q:=⟨i,rfl,h⟩
def rLtA:R2:=λx y H Q=>F5 (λi j=>.bl (decide (i<j))) x y H Q\/eX2 λi j=>x=.str i/\y=.str j/\Q (.bl (decide (i.cps.toList<j.cps.toList))) H
def Ej:OpR X (compareOp .Lt) rLtA:=op_lt.or Zt4
def rLeA:R2:=λx y H Q=>F5 (λi j=>.bl (decide (i<=j))) x y H Q\/eX2 λi j=>x=.str i/\y=.str j/\Q (.bl (!(decide (j.cps.toList<i.cps.toList)))) H
def Zjc:OpR X (compareOp .LtE) rLeA:=op_le.or Zti
def s_lt (h:Q (.bl (decide (i<j))) H):rLtA (.int i) (.int j) H Q:=.inl ⟨i,j,rfl,rfl,h⟩
def s_le (h:Q (.bl (decide (i<=j))) H):rLeA (.int i) (.int j) H Q:=.inl ⟨i,j,rfl,rfl,h⟩
def Zdt (neg:Bool):R2:=λx y H Q=>eX2 λ(c:Nat)(j:Str)=>x=.str ⟨#[c]⟩/\y=.str j/\Q (.bl (if neg then !decide (c∈j.cps.toList) else decide (c∈j.cps.toList))) H
def Zm8:OpR X (compareOp .In) (Zdt false):=Zrz
def Zq1:OpR X (compareOp .NotIn) (Zdt true):=Zrf
def Og (K:Pi)(neg:Bool):R2:=λx y H Q=>rIn K neg x y H Q\/Zdt neg x y H Q
def Zld:OpR X (compareOp .In) (Og X.K false):=op_in_seq.or Zm8
def Zw1:OpR X (compareOp .NotIn) (Og X.K true):=op_notIn_seq.or Zq1
def Fn {K:Pi}{neg:Bool}{x:V}{p:Addr}{xs:List V}{H:Hp}{Q:VK}(hq:SqL K H p xs\/SqT K H p xs)(hx:Db x=true)(hxs:xs.all Db=true)(h:Q (.bl (if neg then !Ff x xs else Ff x xs)) H):Og K neg x (.ref p) H Q:=.inl ⟨p,xs,rfl,hq,hx,hxs,h⟩
def Zcv (K:Pi):V->Option Int->Option Int->Hp->VK->Prop:=λx lo hi H Q=>Zdc K x lo hi H Q\/Zbu x lo hi H Q\/rSlT K x lo hi H Q
def Zmb:SlR X (Zcv X.K):=sl_list.or (sl_str.or Zia)
def Gv {K:Pi}{a:Addr}{xs:List V}{lo hi:Option Int}{H:Hp}{Q:VK}(ha:SqL K H a xs)(h:∀p,H p=none->Q (.ref p) (upd H p (.lst (Ca xs lo hi)))):Zcv K (.ref a) lo hi H Q:=.inl ⟨a,xs,rfl,ha,h⟩
def Br {K:Pi}{a:Addr}{xs:List V}{i:Int}{v:V}{H:Hp}{Q:VK}(ha:SqL K H a xs)(hv:Cq xs i=some v)(h:Q v H):Ld K (.ref a) (.int i) H Q:=.inl ⟨a,xs,i,v,rfl,rfl,ha,hv,h⟩
def A1 {K:Pi}{a:Addr}{xs:List V}{i:Int}{v:V}{H:Hp}{Q:VK}(ha:SqT K H a xs)(hv:Cq xs i=some v)(h:Q v H):Ld K (.ref a) (.int i) H Q:=.inr (.inl ⟨a,xs,i,v,rfl,rfl,ha,hv,h⟩)
def Zqp {K:Pi}{z:Str}{i:Int}{c:Nat}{H:Hp}{Q:VK}(hl:z.length<=sizeLine)(hv:Cq z.cps.toList i=some c)(h:Q (.str ⟨#[c]⟩) H):Ld K (.str z) (.int i) H Q:=.inr (.inr ⟨z,i,c,rfl,rfl,hl,hv,h⟩)
def Oe (K:Pi):List V->Hp->VK->Prop:=λxs H Q=>eX2 λx n=>xs=[x]/\LenV K x H n/\Q (.int n) H
def Zvp:C0 X (.builtin "len") (Oe X.K):=Zwq
def Cd {K:Pi}{a:Addr}{xs:List V}{H:Hp}{Q:VK}(ha:SqL K H a xs)(h:Q (.int xs.length) H):Oe K [.ref a] H Q:=⟨_,_,rfl,.inl ⟨xs,ha,rfl⟩,h⟩
def Ei {K:Pi}{a:Addr}{xs:List V}{H:Hp}{Q:VK}(ha:SqT K H a xs)(h:Q (.int xs.length) H):Oe K [.ref a] H Q:=⟨_,_,rfl,.inr ⟨xs,ha,rfl⟩,h⟩
structure F4 (mg:Str->Option Value)(x:Str)(v:V):Prop where
 ex:∃u,mg x=some u/\RelV v u
def Hh (G:F4 X.mg x v)(hg:autoParam (Gl X x) zX)(hd:autoParam ((x == ("__debug__":Str))=false) zW):QE X (.Name x pos) (tC v):=by
 obtain⟨u,h,r⟩:=G.ex;exact⟨Zs1 hg h r hd⟩
def Zev (K:Pi)(tl:TE):TI:=λσ H R=>tl σ H λx H1=>(∃a,x=.ref a/\(∃xs,SqL K H1 a xs)/\R (Jv K a) H1)\/(∃a,x=.ref a/\(∃xs,SqT K H1 a xs)/\R (J2 K a) H1)\/∃z,x=.str z/\R (Its z) H1
def Zly (hl:QE X l tl):QI X tg l (Zev X.K tl):=by
 refine⟨λpins s σ H R I h=>?_⟩;refine Au (hl.run pins s σ H _ I h) λv O zq=>?_;obtain⟨x,H1,U,r1,q1⟩:=zq;have one:∀(l:Expr)(t:TE),PE X l t->True:=λ_ _ _=>trivial;rcases q1 with⟨a,e,⟨xs,Z⟩,q⟩|⟨a,e,⟨xs,Z⟩,q⟩|⟨z,e,q⟩
 ·subst e;cases r1;obtain⟨Y,rv,p,hz⟩:=U.list Z;refine Vo p.isList ?_;refine⟨O.heap.objs.size,[O.heap.objs.size],_,_,H1,rfl,U.kept (t':=O.toks) λb o e=>Pp _ e,Znd a _,⟨_,P4 _ rfl,rfl,rfl⟩,λb hb=>?_,q⟩;have e:b=O.heap.objs.size:=by simpa using hb
  subst e;exact U.fpOk (Pm _) (U.hok.fresh (Pm _))
 ·subst e;cases r1;obtain⟨Y,rv,p,hz⟩:=U.tuple Z;refine Ul (show O.heap.IsTuple a Y.toArray from p) ?_;refine⟨O.heap.objs.size,[O.heap.objs.size],_,_,H1,rfl,U.kept (t':=O.toks) λb o e=>Pp _ e,Zmq a _,⟨_,P4 _ rfl,rfl,rfl⟩,λb hb=>?_,q⟩;have e:b=O.heap.objs.size:=by simpa using hb
  subst e;exact U.fpOk (Pm _) (U.hok.fresh (Pm _))
 ·subst e;obtain⟨t,rfl⟩:=r1;refine wpAny_pyIter_strU ?_;refine⟨O.heap.objs.size,[O.heap.objs.size],_,_,H1,rfl,U.kept (t':=O.toks) λb o e=>Pp _ e,Zo7 _ z t,⟨_,P4 _ rfl,rfl,rfl⟩,λb hb=>?_,q⟩;have e:b=O.heap.objs.size:=by simpa using hb
  subst e;exact U.fpOk (Pm _) (U.hok.fresh (Pm _))
end
section
variable {X:Cx}{tg:Expr}
end
noncomputable def L0 (K:Pi)(a:Addr)(n:Nat):It :=
 ⟨λi H=>∃xs,SqL K H a xs/\xs.length=n/\i<n,λi H x H'=>H'=H/\∀xs,SqL K H a xs->xs[n-1-i]?=some x,λi _=>i=n⟩
def Zqv {P:Program}{w:World}{K:Pi}{tg:Expr}(a it:Addr)(n:Nat):Jr P w K tg (L0 K a n) [it] it (λi h=>i<=n/\h.IsRevIter it a ((n:Int)-1-(i:Int))) where
 mem:=by simp
 obj:=λi h st b hb=>by
  have e:b=it:=by simpa using hb
  subst e;obtain⟨o,e,c,d⟩:=st.2;exact⟨o,e,λv z=>by rw[d]at z;cases z⟩
 keep:=λi h h' st k=>⟨st.1,st.2.at λo e=>k it (by simp) o e⟩
 item:=by
  intro X hP hw Z hc i pins s σ H E I hf st hg;subst hP hw Z;obtain⟨xs,hq,hl,hi⟩:=hg;obtain⟨aa,rv,p,hz⟩:=I.list hq;have hx:xs[n-1-i]?=some (xs[n-1-i]'(by lia)):=Pk (by lia);obtain⟨u,hu,ru⟩:=rv.get hx;obtain⟨f0,f1,f2,f3,Y,f5⟩:=hf it (by simp);have e:(n:Int)-1-(i:Int)=((n-1-i:Nat):Int):=by lia
  have O:=st.2;rw[e]at O;refine wpAny_pyNext_rev_item O p.isList (x:=u) (by simpa using hu) λh' U sb=>?_;have I1:Inv X pins σ H { s with heap:=h' }:=I.turned (t':=s.toks) (λb o hb e=>(sb.2 b hb).trans e) f0 f1 f3 Y f5;have e2:((n-1-i:Nat):Int)-1=(n:Int)-1-((i+1:Nat):Int):=by lia
  rw[e2]at U;obtain⟨o,eo,c,d⟩:=id U;exact⟨u,rfl,N3 (s:={ s with heap:=h' }) eo c d (by decide) ⟨_,H,I1,ru,⟨rfl,λys hy=>by rw[I.list_inj hy hq];exact hx⟩,⟨hi,U⟩,λb hb=>(hf b hb).1⟩⟩
 done:=by
  intro X hP hw Z hc i pins s σ H E I hf st hg;subst hP hw Z;have hg:i=n:=hg;subst hg;obtain⟨f0,f1,f2,f3,Y,f5⟩:=hf it (by simp);have e:(i:Int)-1-(i:Int)=-1:=by lia
  have O:=st.2;rw[e]at O;exact wpAny_pyNext_rev_end (I.ok.hd hc) O λh' eb=>⟨rfl,I.turned (t':=s.toks) (λb o hb e=>eb b o hb e) f0 f1 f3 Y f5⟩
 self:=λ_ _ _ _ _ st h=>wpAny_pyIter_revIter st.2 h
def Zn6:bootBuiltins "reversed"=some (.type "reversed"):=by right
section
variable {X:Cx}{tg:Expr}
def Zec (K:Pi)(ta:TA):TI:=λσ H R=>ta σ H λvs H1=>eX2 λa xs=>vs=[.ref a]/\SqL K H1 a xs/\R (L0 K a xs.length) H1
def Zq0 (hg:Gl X "reversed")(hm:X.mg "reversed"=none)(ha:QA X [a] ta)(hs:autoParam (starEach [a] X.env=[(false,eval a X.env)]) zX):QI X tg (.Call (.Name "reversed" p) [a] [] pos) (Zec X.K ta):=by
 refine⟨λpins s σ H R I h=>?_⟩;refine Call_ (Gy I hg hm Zn6 (Sn (Au (ha.run pos pins s σ H _ I h) λus O zq=>?_) hs rfl));obtain⟨vs,H1,Z,r1,q1⟩:=zq;obtain⟨l,xs,e,hq,q⟩:=q1;subst e;cases r1 with
 |cons r rr =>
  cases rr;cases r;obtain⟨U,rv,pl,hz⟩:=Z.list hq;refine call_reversed_list pl.isList ?_;have hl:=rv.length;have Y:(O.heap.push (PySem.revObj l (((U.toArray).size:Int)-1))).IsRevIter O.heap.objs.size l ((xs.length:Int)-1-((0:Nat):Int)):=by
   refine⟨_,P4 _ rfl,rfl,?_⟩;have e:((U.toArray).size:Int)-1=(xs.length:Int)-1-((0:Nat):Int):=by simp[hl]
   rw[<- e];rfl
  refine wpAny_pyIter_revIter (it:=O.heap.objs.size) (l:=l) (i:=(xs.length:Int)-1-((0:Nat):Int)) Y ?_;refine⟨O.heap.objs.size,[O.heap.objs.size],_,_,H1,rfl,Z.kept (t':=O.toks) λb o e=>Pp _ e,Zqv l _ xs.length,⟨Qo _,Y⟩,λb hb=>?_,q⟩;have e:b=O.heap.objs.size:=by simpa using hb
  subst e;exact Z.fpOk (Pm _) (Z.hok.fresh (Pm _))
def Zhd {K:Pi}{a:Addr}{xs:List V}{g:TG}{tb:TS}{D:Ends}{σ:St}{H:Hp}(Pv:Nat->St->Hp->Prop)(h0:Pv 0 σ H)(hl:∀i σ H,i<=xs.length->Pv i σ H->SqL K H a xs)
  (hs:∀i x σ H,i<xs.length->xs[xs.length-1-i]?=some x->Pv i σ H->g x σ H λσ2 H2=>tb { D with nx:=Pv (i+1),ct:=Pv (i+1),bk:=D.nx } σ2 H2) (hd:∀σ H,Pv xs.length σ H->D.nx σ H) :
  ∃W:Nat->Nat->St->Hp->Prop,(∃m,W 0 m σ H)/\∀i m σ H,W i m σ H ->
   ((L0 K a xs.length).stop i H/\D.nx σ H)\/((L0 K a xs.length).go i H/\∃N:St->Hp->Prop,(∀σ' H',N σ' H'->∃m',m'<m/\W (i+1) m' σ' H')/\∀x H',(L0 K a xs.length).yld i H x H'->g x σ H' λσ2 H2=>tb { D with nx:=N,ct:=N,bk:=D.nx } σ2 H2):=by
 refine⟨λi m σ H=>m=xs.length-i/\i<=xs.length/\Pv i σ H,⟨xs.length,by simp,Qo _,h0⟩,?_⟩;rintro i m σ H ⟨rfl,hi,p⟩;have q:=hl i σ H hi p;by_cases I:i<xs.length
 ·refine .inr ⟨⟨xs,q,rfl,I⟩,Pv (i+1),λσ' H' O=>⟨xs.length-(i+1),by lia,rfl,I,O⟩,λx H' y=>?_⟩;obtain⟨e,y⟩:=y;subst e;exact hs i x σ _ I (y xs q) p
 ·have e:i=xs.length:=by lia
  subst e;exact .inl ⟨rfl,hd σ H p⟩
end
section
variable {prog:Program}{w:World}{A:Around}{E:Value->Shared->Prop}{s:Shared}
def Zva (hit:s.heap.IsTupleIter it t i)(ht:s.heap.IsTuple t items)(hx:items[i]?=some x)(hQ:∀h',h'.IsTupleIter it t (i+1)->P5 it s.heap h'->Q x { s with heap:=h' }):wpAny (model prog w) A (Q4 (.ref it)) Q E s:=by
 obtain⟨o,I,Y,hd⟩:=id hit;obtain⟨Z,O,_,nl,U⟩:=ht;unfold Q4;refine Pj (Rj (name:=Qx "__next__") hit.typeIs U2
  (Rm U2 hit.typeIs Xe ?_ (Xd _)))
 show wpAny _ _ (field (.ref it) 0 >>= _) _ _ s;refine Pj (Py I hd (x:=.ref t) rfl ?_);show wpAny _ _ (if (Value.ref t == Value.none)=true then _ else _) _ _ s;rw[if_neg (show ¬((Value.ref t == Value.none)=true) from Pu)];show wpAny _ _ (field (.ref it) 1 >>= _) _ _ s;refine Pj (Py I hd (x:=.int i 0) rfl ?_);show wpAny _ _ (seqItems? (.ref t) >>= _) _ _ s;refine Pj (Rg O U ?_);simp only[Qz,hx];refine Pj (Uu I hd (by simp) (Pl ⟨x,rfl,Pl (hQ _ ?_ (P5.update ..))⟩));exact⟨_,Sb _ I (Wm (Vk hd _)),(Obj.cls_mapFields ..).trans Y,by
  rw[Vk hd];simp[rawInt]⟩
def Ztg (hh:A.handled=none)(hit:s.heap.IsTupleIter it t i)(ht:s.heap.IsTuple t items)(hx:items[i]?=none)(hE:∀h' e,T9 it s.heap h'->(∃o,h'.get? e=some o/\o.cls=.type "StopIteration")->E (.ref e) { s with heap:=h' }):wpAny (model prog w) A (Q4 (.ref it)) Q E s:=by
 obtain⟨o,I,Y,hd⟩:=id hit;obtain⟨Z,O,_,nl,U⟩:=ht;unfold Q4;refine Pj (Rj (name:=Qx "__next__") hit.typeIs U2
  (Rm U2 hit.typeIs Xe ?_ (Xd _)))
 show wpAny _ _ (field (.ref it) 0 >>= _) _ _ s;refine Pj (Py I hd (x:=.ref t) rfl ?_);show wpAny _ _ (if (Value.ref t == Value.none)=true then _ else _) _ _ s;rw[if_neg (show ¬((Value.ref t == Value.none)=true) from Pu)];show wpAny _ _ (field (.ref it) 1 >>= _) _ _ s;refine Pj (Py I hd (x:=.int i 0) rfl ?_);show wpAny _ _ (seqItems? (.ref t) >>= _) _ _ s;refine Pj (Rg O U ?_);simp only[Qz,hx];refine Pj (Ua (Pj (Uu I hd (by simp) ?_)));show wpAny _ _ (newExc (.type "StopIteration") [] >>= _) _ _ _;refine Pj ?_;simp only[newExc,newTuple];refine Pj (Se ?_ (by size_fits));refine Pj (m:=firstArgMember _ _) (wpAny_of_eq (a:=Value.none) (by first|rfl|(simp only[firstArgMember];rfl)) ?_);refine Se ?_ (by size_fits);simp only[raiseNew];refine Pj (wpAny_handled ?_)
 first|rw[show A.in1.handled=none from hh]|rw[hh]
 refine Pj (Pl (wpAny_throw ?_));exact hE _ _ (((P5.update ..).extBut.push _).push _) ⟨_,P4 _ rfl,rfl⟩
end
def Zc7 (hh:A.handled=none)(it l:Addr)(hne:l≠it)(items:Array Value) :
  Draws prog w A it [it,l] items.size (λi v=>items[i]?=some v) (λi h=>h.IsTupleIter it l i/\h.IsTuple l items) where
 live:=λ_ _ st=>let ⟨o,ho,_⟩:=st.1;⟨o,ho⟩
 frame:=λ_ _ _ st U=>⟨st.1.at λo e=>U it (by simp) o e,let ⟨o,e,r⟩:=st.2;⟨o,U l (by simp) o e,r⟩⟩
 item:=λi s Q E hi st Y=>by
  refine Zva st.1 st.2 (x:=items[i]) (by simp[hi]) λh' I O=>?_;exact Y _ h' s.toks (by simp[hi]) ⟨I,st.2.extBut O.extBut hne⟩ O
 done:=λs Q E st Z=>Ztg hh st.1 st.2 (by simp) Z
def Zp3 (l:Addr)(items:Array Value)(n:Nat)(dct:Option Addr)(sl:Array (Option Value)) :
  Meets (Builtin.«enumerate.__new__» ⟨[.type "enumerate",.ref l],[]⟩) (λ_ R s=>s.heap.get? l=some { cls:=.type "tuple",dict:=dct,data:=.seq items n,slots:=sl } /\
   R (.ok (.ret (.ref (s.heap.push { cls:=.type "tuple_iterator",data:=.fields #[.ref l,.int 0 0] }).objs.size)))
    { s with heap:=(s.heap.push { cls:=.type "tuple_iterator",data:=.fields #[.ref l,.int 0 0] }).push { cls:=.type "enumerate",data:=.fields #[.none,.bool false,.ref s.heap.objs.size,rawInt 0,.none,.none] } }) :=
 .of_wp λprog w A R s h=>by
  obtain⟨hp,g,d,tk,os⟩:=s;obtain⟨hl,h⟩:=h;have O:=sub_enumerate;have I:Heap.IsTuple (Shared.heap ⟨hp,g,d,tk,os⟩) l items:=⟨_,hl,rfl,n,rfl⟩
  wp_walk using U3 hl
  refine wpAny_stack_any λst=>Pl ?_;split
  ·rename_i c _ _ _ _ _;cases (c == Value.type "enumerate")
   ·wp_walk using U3 hl,Ul I
    exact⟨_,rfl,h⟩
   ·wp_walk using U3 hl,Ul I
    exact⟨_,rfl,h⟩
  ·wp_walk using U3 hl,Ul I
   exact⟨_,rfl,h⟩
section
variable {prog:Program}{w:World}{A:Around}{E:Value->Shared->Prop}{s:Shared}
def Zmu (hL:s.heap.IsTuple l items)(h:∀h',IsEnum h' (s.heap.objs.size+1) s.heap.objs.size 0 .none->h'.IsTupleIter s.heap.objs.size l 0->h'.objs.size=s.heap.objs.size+2 ->
   (∀b o,s.heap.get? b=some o->h'.get? b=some o)->Q (.ref (s.heap.objs.size+1)) { s with heap:=h' }) :
  wpAny (model prog w) A (call (.type "enumerate") [.ref l]) Q E s:=by
 obtain⟨⟨c,O,Z,Y⟩,hl,I,n,hd⟩:=hL;replace I:c=.type "tuple":=I;replace hd:Z=.seq items n:=hd;subst I hd;refine callType_new PySem.F.called_enumerate (by decide) (PySem.F.typeCall_enumerate_1 _) (PySem.F.newCall_enumerate_1 _) (λobj=>PySem.F.args_object_init_2 obj _) PySem.F.entry_enumerate_new
  (Zp3 l items n O Y) ⟨hl,?_⟩
 have hz:(s.heap.push { cls:=.type "tuple_iterator",data:=.fields #[.ref l,.int 0 0] }).objs.size=s.heap.objs.size+1:=Qv ..;show _/\_;rw[hz];have U:IsEnum ((s.heap.push { cls:=.type "tuple_iterator",data:=.fields #[.ref l,.int 0 0] }).push
   { cls:=.type "enumerate",data:=.fields #[.none,.bool false,.ref s.heap.objs.size,rawInt 0,.none,.none] }) (s.heap.objs.size+1) s.heap.objs.size 0 .none:=by
  unfold IsEnum;rw[<- hz];exact P4 _ rfl
 refine⟨⟨_,U,rfl⟩,h _ U ⟨_,Pp _ (P4 _ rfl),rfl,rfl⟩ (by rw[Qv,hz]) λb o e=>Pp _ (Pp _ e)⟩
def O7 (h:Heap)(e it:Addr)(i:Int):Prop:=eX4 λ(a:Addr)(oa:Obj)(f1 old:Value)=>h.get? e=some { cls:=.type "enumerate",dict:=none,data:=.fields #[rawInt a,f1,.ref it,rawInt i,.none,old],slots:=#[] }/\h.get? a=some oa/\a≠e/\a≠it
def Zjq (h:Q (s.heap.get? a) s):wpAny (model prog w) A (loadIfAlive a) Q E s:=by
 intro Γ p I;show Sem.wp _ Γ (.loadIfAlive a .pure) _ _ p s;rw[Sem.wp_loadIfAlive];exact h
def Zlm {e it:Addr}{fp:List Addr}{n i:Nat}{P:Nat->Value->Prop}{St:Nat->Heap->Prop}{Q:Value->Shared->Prop}
  (D:Draws prog w A it fp n P St) (he0:O7 s.heap e it i) (hst:St i s.heap) (hlt:i<n) (hne:e≠it) (hef:e ∉ fp)
  (hQ:∀x h' tk,P i x->O7 h' e it ((i:Int)+1)->St (i+1) h' ->
   h'.get? s.heap.objs.size=some { cls:=.type "tuple",data:=.seq #[.int i tk,x] }->h'.objs.size=s.heap.objs.size+1 ->
   (∀b o,b≠e->b≠it->s.heap.get? b=some o->h'.get? b=some o)->Q (.ref s.heap.objs.size) { s with heap:=h',toks:=tk+1 }) :
  wpAny (model prog w) A (Builtin.«enumerate.__next__» ⟨[.ref e],[]⟩) (λfin s'=>∃v,fin=.done (.ret v)/\Q v s') E s:=by
 obtain⟨a,oa,f1,old,he,a3,ap,au⟩:=he0;obtain⟨hp,g,d,a5,os⟩:=s;show wpAny _ _ (field (.ref e) 2 >>= _) _ _ _;refine Pj (Py he rfl (x:=.ref it) rfl ?_);refine Pj (D.item i _ _ _ hlt hst λx ae tk a4 al Z=>?_);replace Z:P5 it hp ae:=Z;have ag:=(Z.2 e hne).trans he;have an:=Z.extBut a oa au a3;show wpAny _ _ (field (.ref e) 3 >>= _) _ _ ⟨ae,g,d,tk,os⟩;refine Pj (Py ag rfl (x:=rawInt i) rfl ?_);show wpAny _ _ (field (.ref e) 4 >>= _) _ _ ⟨ae,g,d,tk,os⟩;refine Pj (Py ag rfl (x:=.none) rfl ?_);show wpAny _ _ (mkInt i >>= _) _ _ ⟨ae,g,d,tk,os⟩;refine Pj (wpAny_mkInt ?_);show wpAny _ _ (setField (.ref e) 3 (rawInt ((i:Int)+1)) >>= _) _ _ ⟨ae,g,d,tk+1,os⟩;refine Pj (Rl ag (by simp) λaj ai Y=>?_);replace Y:P5 e ae aj:=Y;have am:=Y.extBut a oa ap an;replace ai:aj.get? e=some { cls:=.type "enumerate",dict:=none,data:=.fields #[rawInt a,f1,.ref it,rawInt ((i:Int)+1),.none,old],slots:=#[] }:=ai;show wpAny _ _ (setField (.ref e) 4 .none >>= _) _ _ ⟨aj,g,d,tk+1,os⟩;refine Pj (Rl ai (by simp) λaa af U=>?_);replace U:P5 e aj aa:=U;have ao:=U.extBut a oa ap am;replace af:aa.get? e=some { cls:=.type "enumerate",dict:=none,data:=.fields #[rawInt a,f1,.ref it,rawInt ((i:Int)+1),.none,old],slots:=#[] }:=af;show wpAny _ _ (newTuple [.int i tk,x] >>= _) _ _ ⟨aa,g,d,tk+1,os⟩;refine Pj (wpAny_newTuple ?_);have ad:(aa.push { cls:=.type "tuple",data:=.seq #[.int i tk,x] }).get? e=some { cls:=.type "enumerate",dict:=none,data:=.fields #[rawInt a,f1,.ref it,rawInt ((i:Int)+1),.none,old],slots:=#[] }:=Pp _ af;have ah:(aa.push { cls:=.type "tuple",data:=.seq #[.int i tk,x] }).get? a=some oa:=Pp _ ao;generalize hh₄:aa.push { cls:=.type "tuple",data:=.seq #[.int i tk,x] }=O at ad ah;have as:aa.objs.size=hp.objs.size:=by rw[U.1,Y.1,Z.1]
 have a6:e<hp.objs.size:=Pr he;have av:O.get? hp.objs.size=some { cls:=.type "tuple",data:=.seq #[.int i tk,x] }:=by rw[<- hh₄,<- as];exact P4 _ rfl
 have ax:O.objs.size=hp.objs.size+1:=by rw[<- hh₄,Qv,as]
 have ay:∀b o,b≠e->b≠it->hp.get? b=some o->O.get? b=some o:=λb o ak aw hb=>by
  rw[<- hh₄];exact Pp _ (U.extBut b o ak (Y.extBut b o ak (Z.extBut b o aw hb)))
 have aq:St (i+1) O:=D.frame _ _ _ al λb hb o y=>by
  have ak:b≠e:=λq=>hef (q ▸ hb);rw[<- hh₄];exact Pp _ (U.extBut b o ak (Y.extBut b o ak y))
 show wpAny _ _ (Ri (.ref e) >>= _) _ _ ⟨O,g,d,tk+1,os⟩;rw[as];clear hh₄ ao am an af U ai Y ag Z al as aa aj ae;refine Pj ?_;unfold Ri;refine Pj (Py ad rfl (x:=rawInt a) rfl ?_);show wpAny _ _ (loadIfAlive ((a:Int).toNat) >>= _) _ _ ⟨O,g,d,tk+1,os⟩;refine Pj (Zjq ?_);rw[Qz];show wpAny _ _ (if (O.get? a).isNone=true then _ else _) _ _ ⟨O,g,d,tk+1,os⟩;rw[ah];rw[if_neg (by simp)];refine Pj (Py ad rfl (x:=f1) rfl ?_);have fin:∀ac,O7 ac e it ((i:Int)+1)->P5 e O ac->Q (.ref hp.objs.size) ⟨ac,g,d,tk+1,os⟩:=λac hl I =>
  hQ x ac tk a4 hl (D.frame _ _ _ aq λb hb o y=>I.extBut b o (λq=>hef (q ▸ hb)) y) (I.extBut _ _ (Q3 a6) av) (by rw[I.1,ax]) λb o ak aw hb=>I.extBut b o ak (ay b o ak aw hb)
 by_cases hf:(f1 != Value.bool true)=true
 ·simp only[hf,if_true];refine Pj (Rl ad (by simp) λac a0 I=>?_);replace I:P5 e O ac:=I;refine Pl ?_;simp only[Um,if_false];refine Pl ⟨_,rfl,fin ac ⟨a,oa,.bool true,old,a0,I.extBut a oa ap ah,ap,au⟩ I⟩
 ·simp only[hf];refine Pl ?_;simp only[Um,if_false];exact Pl ⟨_,rfl,fin O ⟨a,oa,f1,old,ad,ah,ap,au⟩ (P5.refl ..)⟩
def EnSt (h:Heap)(e it:Addr)(i:Nat):Prop:=(i=0/\∃old,IsEnum h e it 0 old)\/(0<i/\O7 h e it i)
def EnSt.obj (x:EnSt h e it i):∃vs,h.get? e=some { cls:=.type "enumerate",dict:=none,data:=.fields vs,slots:=#[] }:=by
 rcases x with⟨_,old,x⟩|⟨_,_,_,_,_,x,_⟩
 ·exact⟨_,x⟩
 ·exact⟨_,x⟩
def Zle {e it:Addr}{fp:List Addr}{n i:Nat}{P:Nat->Value->Prop}{St:Nat->Heap->Prop}{Q:Option Value->Shared->Prop}
  (D:Draws prog w A.in1 it fp n P St) (he:EnSt s.heap e it i) (hst:St i s.heap) (hlt:i<n) (hne:e≠it) (hef:e ∉ fp)
  (hQ:∀x h' tk,P i x->EnSt h' e it (i+1)->St (i+1) h' ->
   h'.get? s.heap.objs.size=some { cls:=.type "tuple",data:=.seq #[.int i tk,x] }->h'.objs.size=s.heap.objs.size+1 ->
   (∀b o,b≠e->b≠it->s.heap.get? b=some o->h'.get? b=some o)->Q (some (.ref s.heap.objs.size)) { s with heap:=h',toks:=tk+1 }) :
  wpAny (model prog w) A (pyNext (.ref e)) Q E s:=by
 obtain⟨vs,U⟩:=he.obj;have Y:s.TypeIs (.ref e) "enumerate":=⟨_,U,rfl⟩;have O:e<s.heap.objs.size:=Pr U;have I:it<s.heap.objs.size:=by obtain⟨_,y⟩:=D.live _ _ hst;exact Pr y
 rcases he with⟨rfl,old,he⟩|⟨_,he⟩
 ·refine wpAny_pyNext_enum_itemD D he hst hlt hne hef λx h' tk a b c z k q=>?_;exact hQ x h' tk a (.inr ⟨Wb _,_,_,_,_,b,z,Q3 O,Q3 I⟩) c z k q
 ·unfold pyNext;exact Pj (Tu (Rj (name:=Qx "__next__") Y U4
   (Rm U4 Y Xg
    (Zlm D he hst hlt hne hef λx h' tk a b c z k q=>Pl (hQ x h' tk a (.inr ⟨Wb _,b⟩) c z k q)) (Xf _))))
def Zvt {e it:Addr}{fp:List Addr}{n:Nat}{P:Nat->Value->Prop}{St:Nat->Heap->Prop}{Q:Option Value->Shared->Prop}
  (D:Draws prog w A.in1 it fp n P St) (he:EnSt s.heap e it n) (hst:St n s.heap)
  (hQ:∀h',T9 it s.heap h'->Q none { s with heap:=h' }):wpAny (model prog w) A (pyNext (.ref e)) Q E s:=by
 obtain⟨vs,I⟩:=he.obj;have Z:s.TypeIs (.ref e) "enumerate":=⟨_,I,rfl⟩;have h2:vs[2]?=some (.ref it):=by
  rcases he with⟨rfl,old,he⟩|⟨_,a,oa,f1,old,he,_⟩
  ·unfold IsEnum at he;rw[I]at he;injection he with he;injection he with _ _ he _;injection he with he;rw[he];rfl
  ·rw[I]at he;injection he with he;injection he with _ _ he _;injection he with he;rw[he];rfl
 unfold pyNext;refine Pj (Tu (Rj (name:=Qx "__next__") Z U4
  (Rm U4 Z Xg ?_ (Xf _))))
 show wpAny _ _ (field (.ref e) 2 >>= _) _ _ _;refine Pj (Py I rfl (x:=.ref it) h2 ?_);refine Pj (D.done _ _ _ hst λh' x U Y=>?_);obtain⟨o,O,hc⟩:=Y;refine Pj (W3 (T:="StopIteration") (b:=true) ⟨o,O,hc⟩ isSubtype_stop ?_);exact Pl (hQ _ U)
end
def Zk1 (hT:s.TypeIs (.ref it) T)(n1:typeLookup (.type T) "__len__"=pure none)(n2:typeLookup (.type T) "__length_hint__"=pure none)(h:Q true s):wpAny (model prog w) A (Wf (.ref it)) Q E s:=by
 unfold Wf;refine Pj (W9 hT n1 ?_);show wpAny _ A (specialOf (Value.ref it) (Qx "__length_hint__") >>= _) _ _ _;refine Pj (W9 hT n2 ?_);exact Pl h
structure Src (X:Cx)(pins:List (Addr×Obj))(σ:St)(it:Addr)(T:String)(n:Nat)(H0:Hp)(J:Nat->List V->Hp->Heap->Prop):Prop where
 ty:∀i ys H h,J i ys H h->∃o,h.get? it=some o/\o.cls=.type T
 nl:(Value.type T == Value.type "list")=false/\(Value.type T == Value.type "tuple")=false
 hint:∃mr:Bool,∀(A:Around)(s:Shared)(Q:Bool->Shared->Prop)(E:Value->Shared->Prop),s.TypeIs (.ref it) T->Q mr s->wpAny (model X.prog X.w) A (Wf (.ref it)) Q E s
 self:∀(A:Around)(s:Shared)(ys:List V)(H:Hp)(Q:Value->Shared->Prop)(E:Value->Shared->Prop),J 0 ys H s.heap->Q (.ref it) s->wpAny (model X.prog X.w) A (pyIter (.ref it)) Q E s
 keep:∀i ys H h h' S zs zs',H0 S=none->H S=some (.lst zs)->J i ys H h->(∀b o,b≠S->h.get? b=some o->h'.get? b=some o)->(∃o,h'.get? S=some o)->J i ys (upd H S (.lst zs')) h'
 fresh:∀i ys H h,J i ys H h->H it=none
 item:∀(A:Around)(i:Nat)(s:Shared)(H:Hp)(ys:List V)(E:Value->Shared->Prop),A.handled=none->i<n->Inv X pins σ H s->J i ys H s.heap ->
  wpAny (model X.prog X.w) A (pyNext (.ref it)) (λr s'=>eX3 λu x H'=>r=some u/\RelV x u/\Inv X pins σ H' s'/\J (i+1) (ys++[x]) H' s'.heap/\∀S zs,H S=some (.lst zs)->H' S=some (.lst zs)) E s
 done:∀(A:Around)(s:Shared)(H:Hp)(ys:List V)(E:Value->Shared->Prop),A.handled=none->Inv X pins σ H s->J n ys H s.heap ->
  wpAny (model X.prog X.w) A (pyNext (.ref it)) (λr s'=>r=none/\Inv X pins σ H s') E s
section
variable {X:Cx}{pins:List (Addr×Obj)}{σ:St}{it:Addr}{T:String}{n:Nat}{H0:Hp}{J:Nat->List V->Hp->Heap->Prop}
def Zfe (C:Src X pins σ it T n H0 J)(hn:n<=sizeLine)(hh:A.handled=none)(S:Addr)(hS0:H0 S=none)(res:Value)(fin:∀s' H' ys',Inv X pins σ H' s'->H' S=some (.lst ys')->ys'.length=n->(∃h,J n ys' H' h)->R (.ok (.ret res)) s') :
  ∀(k i:Nat)(s:Shared)(H:Hp)(ys:List V),n-i=k->i<=n->Inv X pins σ H s->J i ys H s.heap->H S=some (.lst ys)->ys.length=i ->
  codeAny (model X.prog X.w) A (.builtin "list.extend.loop" ⟨[.ref S,.ref it,res],[]⟩) R s:=by
 intro k
 induction k with
 |zero =>
  intro i s H ys hk hi I j hS hl;have aa:i=n:=by lia
  subst aa;refine Tp PySem.F.entry_extend_loop ?_;rw[Ti Ub _];show wpAny _ A.in1 (pyNext (.ref it) >>= _) _ _ s;refine Pj (Au (C.done A.in1 s H ys _ hh I j) λr s' zq=>?_);obtain⟨hr,Z⟩:=zq;subst hr;exact Pl (fin s' H ys Z hS hl ⟨_,j⟩)
 |succ k ih =>
  intro i s H ys hk hi I j hS hl;have Y:i<n:=by lia
  refine Tp PySem.F.entry_extend_loop ?_;rw[Ti Ub _];show wpAny _ A.in1 (pyNext (.ref it) >>= _) _ _ s;refine Pj (Au (C.item A.in1 i s H ys _ hh Y I j) λr s' zq=>?_);obtain⟨u,x,H',hr,rx,Z,j',kS⟩:=zq;subst hr;have U:=kS S ys hS;obtain⟨z,O,m,rv,ac,e⟩:=Z.lstM U;show wpAny _ A.in1 (updateSeq S (·.push u) >>= _) _ _ _;refine Pj ?_;have hu:(O.toArray.push u)=(O++[u]).toArray:=by simp
  have I2:=Z.lset (f:=(·.push u)) (its':=O++[u]) (ys:=ys++[x]) (t':=s'.toks) U e hu (rv.append (.cons rx .nil)) (by rw[Pn,Pz];lia);refine Vx e rfl (Pl ⟨Ta Ub _,ih (i+1) _ _ (ys++[x]) (by lia) Y I2 ?_ Ac (by simp[hl])⟩)
   (by rw[Po];lia) (by show(O.toArray.push u).size<=sizeLine+1;rw[Array.size_push,Po];lia)
  exact C.keep _ _ _ _ _ S ys (ys++[x]) hS0 U j' (λb o hb eb=>(Re _ _ (Px hb)).trans eb) ⟨_,Sb _ e rfl⟩
def Ziu (C:Src X pins σ it T n H J)(hn:n<=sizeLine)(hh:A.handled=none)(I:Inv X pins σ H s)(j:J 0 [] H s.heap)(jn:∀S,s.heap.objs.size<=S->H S=none->∀h',(∀b o,s.heap.get? b=some o->h'.get? b=some o)->J 0 [] (upd H S (.lst [])) h')(q:∀S H' ys,H S=none->H' S=some (.lst ys)->ys.length=n->(∃h,J n ys H' h)->Q (.ref S) H') :
  wpAny (model X.prog X.w) A (call (.type "list") [.ref it]) (EP X pins σ Q) E s:=by
 have hf:H s.heap.objs.size=none:=I.hok.fresh (Pm _);have an:s.heap.objs.size≠it:=by
  obtain⟨o,e,_⟩:=C.ty _ _ _ _ j;exact Q3 (Pr e)
 refine callType_codes (Q₁:=λobj ac=>obj=.ref s.heap.objs.size/\ac={ s with heap:=s.heap.push { cls:=.type "list",data:=.seq #[] } }) PySem.F.called_list (PySem.F.typeCall_list_1 _) PySem.F.entry_list_init
  (code_list_new _ ⟨rfl,rfl⟩) λobj ac ai=>?_
 obtain⟨rfl,rfl⟩:=ai;have hS:(s.heap.push { cls:=.type "list",data:=.seq #[] }).get? s.heap.objs.size=some { cls:=.type "list",data:=.seq #[] }:=P4 _ rfl;have I1:Inv X pins σ (upd H s.heap.objs.size (.lst [])) { s with heap:=s.heap.push { cls:=.type "list",data:=.seq ([]:List Value).toArray } }:=I.lnew (ys:=[]) (its:=[]) (t':=s.toks) .nil (by simp);have j1:J 0 [] (upd H s.heap.objs.size (.lst [])) (s.heap.push { cls:=.type "list",data:=.seq ([]:List Value).toArray })   := jn _ (Pm _) hf _ λb o e=>Pp _ e;refine⟨⟨_,hS,rfl⟩,PySem.F.args_list_init_2 _ _,?_⟩;generalize hs1:({ s with heap:=s.heap.push { cls:=.type "list",data:=.seq ([]:List Value).toArray } }:Shared)=U at I1;have aa:U.heap.get? s.heap.objs.size=some { cls:=.type "list",data:=.seq ([]:List Value).toArray }:=by rw[<- hs1];exact hS
 replace j1:J 0 [] (upd H s.heap.objs.size (.lst [])) U.heap:=by rw[<- hs1];exact j1
 have aj:({ s with heap:=s.heap.push { cls:=.type "list",data:=.seq #[] } }:Shared)=U:=hs1
 first|rw[aj]|skip
 show wpAny _ A.in1.in1 (do let old <- Builtin.List.listItems (.ref s.heap.objs.size);Builtin.List.listUpdate (.ref s.heap.objs.size) (λ_=>#[]);letGo old.toList.reverse;Wg (.ref s.heap.objs.size) (.ref it) .none) _ _ U;generalize s.heap.objs.size=S at *
 refine Pj ?_;unfold Builtin.List.listItems;refine Pj (Rg aa rfl (Pl ?_));show wpAny _ A.in1.in1 (updateSeq S (λ_=>#[]) >>= λ_=>letGo (#[]:Array Value).toList.reverse >>= λ_=>Wg (.ref S) (.ref it) .none) _ _ U;refine Pj (Vx aa rfl ?_);have I2:=I1.lset (f:=λ_=>#[]) (its':=[]) (ys:=[]) (t':=U.toks) Ac aa rfl .nil (by simp);have ao:=Sb (Qy (λ_=>(#[]:Array Value))) aa rfl;have j2:=C.keep _ _ _ _ (U.heap.update S (Qy λ_=>#[])) S [] [] hf Ac j1 (λb o hb eb=>(Re _ _ (Px hb)).trans eb) ⟨_,ao⟩;rw[Ks]at I2 j2;generalize hs2:({ U with heap:=U.heap.update S (Qy λ_=>#[]),toks:=U.toks }:Shared)=Y at I2;replace j2:J 0 [] (upd H S (.lst [])) Y.heap:=by rw[<- hs2];exact j2
 have ak:({ U with heap:=U.heap.update S (Qy λ_=>#[]) }:Shared)=Y:=hs2
 first|rw[ak]|skip
 refine Pj (We ?_);obtain⟨oi,ei,ci⟩:=C.ty _ _ _ _ j2;have hT:Y.TypeIs (.ref it) T:=⟨oi,ei,ci⟩;unfold Wg;refine Pj (Tz hT ?_);have h1:Builtin.List.listSameRef (.ref S) (.ref it)=false:=by simp[Builtin.List.listSameRef,an]
 have h2:=C.nl.1;have h3:=C.nl.2;simp only[h1,h2,h3,Bool.or_false,Um,if_false];refine Pj (C.self _ Y _ _ _ _ j2 ?_);refine Pj (Q8 ?_);obtain⟨mr,al⟩:=C.hint;refine al _ _ _ _ hT ?_;split
 ·show wpAny _ A.in1.in1 (rule "list.extend.makes-room" >>= λ_=>Builtin.List.listTouch (.ref S) >>= λ_ =>
   again (.builtin "list.extend.loop" ⟨[.ref S,.ref it,.none],[]⟩)) _ _ _
  refine Pj (Ua ?_);refine Pj ?_;show wpAny _ A.in1.in1 (updateSeq S (·.push .none) >>= λ_=>updateSeq S (·.pop)) _ _ _;obtain⟨_,au,m2,am,_,e2⟩:=I2.lstM Ac;cases am;refine Pj (Vx e2 rfl ?_);have I3:=I2.lset (f:=(·.push Value.none)) (its':=[.none]) (ys:=[.non]) (t':=Y.toks) Ac e2 (by simp) (.cons rfl .nil) (by show 1<=sizeLine;decide);have ap:=Sb (Qy (·.push Value.none)) e2 rfl;have j3:=C.keep _ _ _ _ (Y.heap.update S (Qy (·.push Value.none))) S [] [.non] hf Ac j2 (λb o hb eb=>(Re _ _ (Px hb)).trans eb) ⟨_,ap⟩;rw[Ks]at I3 j3;generalize hs3:({ Y with heap:=Y.heap.update S (Qy (·.push Value.none)),toks:=Y.toks }:Shared)=s3 at I3;replace j3:J 0 [] (upd H S (.lst [.non])) s3.heap:=by rw[<- hs3];exact j3
  have ah:({ Y with heap:=Y.heap.update S (Qy (·.push Value.none)) }:Shared)=s3:=hs3
  first|rw[ah]|skip
  obtain⟨_,Z,m3,av,as,e3⟩:=I3.lstM Ac;have O:Z.length=1:=as.symm;refine Vx e3 rfl ?_ (by rw[Po,O];decide) (by show Z.toArray.pop.size<=sizeLine+1;rw[Array.size_pop,Po,O];decide);have I4:=I3.lset (f:=(·.pop)) (its':=[]) (ys:=[]) (t':=s3.toks) Ac e3 (by
   cases Z with
   |nil=>simp at O
   |cons a r=>cases r with
    |nil=>simp
    |cons b r'=>simp at O) .nil (by simp)
  have aq:=Sb (Qy (·.pop)) e3 rfl;have j4:=C.keep _ _ _ _ (s3.heap.update S (Qy (·.pop))) S [.non] [] hf Ac j3 (λb o hb eb=>(Re _ _ (Px hb)).trans eb) ⟨_,aq⟩;rw[Ks]at I4 j4;refine Pl ⟨Ta Ub _,Zfe C hn (A:=A.in1) hh S hf .none ?_ n 0 _ _ [] rfl (Qo _) I4 j4 Ac rfl⟩;intro s' H' ae I' af ag ad;exact⟨rfl,.ref S,H',I',rfl,q S H' ae hf af ag ad⟩
 ·refine Pl ⟨Ta Ub _,Zfe C hn (A:=A.in1) hh S hf .none ?_ n 0 _ _ [] rfl (Qo _) I2 j2 Ac rfl⟩;intro s' H' ae I' af ag ad;exact⟨rfl,.ref S,H',I',rfl,q S H' ae hf af ag ad⟩
end
section
variable {X:Cx}{pins:List (Addr×Obj)}{σ:St}{H:Hp}{s:Shared}{h':Heap}
def Inv.turned2 (I:Inv X pins σ H s)(k:∀b o,b≠i1->b≠i2->s.heap.get? b=some o->h'.get? b=some o)(f1:FpOk X pins H i1)(f2:FpOk X pins H i2):Inv X pins σ H { s with heap:=h',toks:=t' }:=by
 obtain⟨n1,Y,_,e1,c1,p1⟩:=f1;obtain⟨n2,Z,_,e2,c2,p2⟩:=f2;have U:∀b u,H b=some u->b≠i1/\b≠i2:=λb u e=>⟨(λz=>by rw[z,n1]at e;exact nomatch e),(λz=>by rw[z,n2]at e;exact nomatch e)⟩;refine I.step (g':=s.gens) (d':=s.drawn) (ch:=[i1,i2]) (λb hb=>?_) (λb o _ _ O e _=>k b o (λz=>O (by simp[z])) (λz=>O (by simp[z])) e) (λb o _ _ O e _=>⟨o.slots,k b o (λz=>O (by simp[z])) (λz=>O (by simp[z])) e⟩) (λ_ _ _ _ n=>n)
  (λb o O e=>⟨o,k b o (λz=>O (by simp[z])) (λz=>O (by simp[z])) e⟩) (λ_ _ e=>e) (λ_ _ _ e=>e) (λb ps e=>⟨#[],by rw[e];simp⟩) (λm hm=>?_) (λb u e=>?_) I.bare
 ·rcases Ps.mp hb with rfl|hb
  ·exact⟨e1,Y,c1,p1⟩
  ·rw[P8.mp hb];exact⟨e2,Z,c2,p2⟩
 ·obtain⟨o,es,ep,ho,r⟩:=hm;exact⟨o,es,ep,k _ o (Px Y) (Px Z) ho,r⟩
 ·refine(I.hok b u e).stay (λc v O q=>k c v ?_ ?_ q) (λ_ q=>q) λ_ _ q=>q
  ·rcases O with z|z
   ·rw[z];exact(U b u e).1
   ·exact(U c _ z).1
  ·rcases O with z|z
   ·rw[z];exact(U b u e).2
   ·exact(U c _ z).2
end
def FpOk.of (f:FpOk X pins H b)(h:H' b=none):FpOk X pins H' b:=⟨h,f.2⟩
def SqT.kept {K:Pi}{H:Hp}{S a:Addr}{zs zs' xs:List V}(hS:H S=some (.lst zs))(h:SqT K H a xs):SqT K (upd H S (.lst zs')) a xs:=by
 rcases h with(h|⟨o,h⟩)|h
 ·exact .inl (.inl (by rw[Ah (El h hS (by intro z;cases z))];exact h))
 ·exact .inl (.inr ⟨o,by rw[Ah (El h hS (by intro z;cases z))];exact h⟩)
 ·exact .inr h
def SqT.same {K:Pi}{H H':Hp}{a:Addr}{xs:List V}(h:SqT K H a xs)(e:Same H H'):SqT K H' a xs:=e.tup h
def Pairs (H:Hp)(xs:List V)(ys:List V):Prop:=∀(j:Nat)(y:V),ys[j]?=some y->eX2 λ(t:Addr)(x:V)=>y=V.ref t/\xs[j]?=some x/\H t=some (.tup [.int j,x])
def JEn (K:Pi)(H0:Hp)(en it a:Addr)(xs:List V):Nat->List V->Hp->Heap->Prop:=λi ys H h =>
 EnSt h en it i/\h.IsTupleIter it a i/\(H en=none/\H it=none)/\SqT K H a xs/\ys.length=i/\Pairs H xs ys/\Same H0 H
def Zpl:typeLookup (.type "enumerate") "__len__"=pure none:=by rw[Us,Ud];kernel_rfl
def Zmh:typeLookup (.type "enumerate") "__length_hint__"=pure none:=by rw[Us,Ud];kernel_rfl
def Zwx (fe:FpOk X pins H0 en)(fi:FpOk X pins H0 it)(hne:en≠it)(hae:a≠en)(hai:a≠it):Src X pins σ en "enumerate" xs.length H0 (JEn X.K H0 en it a xs) where
 ty:=λi ys H h j=>by
  obtain⟨vs,e⟩:=j.1.obj;exact⟨_,e,rfl⟩
 nl:=by decide
 hint:=⟨_,λA s Q E hT h=>Zk1 hT Zpl Zmh h⟩
 self:=λA s ys H Q E j q=>by
  rcases j.1 with⟨_,old,e⟩|⟨z,_⟩
  ·exact wpAny_pyIter_enum e q
  ·exact absurd z (Q7 _)
 keep:=λi ys H h h' S zs ah h0 hS j k al=>by
  obtain⟨j1,j2,⟨j3,j4⟩,j5,j6,j7,j8⟩:=j;have O:en≠S:=λz=>by rw[z,hS]at j3;cases j3
  have Z:it≠S:=λz=>by rw[z,hS]at j4;cases j4
  refine⟨?_,?_,⟨by rw[Ah O];exact j3,by rw[Ah Z];exact j4⟩,j5.kept hS,j6,λm y hy=>?_,λb o e=>?_⟩
  ·rcases j1 with⟨z,old,e⟩|⟨z,a0,oa,f1,old,e,ea,x1,x2⟩
   ·exact .inl ⟨z,old,k _ _ O e⟩
   ·by_cases hs:a0=S
    ·subst hs;obtain⟨o,eo⟩:=al;exact .inr ⟨z,a0,o,f1,old,k _ _ O e,eo,x1,x2⟩
    ·exact .inr ⟨z,a0,oa,f1,old,k _ _ O e,k _ _ hs ea,x1,x2⟩
  ·exact j2.at λo e=>k _ _ Z e
  ·obtain⟨t,x,e1,e2,e3⟩:=j7 m y hy;exact⟨t,x,e1,e2,by rw[Ah (El e3 hS (by intro z;cases z))];exact e3⟩
  ·have:b≠S:=λz=>by rw[z,h0]at e;cases e
   rw[Ah this];exact j8 b o e
 fresh:=λi ys H h j=>j.2.2.1.1
 item:=λA i s H ys E hh hi I j=>by
  obtain⟨j1,j2,⟨j3,j4⟩,j5,j6,j7,j8⟩:=j;obtain⟨U,rv,p,hz⟩:=I.tuple j5;have hl:=rv.length;have D:=Zc7 (prog:=X.prog) (w:=X.w) (A:=A.in1) hh it a hai U.toArray;refine Zle D j1 ⟨j2,p⟩ (by rw[Po];lia) hne (by simp[hne,Px hae]) λx h' tk Y ag ae ht ai kk=>?_;have I1:Inv X pins σ H { s with heap:=h',toks:=tk+1 }:=I.turned2 (λb o h1 h2 e=>kk b o h1 h2 e) (fe.of j3) (fi.of j4);have af:U[i]?=some x:=by simpa using Y
  have ad:i<xs.length:=hi;obtain⟨u,hu,ru⟩:=rv.get (Pk ad);rw[af]at hu;cases hu;have hf:H s.heap.objs.size=none:=I.hok.fresh (Pm _);have I2:Inv X pins σ (upd H s.heap.objs.size (.tup [.int i,xs[i]])) { s with heap:=h',toks:=tk+1 }:=by
   have ac:HOk X.prog X.w (upd H s.heap.objs.size (.tup [.int i,xs[i]])) h':=λb o e=>by
    by_cases hb:b=s.heap.objs.size
    ·subst hb;rw[Ac]at e;cases e;exact⟨by show 2<=sizeLine;decide,[.int i tk,x],.cons ⟨tk,rfl⟩ (.cons ru .nil),⟨_,ht,rfl,_,rfl⟩⟩
    ·rw[Ah hb]at e;refine(I1.hok b o e).stay (λc v _ q=>q) (λc q=>?_) λc zs q=>?_
     ·rw[Ah (Dh q hf)];exact q
     ·rw[Ah (Dh q hf)];exact q
   have u:Un (B8 X.stack) [en,it] H (upd H s.heap.objs.size (.tup [.int i,xs[i]])) s.heap h':={
    keep:=λb o e n _ Y=>kk b o (λz=>Y (by simp[z])) (λz=>Y (by simp[z])) e
    slot:=λb o e n _ Y=>⟨o.slots,kk b o (λz=>Y (by simp[z])) (λz=>Y (by simp[z])) e⟩
    free:=λb o e n _=>by rw[Ah (P3 (Pr e))];exact n
    there:=λb o e Y=>⟨o,kk b o (λz=>Y (by simp[z])) (λz=>Y (by simp[z])) e⟩
    tups:=λb zs e=>by rw[Ah (Dh e hf)];exact e
    frzs:=λb o u e=>by rw[Ah (Dh e hf)];exact e
    tbls:=λb ps e=>⟨#[],by rw[Ah (Dh e hf),e];simp⟩ }
   refine I.call (g':=s.gens) (d':=s.drawn) (t':=tk+1) u ac I.bare λb hb=>?_;rcases Ps.mp hb with rfl|hb
   ·exact⟨fe.2.2.2.1,fe.2.1,fe.2.2.2.2.1,fe.2.2.2.2.2⟩
   ·rw[P8.mp hb];exact⟨fi.2.2.2.1,fi.2.1,fi.2.2.2.2.1,fi.2.2.2.2.2⟩
  have sm:Same H (upd H s.heap.objs.size (.tup [.int i,xs[i]])):=Same.upd hf;have O:en≠s.heap.objs.size:=by obtain⟨_,e⟩:=j1.obj;exact P3 (Pr e)
  have Z:it≠s.heap.objs.size:=by obtain⟨_,e,_⟩:=j2;exact P3 (Pr e)
  refine⟨_,.ref s.heap.objs.size,_,rfl,rfl,I2,⟨ag,ae.1,⟨by rw[Ah O];exact j3,by rw[Ah Z];exact j4⟩,j5.same sm,by simp[j6],λm y hy=>?_,j8.trans sm⟩,λS zs e=>sm S _ e⟩;by_cases hm:m<i
  ·rw[Qk (by lia)]at hy;obtain⟨t,z,e1,e2,e3⟩:=j7 m y hy;exact⟨t,z,e1,e2,sm _ _ e3⟩
  ·have aa:=(Pt.mp hy).1;rw[Pn,Pz]at aa;have:m=i:=by lia
   subst this;rw[Qt (by lia),j6,Q9]at hy;have hy:V.ref s.heap.objs.size=y:=by simpa using hy
   exact⟨_,xs[m],hy.symm,Pk ad,Ac⟩
 done:=λA s H ys E hh I j=>by
  obtain⟨j1,j2,⟨j3,j4⟩,j5,j6,j7,j8⟩:=j;obtain⟨U,rv,p,hz⟩:=I.tuple j5;have hl:=rv.length;have D:=Zc7 (prog:=X.prog) (w:=X.w) (A:=A.in1) hh it a hai U.toArray;have e:xs.length=U.toArray.size:=by rw[Po];lia
  rw[e]at j1 j2;refine Zvt D j1 ⟨j2,p⟩ λh' eb=>⟨rfl,?_⟩;obtain⟨g0,g1,g2,g3,g4,g5⟩:=fi.of j4;exact I.turned (t':=s.toks) (λb o hb e=>eb b o hb e) g0 g1 g3 g4 g5
section
variable {X:Cx}
def Zkd:bootBuiltins "list"=some (.type "list"):=by right
def Zc9 (K:Pi)(ta:TA):TE:=λσ H Q=>ta σ H λvs H1=>eX2 λa xs=>vs=[.ref a]/\SqT K H1 a xs /\
 ∀(S:Addr)(ys:List V)(H2:Hp),H1 S=none->Same H1 H2->ys.length=xs.length->Pairs H2 xs ys->H2 S=some (.lst ys)->Q (.ref S) H2
def Zq5 (hg:Gl X "list")(hm:X.mg "list"=none)(hg2:Gl X "enumerate")(hm2:X.mg "enumerate"=none)(ha:QA X [e] ta)(hc:autoParam (X.calm=true) zX)(hs:autoParam (starEach [.Call (.Name "enumerate" p2) [e] [] pos2] X.env=[(false,eval (.Call (.Name "enumerate" p2) [e] [] pos2) X.env)]) zX)(hs2:autoParam (starEach [e] X.env=[(false,eval e X.env)]) zX) :
  QE X (.Call (.Name "list" p) [.Call (.Name "enumerate" p2) [e] [] pos2] [] pos) (Zc9 X.K ta):=by
 refine⟨λpins s σ H Q I h=>?_⟩;refine Call_ (Gy I hg hm Zkd (Sn ?_ hs rfl));rw[hs];show wpAny _ _ (spliced ((false,eval (.Call (.Name "enumerate" p2) [e] [] pos2) X.env)::[])) _ _ s;refine Ws ?_;refine Call_ (Gy I hg2 hm2 PyProof.Rows.boot_enumerate (Sn (Au (ha.run pos2 pins s σ H _ I h) λus O zq=>?_) hs2 rfl));obtain⟨vs,H1,Y,r1,q1⟩:=zq;obtain⟨a,xs,e1,hq,q⟩:=q1;subst e1;cases r1 with
 |cons r rr =>
  cases rr;cases r;obtain⟨af,rv,pt,hz⟩:=Y.tuple hq;have Z:a<O.heap.objs.size:=by obtain⟨o,e,_⟩:=id pt;exact Pr e
  refine Zmu (show O.heap.IsTuple a af.toArray from pt) λh' ac aa ag hk=>?_;refine Wz ?_;have I2:Inv X pins σ H1 { O with heap:=h' }:=Y.kept (t':=O.toks) hk;have fe:=Y.fpOk (b:=O.heap.objs.size+1) (Wd _) (Y.hok.fresh (Wd _));have fi:=Y.fpOk (b:=O.heap.objs.size) (Pm _) (Y.hok.fresh (Pm _));have C:=Zwx (X:=X) (pins:=pins) (σ:=σ) (H0:=H1) (en:=O.heap.objs.size+1) (it:=O.heap.objs.size) (a:=a) (xs:=xs) fe fi (Nat.succ_ne_self _) (P3 (Nat.lt_succ_of_lt Z)) (P3 Z);refine Ziu C (by lia) (Y.ok.hd hc) I2 ⟨.inl ⟨rfl,_,ac⟩,aa,⟨fe.1,fi.1⟩,hq,rfl,λj y hy=>by simp at hy,Same.refl _⟩ (λS U hS h2 k2=>?_) λS H' ys hS ad ae hj=>?_
  ·have sm:Same H1 (upd H1 S (.lst [])):=Same.upd hS;refine⟨.inl ⟨rfl,_,k2 _ _ ac⟩,aa.at λo e=>k2 _ _ e,⟨?_,?_⟩,hq.same sm,rfl,λj y hy=>by simp at hy,sm⟩
   ·rw[Ah (show O.heap.objs.size+1≠S from λz=>?_)]
    ·exact fe.1
    ·have U:h'.objs.size<=S:=U;lia
   ·rw[Ah (show O.heap.objs.size≠S from λz=>?_)]
    ·exact fi.1
    ·have U:h'.objs.size<=S:=U;lia
  ·obtain⟨h,j⟩:=hj;exact q S ys H' hS j.2.2.2.2.2.2 ae j.2.2.2.2.2.1 ad
end
end L2
namespace L2
open PySem PySem.SeqAt
open PySem.AutoSeq1 (wpAny_loadPart')
open PySem.MeetsSeq PySem.MeetsSeq2 PySem.MeetsSeq3 PySem.SeqRoads2
def Zwj (l b:Addr)(items items2:Array Value)(n n2:Nat)(dd dd2:Option Addr)(sl sl2:Array (Option Value))(hsz:items.size=items2.size)(e:Nat->Bool)(k:Nat) :
  ∀i:Nat,items.size-i=k->Meets (Builtin.«list.__eq__.loop» ⟨[.ref l,.ref b,rawInt i,rawInt 3],[]⟩)
   (λA R s=>s.heap.get? l=some { cls:=.type "list",dict:=dd,data:=.seq items n,slots:=sl }/\s.heap.get? b=some { cls:=.type "list",dict:=dd2,data:=.seq items2 n2,slots:=sl2 } /\
    (∀j (h1:j<items.size) (h2:j<items2.size),EqAt A.in1 s items[j] items2[j] (e j)) /\
    R (.ok (.ret (.bool (!((P7 items.size).drop i).all e)))) s):=by
 induction k with
 |zero =>
  intro i hk prog w A R s h;obtain⟨hp,g,d,tk,os⟩:=s;obtain⟨hl,hb,he,h⟩:=h
  wp_walk using wpAny_loadPart' hl,wpAny_loadPart' hb
  have O:items[((i:Nat):Int).toNat]?=none:=by simp;lia
  have I:items2[((i:Nat):Int).toNat]?=none:=by simp;lia
  have hd:(P7 items.size).drop i=[]:=by simp;lia
  rw[hd]at h;rw[O,I]
  wp_walk using wpAny_loadPart' hl,wpAny_loadPart' hb
  show R (.ok (.ret (.bool (items.size != items2.size)))) _;rw[hsz];simpa using h
 |succ k ih =>
  intro i hk prog w A R s h;obtain⟨hp,g,d,tk,os⟩:=s;obtain⟨hl,hb,he,h⟩:=h
  wp_walk using wpAny_loadPart' hl,wpAny_loadPart' hb
  have Y:i<items.size:=by lia
  have U:i<items2.size:=by lia
  have O:items[((i:Nat):Int).toNat]?=some items[i]:=by simp[Y]
  have I:items2[((i:Nat):Int).toNat]?=some items2[i]:=by simp[U]
  have hd:(P7 items.size).drop i=i::(P7 items.size).drop (i+1):=by simp[So,Y]
  have hc:((i:Int)+1)=((i+1:Nat):Int):=by push_cast;rfl
  rw[hd,Rq]at h;rw[O,I];refine Pj (he i Y U prog w _ _ ?_);cases Z:e i with
  |true =>
   rw[Z]at h
   wp_walk
   rw[hc];exact⟨Ta plain_eq_loop _,Tp entry_eq_loop (by
    rw[Ti plain_eq_loop _];exact ih (i+1) (by lia) prog w A R _ ⟨hl,hb,he,by simpa using h⟩)⟩
  |false =>
   rw[Z]at h
   wp_walk using wpAny_loadPart' hl,wpAny_loadPart' hb
   rw[O,I]
   wp_walk
   simpa using h
def Zwt (l b:Addr)(items items2:Array Value)(n n2:Nat)(dd dd2:Option Addr)(sl sl2:Array (Option Value))(hsz:items.size=items2.size)(e:Nat->Bool) :
  Meets (Builtin.«list.__ne__» ⟨[.ref l,.ref b],[]⟩)
   (λA R s=>s.heap.get? l=some { cls:=.type "list",dict:=dd,data:=.seq items n,slots:=sl }/\s.heap.get? b=some { cls:=.type "list",dict:=dd2,data:=.seq items2 n2,slots:=sl2 } /\
    (∀j (h1:j<items.size) (h2:j<items2.size),EqAt A.in1 s items[j] items2[j] (e j)) /\
    R (.ok (.ret (.bool (!(P7 items.size).all e)))) s):=by
 intro prog w A R s h;obtain⟨hp,g,d,tk,os⟩:=s;obtain⟨hl,hb,O,h⟩:=h;have U:=PySem.AutoSeq1.sub_list_list;have I:¬(items.size != items2.size)=true:=by simp[hsz]
 wp_walk using wpAny_loadPart' hl,wpAny_loadPart' hb
 exact⟨Ta plain_eq_loop _,Tp entry_eq_loop (by
  rw[Ti plain_eq_loop _];exact Zwj l b items items2 n n2 dd dd2 sl sl2 hsz e _ 0 rfl prog w A R _ ⟨hl,hb,O,by simpa using h⟩)⟩
def Zls (l b:Addr)(items items2:Array Value)(n n2:Nat)(dd dd2:Option Addr)(sl sl2:Array (Option Value))(e:Nat->Bool) :
  Meets (Builtin.«tuple.__ne__» ⟨[.ref l,.ref b],[]⟩)
   (λA R s=>s.heap.get? l=some { cls:=.type "tuple",dict:=dd,data:=.seq items n,slots:=sl }/\s.heap.get? b=some { cls:=.type "tuple",dict:=dd2,data:=.seq items2 n2,slots:=sl2 } /\
    (∀j (h1:j<items.size) (h2:j<items2.size),EqAt A.in1 s items[j] items2[j] (e j)) /\
    R (.ok (.ret (.bool (!((P7 (min items.size items2.size)).all e && items.size == items2.size))))) s) :=
 .of_wp λprog w A R s h=>by
  obtain⟨hp,g,d,tk,os⟩:=s;obtain⟨hl,hb,he,h⟩:=h;have f2:=PySem.AutoSeq1.sub_tuple_tuple;have hZ:(items.toList.zip items2.toList).length=min items.size items2.size:=by simp
  wp_walk using wpAny_loadPart' hl,wpAny_loadPart' hb,wpAny_forIn_list _ (λrest b s'=>b.1=none/\s'=⟨hp,g,d,tk,os⟩/\∃i,rest=(items.toList.zip items2.toList).drop i /\
   R (.ok (.ret (.bool (!(((P7 (min items.size items2.size)).drop i).all e && items.size == items2.size))))) ⟨hp,g,d,tk,os⟩) _
  case turn =>
   rintro⟨y,x⟩ rest b s' ⟨I,rfl,i,hz,hR⟩;have O:i<(items.toList.zip items2.toList).length:=by
    rcases Nat.lt_or_ge i (items.toList.zip items2.toList).length with h'|h'
    ·exact h'
    ·rw[Sr h']at hz;cases hz
   have Y:i<min items.size items2.size:=hZ ▸ O;have h1:i<items.size:=Qb Y (Nat.min_le_left _ _);have h2:i<items2.size:=Qb Y (Nat.min_le_right _ _);rw[So O]at hz;injection hz with hyx hrest;have U:y=items[i]:=by have:=congrArg Prod.fst hyx;simpa using this
   have hx:x=items2[i]:=by have:=congrArg Prod.snd hyx;simpa using this
   subst U hx;have hd:(P7 (min items.size items2.size)).drop i=i::(P7 (min items.size items2.size)).drop (i+1):=by simp[So,Y]
   rw[hd,Rq]at hR;refine Pj (he i h1 h2 prog w _ _ ?_);cases U:e i with
   |true =>
    rw[U]at hR
    wp_walk
    exact⟨rfl,rfl,i+1,hrest,by simpa using hR⟩
   |false =>
    rw[U]at hR
    wp_walk
    exact⟨_,rfl,by simpa using hR⟩
  case fin =>
   rintro⟨b1,b2⟩ s' ⟨I,rfl,i,hz,hR⟩;simp only at I;subst I;have Z:min items.size items2.size<=i:=by
    rcases Nat.lt_or_ge i (items.toList.zip items2.toList).length with h'|h'
    ·rw[So h']at hz;cases hz
    ·exact hZ ▸ h'
   rw[Sr (by simpa using Z)]at hR
   wp_walk
   exact⟨_,rfl,by simpa [Builtin.Tuple.tupleCompareSizes,bne] using hR⟩
  case h =>
   exact⟨rfl,rfl,0,rfl,by simpa using h⟩
section
variable {prog:Program}{w:World}{A:Around}{E:Value->Shared->Prop}{s:Shared}
def Zvl (hl:s.heap.IsList l items)(hb:s.heap.IsList b items2)(hsz:items.size=items2.size)(hu:A.units<cLine)(he:∀j (h1:j<items.size) (h2:j<items2.size),EqAt A.in1 s items[j] items2[j] (e j))(h:Q (.bool (!(P7 items.size).all e)) s):wpAny (model prog w) A (compareOp .NotEq (.ref l) (.ref b)) Q E s:=by
 obtain⟨⟨ae,dd,ac,sl⟩,ho,hc,n,hd⟩:=id hl;obtain⟨⟨ad,Y,aa,Z⟩,O,U,n2,I⟩:=id hb;simp only at hc hd U I;subst hc hd U I;exact richCompare_meets_room (op:=.NotEq) ⟨_,ho,rfl⟩ ⟨_,O,rfl⟩ F.slot_list_ne F.entry_list_ne (F.args_list_ne_2 _ _) (Zwt l b items items2 n n2 dd Y sl Z hsz e)
  ⟨ho,O,he,show Value.bool (!(P7 items.size).all e)≠Value.notImplemented/\Q (.bool (!(P7 items.size).all e)) s from⟨(λx=>nomatch x),h⟩⟩ hu
def Zpv (hl:s.heap.IsTuple l items)(hb:s.heap.IsTuple b items2)(hu:A.units<cLine)(he:∀j (h1:j<items.size) (h2:j<items2.size),EqAt A.in1 s items[j] items2[j] (e j))(h:Q (.bool (!((P7 (min items.size items2.size)).all e && items.size == items2.size))) s):wpAny (model prog w) A (compareOp .NotEq (.ref l) (.ref b)) Q E s:=by
 obtain⟨⟨ae,dd,ac,sl⟩,ho,hc,n,hd⟩:=id hl;obtain⟨⟨ad,Y,aa,Z⟩,O,U,n2,I⟩:=id hb;simp only at hc hd U I;subst hc hd U I;exact richCompare_meets_room (op:=.NotEq) ⟨_,ho,rfl⟩ ⟨_,O,rfl⟩ F.slot_tuple_ne F.entry_tuple_ne (F.args_tuple_ne_2 _ _) (Zls l b items items2 n n2 dd Y sl Z e)
  ⟨ho,O,he,show Value.bool (!((P7 (min items.size items2.size)).all e && items.size == items2.size))≠Value.notImplemented/\Q (.bool (!((P7 (min items.size items2.size)).all e && items.size == items2.size))) s from⟨(λx=>nomatch x),h⟩⟩ hu
end
end L2
namespace L2
open PySem PySem.Spec PyProof.Rows
inductive Dt where
 |flat (v:V)
 |tup (ds:List Dt)
 |lst (ds:List Dt)
inductive IsD (K:Pi)(H:Hp):Nat->V->Dt->Prop where
 |flat {n:Nat} {v:V} (h:Db v=true):IsD K H n v (.flat v)
 |tup {n:Nat} {a:Addr} {vs:List V} {ds:List Dt} (q:SqT K H a vs) (l:vs.length=ds.length) (h:∀(j:Nat)(v:V)(d:Dt),vs[j]?=some v->ds[j]?=some d->IsD K H n v d):IsD K H (n+1) (.ref a) (.tup ds)
 |lst {n:Nat} {a:Addr} {vs:List V} {ds:List Dt} (q:SqL K H a vs) (l:vs.length=ds.length) (h:∀(j:Nat)(v:V)(d:Dt),vs[j]?=some v->ds[j]?=some d->IsD K H n v d):IsD K H (n+1) (.ref a) (.lst ds)
def IsD.same {K:Pi}{H H':Hp}{n:Nat}{v:V}{d:Dt}(h:IsD K H n v d)(e:Same H H'):IsD K H' n v d:=by
 induction h with
 |flat h=>exact .flat h
 |tup q l _ I=>exact .tup (e.tup q) l I
 |lst q l _ I=>exact .lst (e.seq q) l I
def IsD.up {K:Pi}{H:Hp}{n m:Nat}{v:V}{d:Dt}(h:IsD K H n v d)(hm:n<=m):IsD K H m v d:=by
 induction h generalizing m with
 |flat h=>exact .flat h
 |tup q l _ O =>
  obtain⟨k,rfl⟩:∃k,m=k+1:=⟨m-1,by lia⟩;exact .tup q l λj v d U I=>O j v d U I (by lia)
 |lst q l _ O =>
  obtain⟨k,rfl⟩:∃k,m=k+1:=⟨m-1,by lia⟩;exact .lst q l λj v d U I=>O j v d U I (by lia)
def Zhf (h:Db v=true):Fi v v=true:=by
 cases v with
 |non=>rfl
 |bl b=>simp[Fi]
 |int i=>simp[Fi]
 |str x=>simp[Fi]
 |byt _=>cases h
 |flt _=>cases h
 |ref _=>cases h
 |ty _=>cases h
section
variable {X:Cx}{pins:List (Addr×Obj)}{σ:St}{H:Hp}{s:Shared}
def Zlv (I:Inv X pins σ H s):∀{n:Nat}{x y:V}{d:Dt},IsD X.K H n x d->IsD X.K H n y d->∀{A:Around}{u v:Value},RelV x u->RelV y v->A.units+n<cLine->P6 A s u v true:=by
 intro n
 induction n with
 |zero =>
  intro x y d hx hy A u v rx ry hu;cases hx with
  |flat fx =>
   cases hy with
   |flat fy =>
    have:=Zbs (A:=A) (s:=s) rx ry fx fy;rw[Zhf fx]at this;exact this
 |succ n ih =>
  intro x y d hx hy A u v rx ry hu;cases hx with
  |flat fx =>
   cases hy with
   |flat fy =>
    have:=Zbs (A:=A) (s:=s) rx ry fx fy;rw[Zhf fx]at this;exact this
  | @tup _ a vs ds q l h =>
   cases hy with
   | @tup _ b ws _ q' l' h' =>
    cases rx;cases ry;by_cases Y:a=b
    ·subst Y;exact W7 _
    obtain⟨U,r1,p1,_⟩:=I.tuple q;obtain⟨O,r2,p2,_⟩:=I.tuple q';have l1:=r1.length;have l2:=r2.length;have:=SeqAt.RcAt.tuples (A:=A) (e:=λ_=>true) (show s.heap.IsTuple a U.toArray from p1) (show s.heap.IsTuple b O.toArray from p2) (by lia) λj h1 h2=>by
     have Z:j<vs.length:=by simp only[Po]at h1;lia
     have aa:j<ws.length:=by simp only[Po]at h2;lia
     obtain⟨u1,g1,k1⟩:=r1.get (Pk Z);obtain⟨u2,g2,k2⟩:=r2.get (Pk aa);have e1:U.toArray[j]=u1:=by
      have:U[j]?=some U[j]:=by simp
      rw[this]at g1;simpa using g1
     have e2:O.toArray[j]=u2:=by
      have:O[j]?=some O[j]:=by simp
      rw[this]at g2;simpa using g2
     rw[e1,e2];have hd:j<ds.length:=by lia
     exact ih (h j _ _ (Pk Z) (Pk hd)) (h' j _ _ (Pk aa) (Pk hd)) k1 k2 (by show A.units+1+n<cLine;lia)
    have e:((P7 (min U.toArray.size O.toArray.size)).all (λ_=>true) && U.toArray.size == O.toArray.size)=true:=by
     have:U.toArray.size=O.toArray.size:=by simp only[Po];lia
     rw[this];simp
    rw[e]at this;exact P6.of_refs Y this
  | @lst _ a vs ds q l h =>
   cases hy with
   | @lst _ b ws _ q' l' h' =>
    cases rx;cases ry;by_cases Y:a=b
    ·subst Y;exact W7 _
    obtain⟨U,r1,p1,_⟩:=I.list q;obtain⟨O,r2,p2,_⟩:=I.list q';have l1:=r1.length;have l2:=r2.length;have:=SeqAt.RcAt.lists (A:=A) (e:=λ_=>true) p1.isList p2.isList (by simp only[Po];lia) (by lia) λj h1 h2=>by
     have Z:j<vs.length:=by simp only[Po]at h1;lia
     have aa:j<ws.length:=by simp only[Po]at h2;lia
     obtain⟨u1,g1,k1⟩:=r1.get (Pk Z);obtain⟨u2,g2,k2⟩:=r2.get (Pk aa);have e1:U.toArray[j]=u1:=by
      have:U[j]?=some U[j]:=by simp
      rw[this]at g1;simpa using g1
     have e2:O.toArray[j]=u2:=by
      have:O[j]?=some O[j]:=by simp
      rw[this]at g2;simpa using g2
     rw[e1,e2];have hd:j<ds.length:=by lia
     exact ih (h j _ _ (Pk Z) (Pk hd)) (h' j _ _ (Pk aa) (Pk hd)) k1 k2 (by show A.units+1+n<cLine;lia)
    have e:(P7 U.toArray.size).all (λ_=>true)=true:=by simp
    rw[e]at this;exact P6.of_refs Y this
def Pa (I:Inv X pins σ H s){n:Nat}{A:Around}{vs ws:List V}{its its2:List Value}{ds:List Dt}(r1:Vals vs its)(r2:Vals ws its2)(l:vs.length=ds.length)(l':ws.length=ds.length)
  (h:∀(j:Nat)(v:V)(d:Dt),vs[j]?=some v->ds[j]?=some d->IsD X.K H n v d) (h':∀(j:Nat)(v:V)(d:Dt),ws[j]?=some v->ds[j]?=some d->IsD X.K H n v d) (hu:A.units+n<cLine) :
  ∀j (h1:j<its.toArray.size) (h2:j<its2.toArray.size),P6 A s its.toArray[j] its2.toArray[j] ((λ_=>true) j):=λj h1 h2=>by
 have l1:=r1.length;have l2:=r2.length;have U:j<vs.length:=by simp only[Po]at h1;lia
 have O:j<ws.length:=by simp only[Po]at h2;lia
 obtain⟨u1,g1,k1⟩:=r1.get (Pk U);obtain⟨Y,g2,k2⟩:=r2.get (Pk O);have Z:its.toArray[j]=u1:=by
  have:its[j]?=some its[j]:=by simp
  rw[this]at g1;simpa using g1
 have e2:its2.toArray[j]=Y:=by
  have:its2[j]?=some its2[j]:=by simp
  rw[this]at g2;simpa using g2
 rw[Z,e2];have hd:j<ds.length:=by lia
 exact Zlv I (h j _ _ (Pk U) (Pk hd)) (h' j _ _ (Pk O) (Pk hd)) k1 k2 hu
end
section
variable {X:Cx}
def Za1 (K:Pi)(b:Bool):R2:=λx y H Q=>eX4 λ(a c:Addr)(n:Nat)(d:Dt)=>x=.ref a/\y=.ref c/\n<=190/\IsD K H n x d/\IsD K H n y d/\Q (.bl b) H
def Zub (hu:X.A.units+200<cLine):OpR X (compareOp .Eq) (Za1 X.K true):=by
 intro pins s σ H x y v u Q I rx ry h;obtain⟨a,c,n,d,rfl,rfl,hn,hx,hy,q⟩:=h;cases rx;cases ry;cases hx with
 |flat fx=>cases fx
 | @tup n _ vs ds qx l hd =>
  cases hy with
  | @tup _ _ ws _ qy l' Y =>
   obtain⟨U,r1,p1,_⟩:=I.tuple qx;obtain⟨O,Z,p2,_⟩:=I.tuple qy;have l1:=r1.length;have l2:=Z.length;refine SeqAt.eq_tupleAt (e:=λ_=>true) (show s.heap.IsTuple a U.toArray from p1) (show s.heap.IsTuple c O.toArray from p2) (by lia) (Pa I r1 Z l l' hd Y (by show X.A.units+1+n<cLine;lia)) ?_;have e:((P7 (min U.toArray.size O.toArray.size)).all (λ_=>true) && U.toArray.size == O.toArray.size)=true:=by
    have:U.toArray.size=O.toArray.size:=by simp only[Po];lia
    rw[this];simp
   rw[e];exact⟨.bl true,H,I,rfl,q⟩
 | @lst n _ vs ds qx l hd =>
  cases hy with
  | @lst _ _ ws _ qy l' Y =>
   obtain⟨U,r1,p1,_⟩:=I.list qx;obtain⟨O,Z,p2,_⟩:=I.list qy;have l1:=r1.length;have l2:=Z.length;refine SeqAt.eq_listAt (e:=λ_=>true) p1.isList p2.isList (by simp only[Po];lia) (by lia) (Pa I r1 Z l l' hd Y (by show X.A.units+1+n<cLine;lia)) ?_;have e:(P7 U.toArray.size).all (λ_=>true)=true:=by simp
   rw[e];exact⟨.bl true,H,I,rfl,q⟩
def Zoo (hu:X.A.units+200<cLine):OpR X (compareOp .NotEq) (Za1 X.K false):=by
 intro pins s σ H x y v u Q I rx ry h;obtain⟨a,c,n,d,rfl,rfl,hn,hx,hy,q⟩:=h;cases rx;cases ry;cases hx with
 |flat fx=>cases fx
 | @tup n _ vs ds qx l hd =>
  cases hy with
  | @tup _ _ ws _ qy l' Y =>
   obtain⟨U,r1,p1,_⟩:=I.tuple qx;obtain⟨O,Z,p2,_⟩:=I.tuple qy;have l1:=r1.length;have l2:=Z.length;refine Zpv (e:=λ_=>true) (show s.heap.IsTuple a U.toArray from p1) (show s.heap.IsTuple c O.toArray from p2) (by lia) (Pa I r1 Z l l' hd Y (by show X.A.units+1+n<cLine;lia)) ?_;have e:(!((P7 (min U.toArray.size O.toArray.size)).all (λ_=>true) && U.toArray.size == O.toArray.size))=false:=by
    have:U.toArray.size=O.toArray.size:=by simp only[Po];lia
    rw[this];simp
   rw[e];exact⟨.bl false,H,I,rfl,q⟩
 | @lst n _ vs ds qx l hd =>
  cases hy with
  | @lst _ _ ws _ qy l' Y =>
   obtain⟨U,r1,p1,_⟩:=I.list qx;obtain⟨O,Z,p2,_⟩:=I.list qy;have l1:=r1.length;have l2:=Z.length;refine Zvl (e:=λ_=>true) p1.isList p2.isList (by simp only[Po];lia) (by lia) (Pa I r1 Z l l' hd Y (by show X.A.units+1+n<cLine;lia)) ?_;have e:(!(P7 U.toArray.size).all (λ_=>true))=false:=by simp
   rw[e];exact⟨.bl false,H,I,rfl,q⟩
def Lq (K:Pi):R2:=λx y H Q=>rEq x y H Q\/Za1 K true x y H Q
def Ze2 (K:Pi):R2:=λx y H Q=>rNe x y H Q\/Za1 K false x y H Q
def Zgc (hu:X.A.units+200<cLine):OpR X (compareOp .Eq) (Lq X.K):=op_eq.or (Zub hu)
def Zqa (hu:X.A.units+200<cLine):OpR X (compareOp .NotEq) (Ze2 X.K):=op_ne.or (Zoo hu)
def s_eq {K:Pi}{x y:V}{H:Hp}{Q:VK}(hs:Zak x y=true)(h:Q (.bl (decide (x=y))) H):Lq K x y H Q:=.inl ⟨hs,h⟩
def s_ne {K:Pi}{x y:V}{H:Hp}{Q:VK}(hs:Zak x y=true)(h:Q (.bl (!decide (x=y))) H):Ze2 K x y H Q:=.inl ⟨hs,h⟩
def Room.u200 (r:Room k A):A.units+200<cLine:=by have:=r.un;lia
end
section
variable {t u:TS}{c d:TT}{te ta tb tc:TE}{g:TG}{gs:Fj}{ts:TA}{D:Ends}{σ:St}{H:Hp}{Q:VK}{QB:Bool->Hp->Prop}{QA':List V->Hp->Prop}
def s_seq (h:t { D with nx:=u D } σ H):Zcs t u D σ H:=h
def s_asg (h:te σ H λx H1=>g x σ H1 D.nx):Io te g D σ H:=h
def s_ret (h:te σ H D.rt):Zbk te D σ H:=h
def s_drop (h:te σ H λ_ H1=>D.nx σ H1):Zc2 te D σ H:=h
def s_next (h:D.nx σ H):Zbt D σ H:=h
def s_ifS (h:c σ H λb H1=>if b=true then t D σ H1 else u D σ H1):Cm c t u D σ H:=h
def s_var (e:σ[i]?=some (some v))(h:Q v H):Hl i σ H Q:=⟨v,e,h⟩
def s_c (h:Q v H):tC v σ H Q:=h
def s_op (h:ta σ H λx H1=>tb σ H1 λy H2=>r x y H2 Q):Es r ta tb σ H Q:=h
def s_un (h:ta σ H λx H1=>r x H1 Q):tUn r ta σ H Q:=h
def s_test (h:te σ H λx H'=>∃k,x=.bl k/\QB k H'):N1 te σ H QB:=h
def s_tB (h:te σ H λx H'=>∃k,x=.bl k/\QB k H'):tB te σ H QB:=h
def s_ex {b:Bool}{P:Bool->Prop}(h:P b):∃k,V.bl b=V.bl k/\P k:=⟨b,rfl,h⟩
def s_exi {i:Int}{P:Int->Prop}(h:P i):∃k,V.int i=V.int k/\P k:=⟨i,rfl,h⟩
def s_not (h:c σ H λb H1=>QB (!b) H1):Zdq c σ H QB:=h
def s_and (h:c σ H λb H1=>if b=true then d σ H1 QB else QB false H1):Zco c d σ H QB:=h
def s_or (h:c σ H λb H1=>if b=true then QB true H1 else d σ H1 QB):tOr c d σ H QB:=h
def s_andV (h:ta σ H λx H1=>∃k,x=.bl k/\if k=true then tb σ H1 Q else Q (.bl false) H1):Zcn ta tb σ H Q:=h
def s_orV (h:ta σ H λx H1=>∃k,x=.bl k/\if k=true then Q (.bl true) H1 else tb σ H1 Q):Zdj ta tb σ H Q:=h
def s_notV (h:ta σ H λx H1=>∃k,x=.bl k/\Q (.bl (!k)) H1):Zed ta σ H Q:=h
def s_nil (h:QA' [] H):Fk σ H QA':=h
def s_cons (h:te σ H λx H1=>ts σ H1 λxs H2=>QA' (x::xs) H2):Dq te ts σ H QA':=h
def s_vals (h:QA' xs H):Zea xs σ H QA':=h
def s_tup (h:ts σ H λxs H1=>xs.length<=sizeLine/\∀p,H1 p=none->Q (.ref p) (upd H1 p (.tup xs))):Zb6 ts σ H Q:=h
def s_lst (h:ts σ H λxs H1=>xs.length<=sizeLine/\∀p,H1 p=none->Q (.ref p) (upd H1 p (.lst xs))):Zd2 ts σ H Q:=h
def s_call (h:ts σ H λvs H1=>sp (vs++dvs) H1 Q E):Oh sp dvs E ts σ H Q:=h
def s_cb (h:ts σ H λvs H1=>r vs H1 Q):Iv r ts σ H Q:=h
def s_bm {K:Pi}{T:String}{r:V->List V->Hp->VK->Prop}(h:te σ H λx H1=>Ll K T x H1/\ts σ H1 λxs H2=>r x xs H2 Q):tBM K T r te ts σ H Q:=h
def s_bm0 {K:Pi}{T:String}{r:V->List V->Hp->VK->Prop}(h:te σ H λx H1=>Ll K T x H1/\r x [] H1 Q):Pf K T r te σ H Q:=h
def s_sl (h:te σ H λx H1=>tl σ H1 λl H2=>th σ H2 λu H3=>r x l u H3 Q):tSl r te tl th σ H Q:=h
def s_po (h:te σ H λx H1=>∃i,x=.int i/\QO' (some i) H1):Zcu te σ H QO':=h
def s_po0 (h:QO' none H):Zbx σ H QO':=h
def s_gname (h:QS' (σ.set i (some v)) H):Ev i v σ H QS':=h
def Dv {K:Pi}{n:Nat}{a:Addr}{xs:List V}{QS':St->Hp->Prop}(q:SqT K H a xs)(l:xs.length=n)(h:gs xs σ H QS'):Mo K n gs (.ref a) σ H QS':=⟨a,xs,rfl,q,l,h⟩
def s_gcons (h:g v σ H λσ' H'=>gs r σ' H' QS'):Ht g gs (v::r) σ H QS':=⟨v,r,rfl,h⟩
def s_gnil (h:QS' σ H):Oi [] σ H QS':=⟨rfl,h⟩
def s_gsub (h:to σ H λo H1=>ti σ H1 λi H2=>tt o i v H2 λH3=>QS' σ H3):Zb2 to ti tt v σ H QS':=h
def s_isN (h:ta σ H λx H1=>Q (.bl (decide (x=.non))) H1):Zb0 ta σ H Q:=h
def s_notN (h:ta σ H λx H1=>Q (.bl (!decide (x=.non))) H1):Zeb ta σ H Q:=h
end
section
variable {wi:TI}{σ0:St->St}{g:TG}{tt:TT}{te:TE}{ta:TA}{tb:TS}{D:Ends}{σ:St}{H:Hp}{Q:VK}{R:It->Hp->Prop}{K:Pi}
def s_comp (h:wi σ H λJ H1=>∀L,H1 L=none->Zbc J g tt te (σ0 σ) H1 L Q):Nq wi σ0 g tt te σ H Q:=h
def s_for (h:wi σ H λJ H1=>∃W:Nat->Nat->St->Hp->Prop,(∃m,W 0 m σ H1)/\∀i m σ H,W i m σ H ->
 (J.stop i H/\D.nx σ H)\/(J.go i H/\∃N:St->Hp->Prop,(∀σ' H',N σ' H'->∃m',m'<m/\W (i+1) m' σ' H')/\∀x H',J.yld i H x H'->g x σ H' λσ2 H2=>tb { D with nx:=N,ct:=N,bk:=D.nx } σ2 H2)):Zet wi g tb D σ H:=h
def s_rng1 (h:ta σ H λvs H1=>∃j:Int,vs=[.int j]/\-(2 ^ 62)<=j/\j<2 ^ 62/\R (Kb 0 j.toNat) H1):Zd9 ta σ H R:=h
def s_exr {i:Int}{P:Int->Prop}(h:P i):∃j,([V.int i]:List V)=[.int j]/\P j:=⟨i,rfl,h⟩
def s_iany (h:te σ H λx H1=>(∃a,x=.ref a/\(∃xs,SqL K H1 a xs)/\R (Jv K a) H1)\/(∃a,x=.ref a/\(∃xs,SqT K H1 a xs)/\R (J2 K a) H1)\/∃z,x=.str z/\R (Its z) H1):Zev K te σ H R:=h
def s_irev (h:ta σ H λvs H1=>eX2 λa xs=>vs=[.ref a]/\SqL K H1 a xs/\R (L0 K a xs.length) H1):Zec K ta σ H R:=h
def s_listen (h:ta σ H λvs H1=>eX2 λa xs=>vs=[.ref a]/\SqT K H1 a xs/\∀(S:Addr)(ys:List V)(H2:Hp),H1 S=none->Same H1 H2->ys.length=xs.length->Pairs H2 xs ys->H2 S=some (.lst ys)->Q (.ref S) H2):Zc9 K ta σ H Q:=h
def s_yes (h:QB true H):Zen σ H QB:=h
def s_turn (h:g x σ H λσ2 H3=>tt σ2 H3 λb H4=>if b=true then te σ2 H4 λy H5=>∃ys,H5 L=some (.lst ys)/\ys.length<sizeLine/\(∃zs,upd H5 L (.lst (ys++[y])) L=some (.lst zs)/\Nx zs σ2 (upd H5 L (.lst (ys++[y])))) else ∃zs,H4 L=some (.lst zs)/\Nx zs σ2 H4):Ze1 g tt te L Nx x σ H:=h
def Cz (e:H l=some (.lst xs))(z:xs.length<sizeLine)(h:Q .non (upd H l (.lst (xs++[y])))):Zib (.ref l) [y] H Q:=⟨l,xs,y,rfl,rfl,e,z,h⟩
def Ms (e:H l=some (.lst (xs++[y])))(h:Q y (upd H l (.lst xs))):rPop (.ref l) [] H Q:=⟨l,xs++[y],y,rfl,rfl,e,by simp,by simpa using h⟩
def Zvm (e:H p=some (.lst xs))(hj:Fv xs.length k=some j)(h:QH (upd H p (.lst (xs.set j v)))):Zk3 (.ref p) (.int k) v H QH:=⟨p,xs,k,j,rfl,rfl,e,hj,h⟩
end
section
variable {X:Cx}(K:Pi)
def B5 (hK:autoParam (X.K=K) zX):OpR X (binaryOp .Add) (Jp K):=by subst hK;exact op_addA
def Zdv (hu:X.A.units+200<cLine)(hK:autoParam (X.K=K) zX):OpR X (compareOp .Eq) (Lq K):=by subst hK;exact Zgc hu
def Ft (hu:X.A.units+200<cLine)(hK:autoParam (X.K=K) zX):OpR X (compareOp .NotEq) (Ze2 K):=by subst hK;exact Zqa hu
def G6 (hK:autoParam (X.K=K) zX):OpR X (compareOp .In) (Og K false):=by subst hK;exact Zld
def Zsr (hK:autoParam (X.K=K) zX):OpR X (compareOp .NotIn) (Og K true):=by subst hK;exact Zw1
def k_ix (hK:autoParam (X.K=K) zX):IxR X (Ld K):=by subst hK;exact Znm
def Fc (hK:autoParam (X.K=K) zX):SlR X (Zcv K):=by subst hK;exact Zmb
def Zq6 (hK:autoParam (X.K=K) zX):C0 X (.builtin "len") (Oe K):=by subst hK;exact Zvp
inductive TyQ (K:Pi)(H:Hp):V->Value->Prop where
 |ty {x:V} {t:Value} (h:Ek K H x t):TyQ K H x t
 |tup {a:Addr} {xs:List V} (q:SqT K H a xs):TyQ K H (.ref a) (.type "tuple")
 |lst {a:Addr} {xs:List V} (q:SqL K H a xs):TyQ K H (.ref a) (.type "list")
def N2 (K:Pi)(T:String):List V->Hp->VK->Prop:=λxs H Q=>eX3 λx t b=>xs=[x,.ty T]/\TyQ K H x t/\Rp K t (.type T)=some b/\Q (.bl b) H
def Zmy:C0 X (.builtin "isinstance") (N2 X.K T):=by
 intro pins s σ H xs us Q I r h;obtain⟨x,t,b,rfl,ty,e,q⟩:=h;obtain⟨u,v,rfl,Y,Z⟩:=r.two;obtain rfl:v=Value.type T:=Z;cases ty with
 |ty ty=>exact Zmi I Y ty e λtk=>⟨.bl b,H,I.tok tk,rfl,q⟩
 |tup O =>
  cases Y;obtain⟨U,_,p,_⟩:=I.tuple O;obtain⟨o,h1,h2,_⟩:=p;exact Q1 PySem.W.kitx_tuple I.kIn ⟨o,h1,h2⟩ e (λz=>nomatch z) λtk=>⟨.bl b,H,I.tok tk,rfl,q⟩
 |lst O =>
  cases Y;obtain⟨U,_,p,_⟩:=I.list O;obtain⟨o,n,h1,h2,_⟩:=p;exact Q1 Wy I.kIn ⟨o,h1,h2⟩ e (λz=>nomatch z) λtk=>⟨.bl b,H,I.tok tk,rfl,q⟩
def Cb (T:String)(hK:autoParam (X.K=K) zX):C0 X (.builtin "isinstance") (N2 K T):=by subst hK;exact Zmy
def rAll (K:Pi):List V->Hp->VK->Prop:=λxs H Q=>eX2 λ(p:Addr)(bs:List Bool)=>xs=[.ref p]/\SqL K H p (bs.map V.bl)/\Q (.bl (bs.all id)) H
def Zlr (hc:X.calm=true)(hK:autoParam (X.K=K) zX):C0 X (.builtin "all") (rAll K):=by subst hK;exact Zof hc
def Zqd (K:Pi):List V->Hp->VK->Prop:=λxs H Q=>eX2 λp ys=>xs=[.ref p]/\(SqL K H p ys\/SqT K H p ys)/\∀l,H l=none->Q (.ref l) (upd H l (.lst ys))
def Zav (hK:autoParam (X.K=K) zX):C0 X (.type "list") (Zqd K):=by subst hK;exact Zpm
def Zfo (K:Pi):List V->Hp->VK->Prop:=λxs H Q=>eX2 λp ys=>xs=[.ref p]/\((SqL K H p ys/\∀l,H l=none->Q (.ref l) (upd H l (.tup ys)))\/(SqT K H p ys/\Q (.ref p) H))
def Zjl (hK:autoParam (X.K=K) zX):C0 X (.type "tuple") (Zfo K):=by subst hK;exact Zm9
def rInt:List V->Hp->VK->Prop:=λxs H Q=>(∃i,xs=[.int i]/\Q (.int i) H)\/∃k,xs=[.bl k]/\Q (.int (if k then 1 else 0)) H
def N0:C0 X (.type "int") rInt:=Ztk
def s_intb (h:Q (.int (if k=true then 1 else 0)) H):rInt [.bl k] H Q:=.inr ⟨k,rfl,h⟩
def Ep {tg l:Expr}{tl:TE}(hl:QE X l tl)(hK:autoParam (X.K=K) zX):QI X tg l (Zev K tl):=by subst hK;exact Zly hl
def Ze7 {tg a:Expr}{ta:TA}{p pos:Pos}(hg:Gl X "reversed")(hm:X.mg "reversed"=none)(ha:QA X [a] ta)(hK:autoParam (X.K=K) zX)(hs:autoParam (starEach [a] X.env=[(false,eval a X.env)]) zX):QI X tg (.Call (.Name "reversed" p) [a] [] pos) (Zec K ta):=by subst hK;exact Zq0 hg hm ha hs
def Zri {e:Expr}{ta:TA}{p p2 pos pos2:Pos}(hg:Gl X "list")(hm:X.mg "list"=none)(hg2:Gl X "enumerate")(hm2:X.mg "enumerate"=none)(ha:QA X [e] ta)(hK:autoParam (X.K=K) zX)(hc:autoParam (X.calm=true) zX)
  (hs:autoParam (starEach [.Call (.Name "enumerate" p2) [e] [] pos2] X.env=[(false,eval (.Call (.Name "enumerate" p2) [e] [] pos2) X.env)]) zX) (hs2:autoParam (starEach [e] X.env=[(false,eval e X.env)]) zX) :
  QE X (.Call (.Name "list" p) [.Call (.Name "enumerate" p2) [e] [] pos2] [] pos) (Zc9 K ta):=by subst hK;exact Zq5 hg hm hg2 hm2 ha hc hs hs2
def Za3 {es:List Expr}{k:Nat}{pos:Pos}{t:Fj}{n:Nat}(hc:X.calm=true)(h:QGs X es t)(hK:autoParam (X.K=K) zX)(hn:autoParam ((assignEach es X.env).length=n) zX)(hst:autoParam ((assignEach es X.env).findIdx? (·.1)=none) zX):QG X (.Tuple es k pos) (Mo K n t):=by subst hK;exact Zs9 hc h hn hst
def Zgk (K:Pi)(ta:TE):TT:=λσ H Q=>ta σ H λx H'=>∃k,Op K x H' k/\Q k H'
def Zbn {a:Expr}{ta:TE}(ha:QE X a ta)(he:∀whole,isTrue a X.env whole=(do let v <- whole;standAt a.pos;holding [v] (truthy v)))(hK:autoParam (X.K=K) zX):QT X a (Zgk K ta):=by subst hK;exact⟨Zrg ha.run he⟩
def Cn {o e:Expr}{es:List Expr}{to:TE}{t:TA}{name:Str}{apos cpos:Pos}{T id:String}{r:V->List V->Hp->VK->Prop}(pa:PlainAttrs T)(slot:Slot T name id)(hty:typeOf (.builtin id)=pure (.type "method_descriptor"))(hm:Kh X id r)(ho:QE X o to)(ha:QA X (e::es) t)(hK:autoParam (X.K=K) zX)
  (hbase:autoParam (attributeBase o name X.env (eval o X.env)=eval o X.env) zX) (hfew:autoParam (((backTo cpos (starEach (e::es) X.env)).all (λx=>!x.1) && (backToKw cpos (keywordEach [] X.env)).all (λx=>x.1.isSome)
   && decide ((e::es).length+([]:List Keyword).length+(if ([]:List Keyword).isEmpty then 0 else 1)<30))=true) zX) (hline:autoParam ((apos.endLine == cpos.line)=true) zX) (hs:autoParam (starEach (e::es) X.env=(false,eval e X.env)::starEach es X.env) zX) (hplain:autoParam ((backTo cpos (starEach es X.env)).any (·.1)=false) zX):QE X (.Call (.Attribute o name apos) (e::es) [] cpos) (tBM K T r to t):=by subst hK;exact Zrj pa slot hty hm ho ha hbase hfew hline hs hplain
def Ot {o:Expr}{to:TE}{name:Str}{apos cpos:Pos}{T id:String}{r:V->List V->Hp->VK->Prop}(pa:PlainAttrs T)(slot:Slot T name id)(hty:typeOf (.builtin id)=pure (.type "method_descriptor"))(hm:Kh X id r)(ho:QE X o to)(hK:autoParam (X.K=K) zX)(hbase:autoParam (attributeBase o name X.env (eval o X.env)=eval o X.env) zX)(hline:autoParam ((apos.endLine == cpos.line)=true) zX):QE X (.Call (.Attribute o name apos) [] [] cpos) (Pf K T r to):=by subst hK;exact Ztf pa slot hty hm ho hbase hline
end
section
variable {K:Pi}{σ:St}{H:Hp}{Q:VK}{QB:Bool->Hp->Prop}{ta:TE}
def s_truth (h:ta σ H λx H'=>∃k,Op K x H' k/\QB k H'):Zgk K ta σ H QB:=h
def Zgn {a:Addr}{xs:List V}{P:Bool->Prop}(q:SqL K H a xs)(h:P (!xs.isEmpty)):∃k,Op K (.ref a) H k/\P k:=⟨_,.inl ⟨xs,q,rfl⟩,h⟩
def B9 (ty:Ek K H x t)(e:Rp K t (.type T)=some b)(h:Q (.bl b) H):N2 K T [x,.ty T] H Q:=⟨x,t,b,rfl,.ty ty,e,h⟩
def Fa (q:SqT K H a xs)(e:Rp K (.type "tuple") (.type T)=some b)(h:Q (.bl b) H):N2 K T [.ref a,.ty T] H Q:=⟨_,_,b,rfl,.tup q,e,h⟩
def G8 (q:SqL K H a xs)(e:Rp K (.type "list") (.type T)=some b)(h:Q (.bl b) H):N2 K T [.ref a,.ty T] H Q:=⟨_,_,b,rfl,.lst q,e,h⟩
def Zv9:Rp K (.type "int") (.type "bool")=some false:=Zr1 (l:=(fastBuiltinMro "int").get (by right)) (by right) (by decide) (by simp) (by right)
def Zi2 (q:SqL K H p ys)(h:∀l,H l=none->Q (.ref l) (upd H l (.tup ys))):Zfo K [.ref p] H Q:=⟨p,ys,rfl,.inl ⟨q,h⟩⟩
def B7 {P:Prop}(q:SqL K H a xs)(h:P):Ll K "list" (.ref a) H/\P:=⟨.inl ⟨rfl,_,q⟩,h⟩
end
def s_nt {A B:Prop}(h:B):if (!true)=true then A else B:=by simpa using h
def s_nf {A B:Prop}(h:A):if (!false)=true then A else B:=by simpa using h
end L2
namespace L2
open PySem
inductive Tr where
 |mk (wd:Str) (note:Dt) (ps:List Tr)
noncomputable def Tr.wd:Tr->Str
 |.mk w _ _=>w
noncomputable def Tr.ps:Tr->List Tr
 |.mk _ _ ps=>ps
mutual
noncomputable def Tr.size:Tr->Nat
 |.mk _ _ ps=>1+Bv ps
noncomputable def Bv:List Tr->Nat
 |[]=>0
 |t::r=>t.size+Bv r
end
def Tr.size_eq (t:Tr):t.size=1+Bv t.ps:=by
 cases t with
 |mk w n ps=>rw[Tr.size];rfl
def Zgd (a b:List Tr):Bv (a++b)=Bv a+Bv b:=by
 induction a with
 |nil=>simp[Bv]
 |cons t r I=>rw[Sx,Bv,Bv,I];lia
def Li {ts:List Tr}{j:Nat}{t:Tr}(h:ts[j]?=some t):t.size<=Bv ts:=by
 induction ts generalizing j with
 |nil=>simp at h
 |cons x r I =>
  rw[Bv];cases j with
  |zero=>simp at h;subst h;lia
  |succ j=>have:=I (j:=j) (by simpa using h);lia
def Zan (ts:List Tr):ts.length<=Bv ts:=by
 induction ts with
 |nil=>simp[Bv]
 |cons t r I =>
  have:=t.size_eq;rw[Bv,Qc];lia
def SameT (H H':Hp):Prop:=∀b,(∀xs,H b=some (.tup xs)->H' b=some (.tup xs))/\∀o u,H b=some (.frz o u)->H' b=some (.frz o u)
def Same.t (e:Same H H'):SameT H H':=λb=>⟨λxs h=>e b _ h,λo u h=>e b _ h⟩
def SameT.refl (H:Hp):SameT H H:=λ_=>⟨λ_ h=>h,λ_ _ h=>h⟩
def SameT.trans (a:SameT H H1)(b:SameT H1 H2):SameT H H2:=λc=>⟨λxs h=>(b c).1 xs ((a c).1 xs h),λo u h=>(b c).2 o u ((a c).2 o u h)⟩
def SameT.set (h:H S=some (.lst zs)):SameT H (upd H S o):=λb =>
 ⟨λxs e=>by rw[Ah (El e h (by intro z;cases z))];exact e,λo' u e=>by rw[Ah (El e h (by intro z;cases z))];exact e⟩
def SameT.new (h:H S=none):SameT H (upd H S o):=(Same.upd h).t
def SameT.tup (e:SameT H H')(h:SqT K H a xs):SqT K H' a xs:=by
 rcases h with(h|⟨o,h⟩)|h
 ·exact .inl (.inl ((e a).1 _ h))
 ·exact .inl (.inr ⟨o,(e a).2 _ _ h⟩)
 ·exact .inr h
def IsN (K:Pi)(H:Hp)(v:V)(n:Dt):Prop:=(Db v=true/\n=.flat v)\/eX2 λ(a:Addr)(vs:List V)=>v=.ref a/\SqT K H a vs/\vs.all Db=true/\n=.tup (vs.map .flat)
def IsN.same (h:IsN K H v n)(e:SameT H H'):IsN K H' v n:=by
 rcases h with h|⟨a,vs,h1,h2,I⟩
 ·exact .inl h
 ·exact .inr ⟨a,vs,h1,e.tup h2,I⟩
inductive TrAt (K:Pi)(H:Hp):V->Tr->Prop where
 |mk {a p:Addr} {wd:Str} {nv:V} {n:Dt} {vs:List V} {ts:List Tr} (q:SqT K H a [.str wd,nv,.ref p]) (hn:IsN K H nv n) (qp:SqT K H p vs) (l:vs.length=ts.length)
   (h:∀(j:Nat)(v:V)(t:Tr),vs[j]?=some v->ts[j]?=some t->TrAt K H v t):TrAt K H (.ref a) (.mk wd n ts)
def TrAt.sameT (h:TrAt K H v t)(e:SameT H H'):TrAt K H' v t:=by
 induction h with
 |mk q hn I l _ O=>exact .mk (e.tup q) (hn.same e) (e.tup I) l O
def TrAt.same (h:TrAt K H v t)(e:Same H H'):TrAt K H' v t:=h.sameT e.t
def Al {α:Type}(R:V->α->Prop)(vs:List V)(xs:List α):Prop:=vs.length=xs.length/\∀(j:Nat)(v:V)(x:α),vs[j]?=some v->xs[j]?=some x->R v x
section
variable {α:Type}{R R':V->α->Prop}{vs:List V}{xs:List α}{v:V}{x:α}
def Al.mono (h:Al R vs xs)(f:∀v x,R v x->R' v x):Al R' vs xs:=⟨h.1,λj v x a b=>f v x (h.2 j v x a b)⟩
def Al.nil:Al R [] []:=⟨rfl,λj v x a _=>by simp at a⟩
def Al.snoc (h:Al R vs xs)(a:R v x):Al R (vs++[v]) (xs++[x]):=by
 refine⟨by simp[h.1],λj y z I O=>?_⟩;by_cases Y:j<vs.length
 ·rw[Qk Y]at I;rw[Qk (by have:=h.1;lia)]at O;exact h.2 j y z I O
 ·have hl:=(Pt.mp I).1;rw[Pn,Pz]at hl;have U:j=vs.length:=by lia
  subst U;rw[Qt (Pm _),Q9]at I;rw[h.1,Qt (Pm _),Q9]at O;have I:v=y:=by simpa using I
  have O:x=z:=by simpa using O
  rw[<- I,<- O];exact a
def Al.split (h:Al R (vs++[v]) xs):eX2 λys x=>xs=ys++[x]/\Al R vs ys/\R v x:=by
 have hl:xs.length=vs.length+1:=by have:=h.1;simp at this;lia
 have I:xs≠[]:=λz=>by rw[z]at hl;simp at hl
 refine⟨xs.dropLast,xs.getLast I,(Xh I).symm,⟨by simp[hl],λj y z U O=>?_⟩,?_⟩
 ·have Y:=(Pt.mp U).1;refine h.2 j y z (by rw[Qk Y];exact U) ?_;rw[List.getElem?_dropLast]at O;split at O
  ·exact O
  ·cases O
 ·refine h.2 vs.length v _ (by simp) ?_;rw[List.getLast_eq_getElem,Pk (by lia)]
  congr 1
  simp[hl]
def Al.last (h:Al R vs xs)(hn:vs≠[]):eX4 λvs' v xs' x=>vs=vs'++[v]/\xs=xs'++[x]/\Al R vs' xs'/\R v x:=by
 have e:=(Xh hn).symm;rw[e]at h;obtain⟨ys,x,I,a,r⟩:=h.split;exact⟨_,_,ys,x,e,I,a,r⟩
def Al.get {j:Nat}(h:Al R vs xs)(e:vs[j]?=some v):∃x,xs[j]?=some x/\R v x:=by
 have O:=(Pt.mp e).1;have I:j<xs.length:=by have:=h.1;lia
 exact⟨xs[j],Pk I,h.2 j v _ e (Pk I)⟩
def Al.get' {j:Nat}(h:Al R vs xs)(e:xs[j]?=some x):∃v,vs[j]?=some v/\R v x:=by
 have I:=(Pt.mp e).1;have hv:j<vs.length:=by have:=h.1;lia
 exact⟨vs[j],Pk hv,h.2 j _ x (Pk hv) e⟩
end
mutual
noncomputable def walk:List Nat->Tr->List (List Nat×Tr)
 |pl,.mk w n ps=>(pl,.mk w n ps)::Bo pl 0 ps
noncomputable def Bo:List Nat->Nat->List Tr->List (List Nat×Tr)
 |_,_,[]=>[]
 |pl,i,t::r=>walk (pl++[i]) t++Bo pl (i+1) r
end
def Zul (pl:List Nat)(t:Tr):walk pl t=(pl,t)::Bo pl 0 t.ps:=by
 cases t with
 |mk w n ps=>rw[walk];rfl
mutual
theorem J1:∀(pl:List Nat)(t:Tr),(walk pl t).length=t.size
 |pl,.mk w n ps=>by rw[walk,Tr.size,Qc,Zbf pl 0 ps];lia
theorem Zbf:∀(pl:List Nat)(i:Nat)(ts:List Tr),(Bo pl i ts).length=Bv ts
 |_,_,[]=>by rw[Bo,Bv];rfl
 |pl,i,t::r=>by rw[Bo,Bv,Pn,J1,Zbf]
end
mutual
theorem Zcm:∀(pl:List Nat)(t:Tr)(x:List Nat×Tr),x∈walk pl t->x.1.length+1<=pl.length+t.size
 |pl,.mk w n ps,x,h=>by
  rw[walk]at h;rw[Tr.size];rcases Ps.mp h with h|h
  ·subst h;show pl.length+1<=_;lia
  ·have:=Zfs pl 0 ps x h;lia
theorem Zfs:∀(pl:List Nat)(i:Nat)(ts:List Tr)(x:List Nat×Tr),x∈Bo pl i ts->x.1.length<=pl.length+Bv ts
 |_,_,[],x,h=>by rw[Bo]at h;cases h
 |pl,i,t::r,x,h=>by
  rw[Bo]at h;rw[Bv];rcases Q5.mp h with h|h
  ·have:=Zcm (pl++[i]) t x h;rw[Pn,Pz]at this;lia
  ·have:=Zfs pl (i+1) r x h;lia
end
noncomputable def A9 (pl:List Nat):List V:=pl.map λi=>V.int ((i:Nat):Int)
noncomputable def C5:List Nat->Nat->List Tr->List (List Nat×Tr)
 |_,_,[]=>[]
 |pl,i,t::r=>(pl++[i],t)::C5 pl (i+1) r
theorem Zfc (pl:List Nat):∀(i:Nat)(ts:List Tr),(C5 pl i ts).length=ts.length
 |_,[]=>rfl
 |i,t::r=>by rw[C5,Qc,Qc,Zfc pl (i+1) r]
theorem Zio (pl:List Nat):∀(i j:Nat)(ts:List Tr),(C5 pl i ts)[j]?=(ts[j]?).map λt=>(pl++[i+j],t)
 |_,_,[]=>by simp[C5]
 |i,0,t::r=>by simp[C5]
 |i,j+1,t::r=>by
  rw[C5,Uc,Uc,Zio pl (i+1) j r]
  congr 1
  funext t;rw[show i+1+j=i+(j+1) by lia]
theorem Zf4 (pl:List Nat):∀(i:Nat)(ts:List Tr),(C5 pl i ts).flatMap (λx=>walk x.1 x.2)=Bo pl i ts
 |_,[]=>by simp[C5,Bo]
 |i,t::r=>by rw[C5,List.flatMap_cons,Bo,Zf4 pl (i+1) r]
noncomputable def Ix (st:List (List Nat×Tr)):List (List Nat×Tr):=st.reverse.flatMap λx=>walk x.1 x.2
def Zqg:Ix []=[]:=rfl
def Zem (st:List (List Nat×Tr))(x:List Nat×Tr):Ix (st++[x])=x::Ix (st++(C5 x.1 0 x.2.ps).reverse):=by
 unfold Ix;rw[Tj,Tj,List.reverse_reverse,List.flatMap_append,List.flatMap_append,Zf4];rw[Vf,List.flatMap_singleton,Zul];rfl
noncomputable def F9 (st:List (List Nat×Tr)):Nat:=(Ix st).length
def Znk (st:List (List Nat×Tr))(x:List Nat×Tr):F9 (st++(C5 x.1 0 x.2.ps).reverse)<F9 (st++[x]):=by
 unfold F9;rw[Zem];exact Vp _
def Zrk (st:List (List Nat×Tr)):st.length<=F9 st:=by
 unfold F9 Ix;have:∀l:List (List Nat×Tr),l.length<=(l.flatMap λx=>walk x.1 x.2).length:=λl=>by
  induction l with
  |nil=>simp
  |cons x r I =>
   rw[List.flatMap_cons,Pn,J1,Qc];have:=x.2.size_eq;lia
 have:=this st.reverse;rw[List.length_reverse]at this;exact this
def Zt0 {α:Type}{l:List α}{n i:Nat}{x:α}(hl:l.length=n)(hi:i<n)(hx:l[n-1-i]?=some x):(l.drop (n-(i+1))).reverse=(l.drop (n-i)).reverse++[x]:=by
 have I:n-1-i<l.length:=by lia
 have e:l.drop (n-(i+1))=x::l.drop (n-i):=by
  have h1:n-(i+1)=n-1-i:=by lia
  rw[h1,So I,show n-1-i+1=n-i by lia];rw[Pk I]at hx;rw[Qh hx]
 rw[e,W1]
mutual
theorem Za5:∀(pl:List Nat)(t:Tr),walk pl t=(walk [] t).map λx=>(pl++x.1,x.2)
 |pl,.mk w n ps=>by
  have e:=Zkw pl [] 0 ps;rw[Q2]at e;rw[walk,walk,Qr,e];simp
theorem Zkw:∀(pl q:List Nat)(i:Nat)(ts:List Tr),Bo (pl++q) i ts=(Bo q i ts).map λx=>(pl++x.1,x.2)
 |_,_,_,[]=>by rw[Bo,Bo];rfl
 |pl,q,i,t::r=>by
  rw[Bo,Bo,Ql,<- Zkw pl q (i+1) r,Za5 (pl++q++[i]) t,Za5 (q++[i]) t];simp
end
def Al.append {α:Type}{R:V->α->Prop}{vs ws:List V}{xs ys:List α}(h:Al R vs xs)(h':Al R ws ys):Al R (vs++ws) (xs++ys):=by
 refine⟨by simp[h.1,h'.1],λj v x I O=>?_⟩;by_cases U:j<vs.length
 ·rw[Qk U]at I;rw[Qk (by have:=h.1;lia)]at O;exact h.2 j v x I O
 ·rw[Qt (by lia)]at I;rw[Qt (by have:=h.1;lia),<- h.1]at O;exact h'.2 _ v x I O
end L2
namespace L2
open PySem PySem.Spec PyProof.Rows
section
open PySem.AutoSeq1
end
section
variable {X:Cx}
noncomputable def Dz (kvs:List (Str×V))(k:Str):Option V:=(kvs.find? λI=>I.1=k).map (·.2)
inductive VPs:List (Str×V)->List (Str×Value)->Prop
 |nil:VPs [] []
 |cons {k:Str} {x:V} {v:Value} {r:List (Str×V)} {q:List (Str×Value)}:RelV x v->VPs r q->VPs ((k,x)::r) ((k,v)::q)
def VPs.look (h:VPs kvs vs)(k:Str):(valueAt vs k).isSome=(Dz kvs k).isSome/\∀x,Dz kvs k=some x->∃v,valueAt vs k=some v/\RelV x v:=by
 induction h with
 |nil=>exact⟨rfl,λx e=>nomatch e⟩
 | @cons O x v r q U _ I =>
  unfold valueAt Dz at I ⊢;by_cases z:O=k
  ·simp only[Rf,z,decide_true,Ut,Option.isSome_some];exact⟨trivial,λy e=>⟨v,rfl,by cases e;exact U⟩⟩
  ·simp only[Rf,z,decide_false];exact I
def Im (P:Program)(w:World)(K:Pi)(a:Addr)(kvs:List (Str×V)):Prop :=
 eX2 λ(o:Obj)(vs:List (Str×Value))=>K.lookup a=some o/\o.IsDictOf (strKind P w) vs/\(a == sysModules)=false/\VPs kvs vs
def rInD (P:Program)(w:World)(K:Pi):R2:=λx y H Q=>eX3 λs a kvs=>x=.str s/\y=.ref a/\Im P w K a kvs/\Q (.bl (Dz kvs s).isSome) H
def Ztu:OpR X (compareOp .In) (rInD X.prog X.w X.K):=by
 intro pins s σ H x y v u Q I O Y h;obtain⟨z,a,kvs,rfl,rfl,⟨o,vs,U,hd,lo,Z⟩,q⟩:=h;obtain⟨t,rfl⟩:=O;cases Y;have D:s.heap.DictOf (strKind X.prog X.w) a vs:=Xa.mpr ⟨o,I.kIn a o U,hd⟩;exact wpAny_in_of (knd:=strKind X.prog X.w) (k:=z) (strKind_is _ _ _ _) lo D.mapOf (B6 (I.tok _) q (Z.look z).1.symm)
def rIxD (P:Program)(w:World)(K:Pi):R2:=λx y H Q=>eX4 λa kvs s v=>x=.ref a/\y=.str s/\Im P w K a kvs/\Dz kvs s=some v/\Q v H
def ix_D:IxR X (rIxD X.prog X.w X.K):=by
 intro value O pins s σ H x y v u Q I Y ry h U;obtain⟨a,kvs,z,Z,rfl,rfl,⟨o,vs,hk,hd,lo,vp⟩,hv,q⟩:=h;cases Y;obtain⟨t,rfl⟩:=ry;have D:s.heap.DictOf (strKind X.prog X.w) a vs:=Xa.mpr ⟨o,I.kIn a o hk,hd⟩;obtain⟨u',e,r⟩:=(vp.look z).2 _ hv;exact tail_any D.typeIs slot_dict_getitem.lookup (wpAny_getItem_of (knd:=strKind X.prog X.w) (k:=z) (strKind_is _ _ _ _) D.mapOf e ⟨Z,H,I.tok _,r,q⟩) U
end
section
variable {X:Cx}(P:Program)(w:World)(K:Pi)
def Zbz (hP:autoParam (X.prog=P) zX)(hw:autoParam (X.w=w) zX)(hK:autoParam (X.K=K) zX):OpR X (compareOp .In) (rInD P w K):=by subst hP hw hK;exact Ztu
def Zcf (hP:autoParam (X.prog=P) zX)(hw:autoParam (X.w=w) zX)(hK:autoParam (X.K=K) zX):IxR X (rIxD P w K):=by subst hP hw hK;exact ix_D
end
def s_chain (h:ta σ H λx H1=>tb σ H1 λy H2=>r x y H2 λz H3=>∃k,z=.bl k/\(if k=true then tc σ H3 λw' H4=>r' y w' H4 Q else Q (.bl false) H3)):Zcz r r' ta tb tc σ H Q:=h
inductive Ents (p:Params):List DictEntry->List (Str×V)->Prop
 |nil:Ents p [] []
 |cons {k:Str} {t:Tok} {x:V} {v:Value} {r:List DictEntry} {q:List (Str×V)}:RelV x v->Ents p r q->Ents p (⟨PyData.keyHash p k,.str k t,v⟩::r) ((k,x)::q)
def Ents.pairs (h:Ents w.params es kvs):∃vs,VPs kvs vs/\PySem.Pairs (PySem.strKind P w) es vs/\vs.map (·.1)=kvs.map (·.1)/\∀e∈es,∃k,(PySem.strKind P w).is k e.key=true/\e.hash=(PySem.strKind P w).hash k:=by
 induction h with
 |nil=>exact⟨[],.nil,.nil,rfl,λe I=>nomatch I⟩
 | @cons k t x v r q O _ U =>
  obtain⟨vs,a,b,c,d⟩:=U;refine⟨(k,v)::vs,.cons O a,.cons (strKind_is _ _ _ _) rfl b,by simp[c],λe I=>?_⟩;rcases Ps.mp I with rfl|I
  ·exact⟨k,strKind_is _ _ _ _,rfl⟩
  ·exact d e I
def Zqb {P:Program}{w:World}{K:Pi}{a:Addr}{es:Array DictEntry}{n:Nat}{kvs:List (Str×V)}(l:K.lookup a=some ⟨.type "dict",none,.dict es n,#[]⟩)(hs:(a == sysModules)=false)
  (e:Ents w.params es.toList kvs) (nd:(kvs.map (·.1)).Nodup):Im P w K a kvs:=by
 obtain⟨vs,a1,a2,O,U⟩:=e.pairs (P:=P);exact⟨_,vs,l,⟨es,n,⟨rfl,rfl,rfl⟩,rfl,λe I=>U e (by simpa using I),a2,by rw[O];exact nd⟩,hs,a1⟩
section
variable {X:Cx}
theorem Zcc:∀{ns:List Int}{us:List Value},Vals (ns.map V.int) us->∃xs:List (Int×Tok),us=xs.map (λp=>Value.int p.1 p.2)/\xs.map (·.1)=ns
 |[],_,.nil=>⟨[],rfl,rfl⟩
 |n::ns,_,.cons r t=>by
  obtain⟨u,rfl⟩:=r;obtain⟨xs,I,O⟩:=Zcc t;exact⟨(n,u)::xs,by rw[I];rfl,by simp[O]⟩
def Zhr:List V->Hp->VK->Prop:=λxs H Q=>∃i,xs=[.int i]/\i.natAbs.log2<1920/\Q (.str (toString i)) H
def Zj9:C0 X (.type "str") Zhr:=Zos
def Zi8 (hi:i.natAbs.log2<1920)(h:Q (.str (toString i)) H):Zhr [.int i] H Q:=⟨i,rfl,hi,h⟩
end
structure ZA (z TI TO i1 i2:Addr)(fp1 fp2:List Addr):Prop where
 TIz:TI≠z
 TOz:TO≠z
 TITO:TI≠TO
 z1:z ∉ fp1
 z2:z ∉ fp2
 TI1:TI≠i1
 TI2:TI≠i2
 TO1:TO ∉ fp1
 TO2:TO ∉ fp2
 m1:i1∈fp1
 m2:i2∈fp2
 n1:i1 ∉ fp2
 n2:i2 ∉ fp1
def ZA.i1z {z TI TO i1 i2:Addr}{fp1 fp2:List Addr}(D:ZA z TI TO i1 i2 fp1 fp2):i1≠z:=λe=>D.z1 (e ▸ D.m1)
def ZA.i2z {z TI TO i1 i2:Addr}{fp1 fp2:List Addr}(D:ZA z TI TO i1 i2 fp1 fp2):i2≠z:=λe=>D.z2 (e ▸ D.m2)
def ZA.TOi1 {z TI TO i1 i2:Addr}{fp1 fp2:List Addr}(D:ZA z TI TO i1 i2 fp1 fp2):TO≠i1:=λe=>D.TO1 (e ▸ D.m1)
def ZA.TOi2 {z TI TO i1 i2:Addr}{fp1 fp2:List Addr}(D:ZA z TI TO i1 i2 fp1 fp2):TO≠i2:=λe=>D.TO2 (e ▸ D.m2)
def De {prog:Program}{w:World}{A:Around}{it c:Addr}{fp:List Addr}{n i:Nat}{P:Nat->Value->Prop}{St:Nat->Heap->Prop}(D:Draws prog w A it fp n P St){h h':Heap}(st:St i h)(e:P5 c h h')(hc:c ∉ fp):St i h' :=
 D.frame i h h' st λb hb o I=>e.extBut b o (λz=>hc (z ▸ hb)) I
section
variable {prog:Program}{w:World}{A:Around}{E:Value->Shared->Prop}{s:Shared}{z TI TO i1 i2:Addr}{fp1 fp2:List Addr}{n1 n2 i:Nat}{P1 P2:Nat->Value->Prop}{St1 St2:Nat->Heap->Prop}{a b:Value}
def Zqz {Q:Value->Shared->Prop}(D1:Draws prog w A i1 fp1 n1 P1 St1)(D2:Draws prog w A i2 fp2 n2 P2 St2)(D:ZA z TI TO i1 i2 fp1 fp2)(hz:IsZip s.heap z TI TO .none)(hTI:IsPair s.heap TI (.ref i1) (.ref i2))(hTO:IsPair s.heap TO a b)
  (st1:St1 i s.heap) (st2:St2 i s.heap) (l1:i<n1) (l2:i<n2)
  (hQ:∀x y h' tk,P1 i x->P2 i y->IsZip h' z TI TO (rawInt s.heap.objs.size)->IsPair h' TO x y->St1 (i+1) h'->St2 (i+1) h'->IsPair h' s.heap.objs.size x y->h'.objs.size=s.heap.objs.size+1 ->
   (∀c o,c≠z->c≠TO->c≠i1->c≠i2->s.heap.get? c=some o->h'.get? c=some o)->Q (.ref s.heap.objs.size) { s with heap:=h',toks:=tk }) :
  wpAny (model prog w) A (Builtin.«zip.__next__» ⟨[.ref z],[]⟩) (λfin s'=>∃v,fin=.done (.ret v)/\Q v s') E s:=by
 show wpAny _ _ (field (.ref z) 2 >>= _) _ _ s;refine Pj (Py hz rfl (x:=Value.bool false) rfl ?_);show wpAny _ _ (field (.ref z) 3 >>= _) _ _ s;refine Pj (Py hz rfl (x:=Value.ref TI) rfl (Pj (Rg hTI rfl ?_)));show wpAny _ _ (Ri (.ref z) >>= _) _ _ s;refine Pj ?_;unfold Ri;refine Pj (Py hz rfl (x:=Value.none) rfl (Pl ?_));simp only[if_true];refine Pj (Ua (Pj (Py hz rfl (x:=Value.ref TO) rfl ?_)));refine Pj (Rl hz (by simp) λac U e1=>?_);replace U:IsZip ac z TI TO Value.ellipsis:=U;refine Pj ?_;simp only[List.zipIdx_cons,List.zipIdx_nil,Ur,V2];refine Pj (Pj (V5 ?_));show wpAny _ _ (Q4 (.ref i1) >>= _) _ _ _;refine Pj (D1.item i _ _ _ l1 (De D1 st1 e1 D.z1) λx Z ak px ai e2=>Pl ?_);replace e2:P5 i1 ac Z:=e2;have p2:IsPair Z TO a b:=e2.extBut _ _ D.TOi1 (e1.extBut _ _ D.TOz hTO);refine Pj (Rg p2 rfl (Pj (Wo p2 λY p3 e3=>?_)));replace p3:IsPair Y TO x b:=p3;replace e3:P5 TO Z Y:=e3;refine Pj (We (Pl (Pj (Pj (V5 ?_)))));show wpAny _ _ (Q4 (.ref i2) >>= _) _ _ _;have ah:St2 i Y:=De D2 (De D2 (De D2 st2 e1 D.z2) e2 D.n1) e3 D.TO2;refine Pj (D2.item i _ _ _ l2 ah λy aa ad py aj e4=>Pl ?_);replace e4:P5 i2 Y aa:=e4;have p4:IsPair aa TO x b:=e4.extBut _ _ D.TOi2 p3;refine Pj (Rg p4 rfl (Pj (Wo p4 λI p5 e5=>?_)));replace p5:IsPair I TO x y:=p5;replace e5:P5 TO aa I:=e5;refine Pj (We (Pl (Pl (Pj (Rg p5 rfl (Pj (wpAny_newTuple ?_)))))));have sz:I.objs.size=s.heap.objs.size:=by rw[e5.1,e4.1,e3.1,e2.1,e1.1]
 have z5:IsZip I z TI TO Value.ellipsis:=e5.extBut _ _ D.TOz.symm (e4.extBut _ _ D.i2z.symm (e3.extBut _ _ D.TOz.symm (e2.extBut _ _ D.i1z.symm U)));have k5:∀c o,c≠z->c≠TO->c≠i1->c≠i2->s.heap.get? c=some o->I.get? c=some o:=λc o c1 c2 c3 c4 e=>e5.extBut _ _ c2 (e4.extBut _ _ c4 (e3.extBut _ _ c2 (e2.extBut _ _ c3 (e1.extBut _ _ c1 e))));have t1:St1 (i+1) I:=De D1 (De D1 (De D1 ai e3 D.TO1) e4 D.n2) e5 D.TO1;have t2:St2 (i+1) I:=De D2 aj e5 D.TO2;have ae:z<I.objs.size:=Pr z5;show wpAny _ _ (Xc (.ref z) (.ref I.objs.size) >>= _) _ _ _;refine Pj ?_;unfold Xc;have z6:IsZip (I.push { cls:=.type "tuple",data:=.seq #[x,y] }) z TI TO Value.ellipsis:=Pp _ z5;refine Pj (Rl z6 (by simp) λag z7 e7=>?_);replace z7:IsZip ag z TI TO (rawInt I.objs.size):=z7;refine Rl z7 (by simp) λO z8 e8=>?_;replace z8:IsZip O z TI TO (rawInt I.objs.size):=z8;have up:∀c o,c≠z->I.get? c=some o->O.get? c=some o:=λc o c1 e=>e8.extBut _ _ c1 (e7.extBut _ _ c1 (Pp _ e));have t8:IsPair O I.objs.size x y:=e8.extBut _ _ (Q3 ae) (e7.extBut _ _ (Q3 ae) (P4 _ rfl));have af:O.objs.size=I.objs.size+1:=by rw[e8.1,e7.1,Qv]
 rw[sz]at z8 t8 af;refine Pl ⟨_,rfl,?_⟩;show Q (.ref I.objs.size) _;rw[sz];exact hQ x y O ad px py z8 (up _ _ D.TOz p5) (D1.frame _ _ _ t1 λc hc o e=>up c o (λq=>D.z1 (q ▸ hc)) e) (D2.frame _ _ _ t2 λc hc o e=>up c o (λq=>D.z2 (q ▸ hc)) e) t8 af λc o c1 c2 c3 c4 e=>up c o c1 (k5 c o c1 c2 c3 c4 e)
def Zmj (D1:Draws prog w A i1 fp1 n1 P1 St1)(D2:Draws prog w A i2 fp2 n2 P2 St2)(D:ZA z TI TO i1 i2 fp1 fp2)(hz:IsZip s.heap z TI TO .none)(hTI:IsPair s.heap TI (.ref i1) (.ref i2))(hTO:IsPair s.heap TO a b)(st1:St1 i s.heap)(st2:St2 i s.heap)(hend:i=n1\/(i<n1/\i=n2))(hE:∀h' e tk,(∀c o,c≠z->c≠TO->c≠i1->c≠i2->s.heap.get? c=some o->h'.get? c=some o)->(∃o,h'.get? e=some o/\o.cls=.type "StopIteration")->E (.ref e) { s with heap:=h',toks:=tk }) :
  wpAny (model prog w) A (Builtin.«zip.__next__» ⟨[.ref z],[]⟩) Q E s:=by
 show wpAny _ _ (field (.ref z) 2 >>= _) _ _ s;refine Pj (Py hz rfl (x:=Value.bool false) rfl ?_);show wpAny _ _ (field (.ref z) 3 >>= _) _ _ s;refine Pj (Py hz rfl (x:=Value.ref TI) rfl (Pj (Rg hTI rfl ?_)));show wpAny _ _ (Ri (.ref z) >>= _) _ _ s;refine Pj ?_;unfold Ri;refine Pj (Py hz rfl (x:=Value.none) rfl (Pl ?_));simp only[if_true];refine Pj (Ua (Pj (Py hz rfl (x:=Value.ref TO) rfl ?_)));refine Pj (Rl hz (by simp) λaa O e1=>?_);replace O:IsZip aa z TI TO Value.ellipsis:=O;refine Pj ?_;simp only[List.zipIdx_cons,List.zipIdx_nil,Ur,V2];refine Pj (Pj (V5 ?_));show wpAny _ _ (Q4 (.ref i1) >>= _) _ _ _;rcases hend with rfl|⟨l1,rfl⟩
 ·refine Pj (D1.done _ _ _ (De D1 st1 e1 D.z1) λI e Z he=>?_);obtain⟨oe,Y,ac⟩:=he;replace Z:T9 i1 aa I:=Z;have z2:IsZip I z TI TO Value.ellipsis:=Z _ _ D.i1z.symm O;have ae:e≠z:=λx=>by subst x;rw[z2]at Y;cases Y;simp at ac
  refine Rl z2 (by simp) λU _ e3=>hE U e s.toks (λc o c1 _ c3 _ x=>e3.extBut _ _ c1 (Z _ _ c3 (e1.extBut _ _ c1 x))) ⟨oe,e3.extBut _ _ ae Y,ac⟩
 ·refine Pj (D1.item i _ _ _ l1 (De D1 st1 e1 D.z1) λx I af px ai Z=>Pl ?_);replace Z:P5 i1 aa I:=Z;have p2:IsPair I TO a b:=Z.extBut _ _ D.TOi1 (e1.extBut _ _ D.TOz hTO);refine Pj (Rg p2 rfl (Pj (Wo p2 λU p3 e3=>?_)));replace e3:P5 TO I U:=e3;refine Pj (We (Pl (Pj (Pj (V5 ?_)))));show wpAny _ _ (Q4 (.ref i2) >>= _) _ _ _;have ah:St2 i U:=De D2 (De D2 (De D2 st2 e1 D.z2) Z D.n1) e3 D.TO2;refine Pj (D2.done _ _ _ ah λad e e4 he=>?_);obtain⟨oe,Y,ac⟩:=he;replace e4:T9 i2 U ad:=e4;have z4:IsZip ad z TI TO Value.ellipsis:=e4 _ _ D.i2z.symm (e3.extBut _ _ D.TOz.symm (Z.extBut _ _ D.i1z.symm O));have ae:e≠z:=λx=>by subst x;rw[z4]at Y;cases Y;simp at ac
  refine Rl z4 (by simp) λag _ e5=>hE ag e af (λc o c1 c2 c3 c4 x=>e5.extBut _ _ c1 (e4 _ _ c4 (e3.extBut _ _ c2 (Z.extBut _ _ c3 (e1.extBut _ _ c1 x))))) ⟨oe,e5.extBut _ _ ae Y,ac⟩
def Zwn (D1:Draws prog w A.in1 i1 fp1 n1 P1 St1)(D2:Draws prog w A.in1 i2 fp2 n2 P2 St2)(D:ZA z TI TO i1 i2 fp1 fp2)(hz:IsZip s.heap z TI TO .none)(hTI:IsPair s.heap TI (.ref i1) (.ref i2))(hTO:IsPair s.heap TO a b)(st1:St1 i s.heap)(st2:St2 i s.heap)(l1:i<n1)(l2:i<n2)(hQ:∀x y h' tk,P1 i x->P2 i y->IsZip h' z TI TO (rawInt s.heap.objs.size)->IsPair h' TO x y->St1 (i+1) h'->St2 (i+1) h'->IsPair h' s.heap.objs.size x y->h'.objs.size=s.heap.objs.size+1 ->
   (∀c o,c≠z->c≠TO->c≠i1->c≠i2->s.heap.get? c=some o->h'.get? c=some o)->Q (some (.ref s.heap.objs.size)) { s with heap:=h',toks:=tk }) :
  wpAny (model prog w) A (pyNext (.ref z)) Q E s:=by
 have I:s.TypeIs (.ref z) "zip":=⟨_,hz,rfl⟩;unfold pyNext;exact Pj (Tu (Rj (name:=Qx "__next__") I Sd
  (Rm Sd I Vg (Zqz D1 D2 D hz hTI hTO st1 st2 l1 l2 λx y h' tk a1 a2 a3 a4 U Z Y O a9=>Pl (hQ x y h' tk a1 a2 a3 a4 U Z Y O a9)) (Vd _))))
def Zu7 (D1:Draws prog w A.in1 i1 fp1 n1 P1 St1)(D2:Draws prog w A.in1 i2 fp2 n2 P2 St2)(D:ZA z TI TO i1 i2 fp1 fp2)(hz:IsZip s.heap z TI TO .none)(hTI:IsPair s.heap TI (.ref i1) (.ref i2))(hTO:IsPair s.heap TO a b)(st1:St1 i s.heap)(st2:St2 i s.heap)(hend:i=n1\/(i<n1/\i=n2))(hQ:∀h' tk,(∀c o,c≠z->c≠TO->c≠i1->c≠i2->s.heap.get? c=some o->h'.get? c=some o)->Q none { s with heap:=h',toks:=tk }):wpAny (model prog w) A (pyNext (.ref z)) Q E s:=by
 have I:s.TypeIs (.ref z) "zip":=⟨_,hz,rfl⟩;unfold pyNext;refine Pj (Tu (Rj (name:=Qx "__next__") I Sd
  (Rm Sd I Vg (Zmj D1 D2 D hz hTI hTO st1 st2 hend λh' e tk Z Y=>?_) (Vd _))))
 obtain⟨o,O,U⟩:=Y;exact Pj (W3 (T:="StopIteration") (b:=true) ⟨o,O,U⟩ isSubtype_stop (Pl (hQ _ _ Z)))
end
section
variable {prog:Program}{w:World}{A:Around}{E:Value->Shared->Prop}{s:Shared}
end
section
variable {X:Cx}{pins:List (Addr×Obj)}{σ:St}{H:Hp}{s:Shared}{h':Heap}
def Inv.turnedL {t':Nat}{fp:List Addr}(I:Inv X pins σ H s)(k:∀b o,b ∉ fp->s.heap.get? b=some o->h'.get? b=some o)(f:∀b∈fp,FpOk X pins H b):Inv X pins σ H { s with heap:=h',toks:=t' }:=by
 have U:∀b u,H b=some u->b ∉ fp:=λb u e hb=>by rw[(f b hb).1]at e;exact nomatch e
 refine I.step (g':=s.gens) (d':=s.drawn) (ch:=fp) (λb hb=>?_) (λb o _ _ O e _=>k b o O e) (λb o _ _ O e _=>⟨o.slots,k b o O e⟩) (λ_ _ _ _ n=>n)
  (λb o O e=>⟨o,k b o O e⟩) (λ_ _ e=>e) (λ_ _ _ e=>e) (λb ps e=>⟨#[],by rw[e];simp⟩) (λm Y=>?_) (λb u e=>?_) I.bare
 ·obtain⟨n1,l1,_,e1,c1,p1⟩:=f b hb;exact⟨e1,l1,c1,p1⟩
 ·obtain⟨o,es,ep,Z,r⟩:=Y;exact⟨o,es,ep,k _ o (λhb=>(f _ hb).2.1 rfl) Z,r⟩
 ·refine(I.hok b u e).stay (λc v O q=>k c v ?_ q) (λ_ q=>q) λ_ _ q=>q;rcases O with z|z
  ·rw[z];exact U b u e
  ·exact U c _ z
def Inv.pairL {tk:Nat}{fp:List Addr}{T:Addr}{xs:List V}{its:List Value}(I:Inv X pins σ H s)(f:∀b∈fp,FpOk X pins H b)
  (kk:∀b o,b ∉ fp->s.heap.get? b=some o->h'.get? b=some o) (hT:s.heap.objs.size<=T) (rv:Vals xs its) (hz:xs.length<=sizeLine) (ht:h'.IsTuple T its.toArray):Inv X pins σ (upd H T (.tup xs)) { s with heap:=h',toks:=tk }:=by
 have hf:H T=none:=I.hok.fresh hT;have Y:Inv X pins σ H { s with heap:=h',toks:=tk }:=I.turnedL kk f;have O:HOk X.prog X.w (upd H T (.tup xs)) h':=λb o e=>by
  by_cases hb:b=T
  ·subst hb;rw[Ac]at e;cases e;exact⟨hz,its,rv,ht⟩
  ·rw[Ah hb]at e;refine(Y.hok b o e).stay (λc v _ q=>q) (λc q=>?_) λc zs q=>?_
   ·rw[Ah (Dh q hf)];exact q
   ·rw[Ah (Dh q hf)];exact q
 have u:Un (B8 X.stack) fp H (upd H T (.tup xs)) s.heap h':={
  keep:=λb o e n _ U=>kk b o U e
  slot:=λb o e n _ U=>⟨o.slots,kk b o U e⟩
  free:=λb o e n _=>by rw[Ah (P3 (Qb (Pr e) hT))];exact n
  there:=λb o e U=>⟨o,kk b o U e⟩
  tups:=λb zs e=>by rw[Ah (Dh e hf)];exact e
  frzs:=λb o u e=>by rw[Ah (Dh e hf)];exact e
  tbls:=λb ps e=>⟨#[],by rw[Ah (Dh e hf),e];simp⟩ }
 refine I.call (g':=s.gens) (d':=s.drawn) (t':=tk) u O I.bare λb hb=>?_;obtain⟨n1,Z,_,e1,c1,p1⟩:=f b hb;exact⟨e1,Z,c1,p1⟩
end
structure ZB (z TI TO i1 i2 a b:Addr):Prop where
 TIz:TI≠z
 TOz:TO≠z
 TITO:TI≠TO
 i1z:i1≠z
 i2z:i2≠z
 TI1:TI≠i1
 TI2:TI≠i2
 TO1:TO≠i1
 TO2:TO≠i2
 i12:i1≠i2
 az:a≠z
 aTO:a≠TO
 a1:a≠i1
 a2:a≠i2
 bz:b≠z
 bTO:b≠TO
 b1:b≠i1
 b2:b≠i2
def ZB.za {z TI TO i1 i2 a b:Addr}(D:ZB z TI TO i1 i2 a b):ZA z TI TO i1 i2 [i1,a] [i2,b] where
 TIz:=D.TIz
 TOz:=D.TOz
 TITO:=D.TITO
 z1:=by simp[D.i1z.symm,D.az.symm]
 z2:=by simp[D.i2z.symm,D.bz.symm]
 TI1:=D.TI1
 TI2:=D.TI2
 TO1:=by simp[D.TO1,D.aTO.symm]
 TO2:=by simp[D.TO2,D.bTO.symm]
 m1:=by simp
 m2:=by simp
 n1:=by simp[D.i12,D.b1.symm]
 n2:=by simp[D.i12.symm,D.a2.symm]
def Zpe (h1:a<n)(h2:b<n):ZB (n+4) (n+2) (n+3) n (n+1) a b:=by
 have f:∀i j:Nat,i≠j->n+i≠n+j:=λi j h e=>h (Nat.add_left_cancel e);have g:∀i:Nat,a≠n+i:=λi e=>absurd h1 (by rw[e];exact Nat.not_lt.mpr (Vs _ _));have I:∀i:Nat,b≠n+i:=λi e=>absurd h2 (by rw[e];exact Nat.not_lt.mpr (Vs _ _));exact⟨f 2 4 (by decide),f 3 4 (by decide),f 2 3 (by decide),f 0 4 (by decide),f 1 4 (by decide),f 2 0 (by decide),f 2 1 (by decide),f 3 0 (by decide),f 3 1 (by decide),f 0 1 (by decide),g 4,g 3,g 0,g 1,I 4,I 3,I 0,I 1⟩
section
variable {X:Cx}
end
def Zuz {prog:Program}{w:World}{A:Around}{E:Value->Shared->Prop}{s:Shared}{t sl:Addr}{items:Array Value}{vl vu:Value}{lo hi:Option Int}{Q:Value->Shared->Prop}(ht:IsTup s.heap t items)(hs:s.heap.IsSliceOf sl vl vu .none)(pl:IsPart vl lo)(pu:IsPart vu hi)
  (hw:HT.sIx items.size 0 lo=0/\HT.sIx items.size items.size hi=items.size) (h:Q (.ref t) s):wpAny (model prog w) A (getItem (.ref t) (.ref sl)) Q E s:=by
 obtain⟨os,O,Y,Z⟩:=id hs;have U:s.TypeIs (.ref sl) "slice":=⟨os,O,Y⟩;unfold getItem
 try with_reducible refine Q8 ?_
 first|refine Pj (Pl ?_)|skip
 refine Pj (wpAny_sequenceKey ht.typeIs (by decide) ?_);refine Pj (Rj (name:=Qx "__getitem__") ht.typeIs Tg
  (Rm Tg ht.typeIs PyProof.Rows.entry_tuple_getitem ?_ (PyProof.Rows.args_tuple_getitem _ _)))
 show wpAny _ _ (Builtin.Tuple.tupleItemsOf (.ref t) >>= _) _ _ s;refine Pj (PyProof.Rows.tupleItemsOf_ ht ?_);refine Pj (Tz U ?_);rw[if_pos (by decide)];refine Pj (HT.sliceApplied_gen hs pl pu ?_);have I:(((HT.sIx items.size 0 lo:Nat):Int) == 0 && (1:Int) == 1 && (HT.sIx items.size items.size hi-HT.sIx items.size 0 lo) == items.size)=true:=by
  rw[hw.1,hw.2];simp
 show wpAny _ _ (if (((HT.sIx items.size 0 lo:Nat):Int) == 0 && (1:Int) == 1 && (HT.sIx items.size items.size hi-HT.sIx items.size 0 lo) == items.size)=true then _ else _) _ _ s;rw[if_pos I];refine Pj (m:=Builtin.Tuple.tupleIsExact (.ref t)) ?_;unfold Builtin.Tuple.tupleIsExact;refine Pj (Tz ht.typeIs (Pl ?_));rw[if_pos (by decide)];refine Pj (Ua ?_);exact Pl ⟨_,rfl,Pl h⟩
def rSlU (K:Pi):V->Option Int->Option Int->Hp->VK->Prop:=λx lo hi H Q=>eX2 λa xs=>x=.ref a/\SqT K H a xs/\∀r H',Same H H'->SqT K H' r (Ca xs lo hi)->Q (.ref r) H'
def Zn0:SlR X (rSlU X.K):=by
 intro pins s σ H x v vl vu lo hi sl Q I rx hs pl pu h;obtain⟨a,xs,rfl,Z,q⟩:=h;by_cases U:HT.sIx xs.length 0 lo=0/\HT.sIx xs.length xs.length hi=xs.length
 ·cases rx;obtain⟨Y,r,ht,hz⟩:=I.tuple Z;have O:Y.toArray.size=xs.length:=by rw[Po];exact r.length.symm
  refine⟨"tuple",_,Tg.lookup,ht.typeIs,?_⟩;refine Zuz ht hs pl pu (by rw[O];exact U) ⟨.ref a,H,I,rfl,q a H (Same.refl H) ?_⟩;have e:Ca xs lo hi=xs:=by unfold Ca;rw[U.1,U.2];simp
  rw[e];exact Z
 ·exact Zia pins s σ H _ v vl vu lo hi sl Q I rx hs pl pu ⟨a,xs,rfl,Z,U,λp hp=>q p _ (Same.upd hp) (.of Ac)⟩
def rSlB (K:Pi):V->Option Int->Option Int->Hp->VK->Prop:=λx lo hi H Q=>Zdc K x lo hi H Q\/Zbu x lo hi H Q\/rSlU K x lo hi H Q
def Zil (K:Pi)(hK:autoParam (X.K=K) zX):SlR X (rSlB K):=by subst hK;exact sl_list.or (sl_str.or Zn0)
def Zh4 {K:Pi}{a:Addr}{xs:List V}{lo hi:Option Int}{H:Hp}{Q:VK}(ha:SqT K H a xs)(h:∀r H',Same H H'->SqT K H' r (Ca xs lo hi)->Q (.ref r) H'):rSlB K (.ref a) lo hi H Q:=.inr (.inr ⟨a,xs,rfl,ha,h⟩)
def Zms (xs:List V)(k:Nat):Ca xs none (some (k:Int))=xs.take k:=by
 unfold Ca;rw[HT.sIx_none,HT.sIx_nat,Uz,List.drop_zero];by_cases h:k<=xs.length
 ·rw[Vy h]
 ·rw[Nat.min_eq_right (by lia),Rv (Pm _),Rv (by lia)]
def Zel (xs:List V)(k:Nat):Ca xs (some (k:Int)) none=xs.drop k:=by
 unfold Ca;rw[HT.sIx_none,HT.sIx_nat];by_cases h:k<=xs.length
 ·rw[Vy h,Rv (by simp)]
 ·rw[Nat.min_eq_right (by lia),Sr (Pm _),Sr (by lia)];simp
structure Mvd (fs xs:List Addr)(h h':Heap):Prop where
 keep:∀b o,b ∉ xs->b ∉ fs->h.get? b=some o->h'.get? b=some o
 slot:∀b o,b ∉ xs->h.get? b=some o->∃sl,h'.get? b=some { o with slots:=sl }
def Mvd.trans (a:Mvd fs xs h h1)(b:Mvd fs xs h1 h2):Mvd fs xs h h2 :=
 ⟨λc o n1 n2 e=>b.keep c o n1 n2 (a.keep c o n1 n2 e),λc o n e=>by
  obtain⟨Y,O⟩:=a.slot c o n e;obtain⟨I,U⟩:=b.slot c _ n O;exact⟨I,U⟩⟩
def Mvd.mono (a:Mvd fs xs h h1)(s:∀b∈xs,b∈ys):Mvd fs ys h h1 :=
 ⟨λc o n1 n2 e=>a.keep c o (λz=>n1 (s c z)) n2 e,λc o n e=>a.slot c o (λz=>n (s c z)) e⟩
def Mvd.upd (f:Obj->Obj):Mvd fs [a] h (h.update a f) :=
 ⟨λc o n _ e=>by rw[Re _ _ (λz=>n (by simp[z]))];exact e,λc o n e=>⟨o.slots,by rw[Re _ _ (λz=>n (by simp[z]))];exact e⟩⟩
def Mvd.push (o:Obj):Mvd fs xs h (h.push o):=⟨λ_ _ _ _ e=>Pp _ e,λ_ o _ e=>⟨o.slots,Pp _ e⟩⟩
def Mvd.fun (a:Mvd fs xs h h1)(hl:h.FunFrames base l)(nx:∀b∈xs,eX2 λo vs=>h.get? b=some o/\o.data=.fields vs):h1.FunFrames base l :=
 hl.of_keeps λb o e hd=>by
  obtain⟨Y,U⟩:=a.slot b o (λz=>by
   obtain⟨o',vs,I,O⟩:=nx b z;rw[e]at I;cases I;exact hd vs O) e
  exact⟨_,U,rfl⟩
def Nw (h:Heap)(e T:Addr)(cls:Value)(od:Option Addr)(fl:Value):Prop :=
 eX4 λoe vs oT ts=>h.get? e=some oe/\oe.cls=cls/\oe.dict=od/\oe.data=.fields vs/\vs[1]?=some (.ref T)/\T≠e/\h.get? T=some oT/\oT.data=.fields ts/\ts[3]?=some fl/\vs[2]?=some .none
noncomputable abbrev Hy (h:Heap)(e T:Addr)(cls:Value)(od:Option Addr):Prop:=Nw h e T cls od .none
def Zau (h:Heap)(e:Addr)(cls:Value)(od:Option Addr):Prop:=eX2 λoe vs=>h.get? e=some oe/\oe.cls=cls/\oe.dict=od/\oe.data=.fields vs/\vs[1]?=some .none/\vs[2]?=some .none
section
variable {M:Model}{A:Around}{E:Value->Shared->Prop}{s:Shared}
def Zfw (hfr:A.frames=some (env::outer))(hl:s.heap.FunFrames base (env::outer))(hf:env.frame=some L)(he:s.heap.get? e=some oe)(hd:oe.data=.fields vs)(hsz:1<vs.size)(hct:vs[2]?=some .none)(h:∀h' T,s.heap.objs.size<=T->Nw h' e T oe.cls oe.dict (rawInt L)->Mvd (B8 (env::outer)) [e] s.heap h'->Q () { s with heap:=h' }) :
  wpAny M A (do let a <- frameOf env;let pl <- entryPlaceOf L hadNext;let b <- EntryCells.newEntry head a .none (rawInt L) .none pl;setField (.ref e) 1 b) Q E s:=by
 have O:e ∉ B8 (env::outer):=λhm=>by
  obtain⟨_,o,ho,aa⟩:=hl.mem hm;rw[he]at ho;cases ho;exact aa vs hd
 refine Pj (wpAny_frameOf_fun hfr hl hf λI Y=>?_);refine Pj (wpAny_entryPlaceOf λpl U=>?_);unfold EntryCells.newEntry newFields;refine Pj (Se ?_ (U.sizeOk5 _ _ _ _ _));have e1:I.get? e=some oe:=(Y.2.1 e O).trans he;generalize hoT:({ cls:=.type "traceback",dict:=none,data:=.fields ([head,.ref L,.none,rawInt L,.none]++(if pl.isEmpty then Qw 6 Value.none else pl)).toArray }:Obj)=Z;have e2:(I.push Z).get? e=some oe:=Pp _ e1;refine Uu e2 hd hsz (h _ I.objs.size (by rw[Y.1];exact Pm _) ?_ ?_)
 ·have nT:I.objs.size≠e:=Q3 (Pr e1);have d3:=Vk hd (·.setIfInBounds 1 (Value.ref I.objs.size));have e3:=Sb (Tv (·.setIfInBounds 1 (Value.ref I.objs.size))) e2 (Wm d3);have fT:Z.isFreed=false:=by rw[<- hoT];rfl
  have e4:=(Re (I.push Z) (Tv (·.setIfInBounds 1 (Value.ref I.objs.size))) (Px nT)).trans (P4 I fT);refine⟨_,_,_,_,e3,Obj.cls_mapFields _ _,?_,d3,by simp[hsz],nT,e4,by rw[<- hoT],?_⟩
  ·obtain⟨c0,d0,t0,s0⟩:=oe;cases t0 <;> rfl
  ·refine⟨?_,by rw[Array.getElem?_setIfInBounds_ne (by decide)];exact hct⟩
   first|(simp;done)|(rcases U with rfl|⟨_,_,_,_,_,_,_,rfl⟩ <;> simp)
 ·have m1:Mvd (B8 (env::outer)) [e] s.heap I:=⟨λb o _ n e=>(Y.2.1 b n).trans e,λb o _ e=>Y.2.2 b o e⟩;exact(m1.trans (Mvd.push Z)).trans (Mvd.upd _)
def Zat (x:Nw s.heap e T cls od fl)(h:∀h',Hy h' e T cls od->Mvd fs [T] s.heap h'->Q () { s with heap:=h' }):wpAny M A (setFlight (.ref e) none) Q E s:=by
 obtain⟨oe,vs,oT,ts,a1,a2,a3,Z,a5,Y,O,I,U⟩:=x;have hz:3<ts.size:=(U5.mp U.1).1;unfold setFlight;refine Pj (Py a1 Z a5 ?_);rw[if_pos (show(Value.ref T != Value.none)=true from by simp)];refine Uu O I hz (h _ ?_ (Mvd.upd _));have d:=Vk I (·.setIfInBounds 3 ((none:Option Addr).elim Value.none λf=>rawInt f));exact⟨oe,vs,_,_,by rw[Re _ _ Y];exact a1,a2,a3,Z,a5,Y,Sb _ O (Wm d),d,by simp[hz],U.2⟩
def Znq (hfr:A.frames=some (env::outer))(hl:s.heap.FunFrames base (env::outer))(hf:env.frame=some L)(x:Zau s.heap e cls od)(h:∀h' T,s.heap.objs.size<=T->Nw h' e T cls od (rawInt L)->Mvd (B8 (env::outer)) [e] s.heap h'->Q () { s with heap:=h' }):wpAny M A (noteFrame (.ref e) env) Q E s:=by
 obtain⟨U,vs,O,rfl,rfl,hd,h1,I⟩:=x;unfold noteFrame;simp only[hf];refine Pj (Py O hd h1 ?_);rw[if_neg (by decide)];exact Zfw hfr hl hf O hd (U5.mp h1).1 I h
def Zfd (hfr:A.frames=some (env::outer))(hl:s.heap.FunFrames base (env::outer))(hf:env.frame=some L)(x:Hy s.heap e T cls od)(h:∀h' T',s.heap.objs.size<=T'->Nw h' e T' cls od (rawInt L)->Mvd (B8 (env::outer)) [e,T] s.heap h'->Q () { s with heap:=h' }):wpAny M A (noteFrame (.ref e) env) Q E s:=by
 obtain⟨oe,vs,oT,ts,Y,rfl,rfl,hd,h1,nT,U,dT,Z,I⟩:=x;unfold noteFrame;simp only[hf];refine Pj (Py Y hd h1 ?_);rw[if_pos (show(Value.ref T != Value.none)=true from by simp)];refine Pj (Py U dT Z ?_);rw[if_neg (show ¬((Value.none == rawInt L)=true) from by simp[rawInt])];refine Pj (Uu U dT (U5.mp Z).1 ?_);have m1:Mvd (B8 (env::outer)) [T] s.heap (s.heap.update T (Tv (·.setIfInBounds 3 Value.none))):=Mvd.upd _;have O:(s.heap.update T (Tv (·.setIfInBounds 3 Value.none))).get? e=some oe:=(Re _ _ nT).trans Y;refine Zfw hfr (m1.fun hl λb hb=>by rw[P8.mp hb];exact⟨oT,ts,U,dT⟩) hf O hd (U5.mp h1).1 I λh' T' hz x m=>?_;refine h h' T' ?_ x ((m1.mono (by simp)).trans (m.mono (by simp)));have:(s.heap.update T (Tv (·.setIfInBounds 3 Value.none))).objs.size=s.heap.objs.size:=Heap.size_after_update ..;have hz:(s.heap.update T (Tv (·.setIfInBounds 3 Value.none))).objs.size<=T':=hz;lia
def Zl1 (hfr:A.frames=some (env::outer))(hl:s.heap.FunFrames base (env::outer))(hf:env.frame=some L)(x:Zau s.heap e cls od)(h:∀h' T,s.heap.objs.size<=T->Hy h' e T cls od->Mvd (B8 (env::outer)) [e,T] s.heap h'->Q () { s with heap:=h' }):wpAny M A (leaving env (.ref e)) Q E s:=by
 unfold leaving;refine Pj (Znq hfr hl hf x λh1 T hz y m=>?_);refine Zat (fs:=B8 (env::outer)) y λh2 y2 m2=>h h2 T hz y2 ((m.mono (by simp)).trans (m2.mono (by simp)))
def Zrb (hfr:A.frames=some (env::outer))(hl:s.heap.FunFrames base (env::outer))(hf:env.frame=some L)(x:Hy s.heap e T cls od)(h:∀h' T',s.heap.objs.size<=T'->Hy h' e T' cls od->Mvd (B8 (env::outer)) [e,T,T'] s.heap h'->Q () { s with heap:=h' }):wpAny M A (leaving env (.ref e)) Q E s:=by
 unfold leaving;refine Pj (Zfd hfr hl hf x λh1 T' hz y m=>?_);refine Zat (fs:=B8 (env::outer)) y λh2 y2 m2=>h h2 T' hz y2 ((m.mono (by simp)).trans (m2.mono (by simp)))
end
def Zbw {X:Cx}{st:Stmt}:QS X st (λ_ _ _=>False):=⟨λ_ _ _ _ _ _ h=>h.elim⟩
def Na (h:Heap)(z TI TO i1 i2:Addr):Prop:=eX3 λ(a:Addr)(oa:Obj)(f1:Value)=>h.get? z=some { cls:=.type "zip",dict:=none,data:=.fields #[rawInt a,f1,.bool false,.ref TI,.ref TO],slots:=#[] }/\h.get? a=some oa/\a≠z/\a≠i1/\a≠i2
section
variable {prog:Program}{w:World}{A:Around}{E:Value->Shared->Prop}{s:Shared}{z TI TO i1 i2:Addr}{fp1 fp2:List Addr}{n1 n2 i:Nat}{P1 P2:Nat->Value->Prop}{St1 St2:Nat->Heap->Prop}{a b:Value}
def Ze4 (hz:Na s.heap z TI TO i1 i2)(h:∀h',Na h' z TI TO i1 i2->P5 z s.heap h'->Q false { s with heap:=h' }):wpAny (model prog w) A (Ri (.ref z)) Q E s:=by
 obtain⟨a,oa,Z,e,U,Y,n1,n2⟩:=hz;unfold Ri;refine Pj (Py e rfl (x:=rawInt a) rfl ?_);show wpAny _ _ (loadIfAlive ((a:Int).toNat) >>= _) _ _ s;refine Pj (Zjq ?_);rw[Qz,U];rw[if_neg (by simp)];refine Pj (Py e rfl (x:=Z) rfl ?_);by_cases hf:(Z != Value.bool true)=true
 ·simp only[hf,if_true];refine Pj (Rl e (by simp) λI e5 O=>?_);replace O:P5 z s.heap I:=O;exact Pl (h I ⟨a,oa,.bool true,e5,O.extBut a oa Y U,Y,n1,n2⟩ O)
 ·simp only[hf];exact Pl (h s.heap ⟨a,oa,Z,e,U,Y,n1,n2⟩ (P5.refl ..))
def Zlt {Q:Value->Shared->Prop}(D1:Draws prog w A i1 fp1 n1 P1 St1)(D2:Draws prog w A i2 fp2 n2 P2 St2)(D:ZA z TI TO i1 i2 fp1 fp2)(hz:Na s.heap z TI TO i1 i2)(hTI:IsPair s.heap TI (.ref i1) (.ref i2))
  (st1:St1 i s.heap) (st2:St2 i s.heap) (l1:i<n1) (l2:i<n2)
  (hQ:∀x y h' tk,P1 i x->P2 i y->Na h' z TI TO i1 i2->St1 (i+1) h'->St2 (i+1) h'->IsPair h' s.heap.objs.size x y->h'.objs.size=s.heap.objs.size+1 ->
   (∀c o,c≠z->c≠i1->c≠i2->s.heap.get? c=some o->h'.get? c=some o)->Q (.ref s.heap.objs.size) { s with heap:=h',toks:=tk }) :
  wpAny (model prog w) A (Builtin.«zip.__next__» ⟨[.ref z],[]⟩) (λfin s'=>∃v,fin=.done (.ret v)/\Q v s') E s:=by
 obtain⟨a0,ah,ai,e0,_⟩:=id hz;show wpAny _ _ (field (.ref z) 2 >>= _) _ _ s;refine Pj (Py e0 rfl (x:=Value.bool false) rfl ?_);show wpAny _ _ (field (.ref z) 3 >>= _) _ _ s;refine Pj (Py e0 rfl (x:=Value.ref TI) rfl (Pj (Rg hTI rfl ?_)));show wpAny _ _ (Ri (.ref z) >>= _) _ _ s;refine Pj (Ze4 hz λaa Z e1=>?_);simp only[Um,if_false];refine Pj ?_;simp only[List.forIn_toArray,Ur,V2];refine Pj (Pj (Q8 ?_));show wpAny _ _ (Q4 (.ref i1) >>= _) _ _ _;refine Pj (D1.item i _ _ _ l1 (De D1 st1 e1 D.z1) λx O ag px ad Y=>Pl (Pl ?_));replace Y:P5 i1 aa O:=Y;refine Pj (Pj (Q8 ?_));show wpAny _ _ (Q4 (.ref i2) >>= _) _ _ _;have ac:St2 i O:=De D2 (De D2 st2 e1 D.z2) Y D.n1;refine Pj (D2.item i _ _ _ l2 ac λy I U py af e4=>Pl (Pl (Pl ?_)));replace e4:P5 i2 O I:=e4;show wpAny _ _ (newTuple [x,y] >>= _) _ _ _;refine Pj (wpAny_newTuple (Pl ⟨_,rfl,?_⟩));have sz:I.objs.size=s.heap.objs.size:=by rw[e4.1,Y.1,e1.1]
 show Q (.ref I.objs.size) { s with heap:=I.push { cls:=.type "tuple",data:=.seq #[x,y] },toks:=U };have up:∀c o,I.get? c=some o->(I.push { cls:=.type "tuple",data:=.seq #[x,y] }).get? c=some o:=λc o e=>Pp _ e;have k4:∀c o,c≠z->c≠i1->c≠i2->s.heap.get? c=some o->I.get? c=some o:=λc o c1 c3 c4 e=>e4.extBut _ _ c4 (Y.extBut _ _ c3 (e1.extBut _ _ c1 e));have t8:IsPair (I.push { cls:=.type "tuple",data:=.seq #[x,y] }) I.objs.size x y:=P4 _ rfl;rw[sz]at t8;rw[sz];obtain⟨a1,ae,f1,g1,g2,g3,g4,g5⟩:=Z;refine hQ x y _ U px py ⟨a1,ae,f1,up _ _ (e4.extBut _ _ D.i2z.symm (Y.extBut _ _ D.i1z.symm g1)),up _ _ (e4.extBut _ _ g5 (Y.extBut _ _ g4 g2)),g3,g4,g5⟩ ?_ ?_ t8 (by rw[Qv,sz]) λc o c1 c3 c4 e=>up c o (k4 c o c1 c3 c4 e)
 ·exact D1.frame _ _ _ (De D1 ad e4 D.n2) λc _ o e=>up c o e
 ·exact D2.frame _ _ _ af λc _ o e=>up c o e
def Zuc (D1:Draws prog w A i1 fp1 n1 P1 St1)(D2:Draws prog w A i2 fp2 n2 P2 St2)(D:ZA z TI TO i1 i2 fp1 fp2)(hz:Na s.heap z TI TO i1 i2)(hTI:IsPair s.heap TI (.ref i1) (.ref i2))(st1:St1 i s.heap)(st2:St2 i s.heap)(hend:i=n1\/(i<n1/\i=n2))(hE:∀h' e tk,(∀c o,c≠z->c≠i1->c≠i2->s.heap.get? c=some o->h'.get? c=some o)->(∃o,h'.get? e=some o/\o.cls=.type "StopIteration")->E (.ref e) { s with heap:=h',toks:=tk }) :
  wpAny (model prog w) A (Builtin.«zip.__next__» ⟨[.ref z],[]⟩) Q E s:=by
 obtain⟨a0,ae,ad,e0,_⟩:=id hz;show wpAny _ _ (field (.ref z) 2 >>= _) _ _ s;refine Pj (Py e0 rfl (x:=Value.bool false) rfl ?_);show wpAny _ _ (field (.ref z) 3 >>= _) _ _ s;refine Pj (Py e0 rfl (x:=Value.ref TI) rfl (Pj (Rg hTI rfl ?_)));show wpAny _ _ (Ri (.ref z) >>= _) _ _ s;refine Pj (Ze4 hz λU ac e1=>?_);simp only[Um,if_false];refine Pj ?_;simp only[List.forIn_toArray,Ur,V2];refine Pj (Pj (Q8 ?_));show wpAny _ _ (Q4 (.ref i1) >>= _) _ _ _;rcases hend with rfl|⟨l1,rfl⟩
 ·refine Pj (D1.done _ _ _ (De D1 st1 e1 D.z1) λI e O he=>?_);replace O:T9 i1 U I:=O;exact hE I e s.toks (λc o c1 c3 _ x=>O _ _ c3 (e1.extBut _ _ c1 x)) he
 ·refine Pj (D1.item i _ _ _ l1 (De D1 st1 e1 D.z1) λx I Z px af O=>Pl (Pl ?_));replace O:P5 i1 U I:=O;refine Pj (Pj (Q8 ?_));show wpAny _ _ (Q4 (.ref i2) >>= _) _ _ _;have aa:St2 i I:=De D2 (De D2 st2 e1 D.z2) O D.n1;refine Pj (D2.done _ _ _ aa λY e e4 he=>?_);replace e4:T9 i2 I Y:=e4;exact hE Y e Z (λc o c1 c3 c4 x=>e4 _ _ c4 (O.extBut _ _ c3 (e1.extBut _ _ c1 x))) he
def ZpSt (h:Heap)(z TI TO i1 i2:Addr)(i:Nat):Prop:=(i=0/\IsZip h z TI TO .none/\eX2 λu v=>IsPair h TO u v)\/(0<i/\Na h z TI TO i1 i2)
def ZpSt.obj (x:ZpSt h z TI TO i1 i2 i):∃vs,h.get? z=some { cls:=.type "zip",dict:=none,data:=.fields vs,slots:=#[] }:=by
 rcases x with⟨_,x,_⟩|⟨_,_,_,_,x,_⟩
 ·exact⟨_,x⟩
 ·exact⟨_,x⟩
def Zuh (D1:Draws prog w A.in1 i1 fp1 n1 P1 St1)(D2:Draws prog w A.in1 i2 fp2 n2 P2 St2)(D:ZA z TI TO i1 i2 fp1 fp2)(hz:ZpSt s.heap z TI TO i1 i2 i)(hTI:IsPair s.heap TI (.ref i1) (.ref i2))(eTO:∃o,s.heap.get? TO=some o)(st1:St1 i s.heap)(st2:St2 i s.heap)(l1:i<n1)(l2:i<n2)(hQ:∀x y h' tk,P1 i x->P2 i y->ZpSt h' z TI TO i1 i2 (i+1)->(∃o,h'.get? TO=some o)->St1 (i+1) h'->St2 (i+1) h'->IsPair h' s.heap.objs.size x y->h'.objs.size=s.heap.objs.size+1 ->
   (∀c o,c≠z->c≠TO->c≠i1->c≠i2->s.heap.get? c=some o->h'.get? c=some o)->Q (some (.ref s.heap.objs.size)) { s with heap:=h',toks:=tk }) :
  wpAny (model prog w) A (pyNext (.ref z)) Q E s:=by
 obtain⟨vs,ho⟩:=hz.obj;have hT:s.TypeIs (.ref z) "zip":=⟨_,ho,rfl⟩;have zl:z<s.heap.objs.size:=Pr ho;have U:i1<s.heap.objs.size:=by obtain⟨_,y⟩:=D1.live _ _ st1;exact Pr y
 have Y:i2<s.heap.objs.size:=by obtain⟨_,y⟩:=D2.live _ _ st2;exact Pr y
 rcases hz with⟨rfl,hz,u,v,aa⟩|⟨hi,hz⟩
 ·exact Zwn D1 D2 D hz hTI aa st1 st2 l1 l2 λx y h' tk a1 a2 Z a4 a5 a6 O I a9=>hQ x y h' tk a1 a2 (.inr ⟨Wb _,_,_,_,Z,O,Q3 zl,Q3 U,Q3 Y⟩) ⟨_,a4⟩ a5 a6 O I a9
 ·unfold pyNext;exact Pj (Tu (Rj (name:=Qx "__next__") hT Sd
   (Rm Sd hT Vg (Zlt D1 D2 D hz hTI st1 st2 l1 l2 λx y h' tk a1 a2 Z a4 a5 a6 O I=>Pl (hQ x y h' tk a1 a2 (.inr ⟨Wb _,Z⟩) (let ⟨o,e⟩:=eTO;⟨o,I _ o D.TOz D.TOi1 D.TOi2 e⟩) a4 a5 a6 O λc o c1 _ c3 c4 e=>I c o c1 c3 c4 e)) (Vd _))))
def Zpj (D1:Draws prog w A.in1 i1 fp1 n1 P1 St1)(D2:Draws prog w A.in1 i2 fp2 n2 P2 St2)(D:ZA z TI TO i1 i2 fp1 fp2)(hz:ZpSt s.heap z TI TO i1 i2 i)(hTI:IsPair s.heap TI (.ref i1) (.ref i2))(st1:St1 i s.heap)(st2:St2 i s.heap)(hend:i=n1\/(i<n1/\i=n2))(hQ:∀h' tk,(∀c o,c≠z->c≠TO->c≠i1->c≠i2->s.heap.get? c=some o->h'.get? c=some o)->Q none { s with heap:=h',toks:=tk }):wpAny (model prog w) A (pyNext (.ref z)) Q E s:=by
 obtain⟨vs,I⟩:=hz.obj;have U:s.TypeIs (.ref z) "zip":=⟨_,I,rfl⟩;rcases hz with⟨rfl,hz,u,v,O⟩|⟨hi,hz⟩
 ·exact Zu7 D1 D2 D hz hTI O st1 st2 hend hQ
 ·unfold pyNext;refine Pj (Tu (Rj (name:=Qx "__next__") U Sd
   (Rm Sd U Vg (Zuc D1 D2 D hz hTI st1 st2 hend λh' e tk hk Z=>?_) (Vd _))))
  obtain⟨o,I,Y⟩:=Z;exact Pj (W3 (T:="StopIteration") (b:=true) ⟨o,I,Y⟩ isSubtype_stop (Pl (hQ _ _ λc o c1 _ c3 c4 e=>hk c o c1 c3 c4 e)))
end
noncomputable abbrev itZ (b:Bool)(l:Addr):Obj:={ cls:=.type (cond b "tuple_iterator" "list_iterator"),data:=.fields #[.ref l,.int 0 0] }
def ZIt (b:Bool)(h:Heap)(a l:Addr)(i:Nat):Prop:=∃o,h.get? a=some o/\o.cls=.type (cond b "tuple_iterator" "list_iterator")/\o.data=.fields #[.ref l,.int i 0]
def ZIt.at (x:ZIt b h a l i)(k:∀o,h.get? a=some o->h'.get? a=some o):ZIt b h' a l i:=let ⟨o,e,r⟩:=x;⟨o,k o e,r⟩
def ZIn (b:Bool)(h:Heap)(a:Addr)(xs:Array Value):Prop:=cond b (h.IsTuple a xs) (h.IsList a xs)
def Je (b:Bool)(K:Pi)(H:Hp)(a:Addr)(xs:List V):Prop:=cond b (SqT K H a xs) (SqL K H a xs)
def ZIn.lt (x:ZIn b h a xs):a<h.objs.size:=by
 cases b <;> exact let ⟨_,e,_⟩:=id x;Pr e
def ZIn.push (x:ZIn b h a xs)(o:Obj):ZIn b (h.push o) a xs:=by
 cases b
 ·exact Heap.IsList.push x _
 ·obtain⟨o,e,r⟩:=id x;exact⟨o,Pp _ e,r⟩
def Same.sqZ {b:Bool}{K:Pi}{H H':Hp}{a:Addr}{xs:List V}(m:Same H H')(x:Je b K H a xs):Je b K H' a xs:=by
 cases b
 ·exact m.seq x
 ·exact m.tup x
def Inv.zin (I:Inv X pins σ H s)(x:Je b X.K H a xs):∃its,Vals xs its/\ZIn b s.heap a its.toArray:=by
 cases b
 ·obtain⟨its,O,pl,hz⟩:=I.list x;exact⟨its,O,pl.isList⟩
 ·obtain⟨its,O,pl,hz⟩:=I.tuple x;exact⟨its,O,pl⟩
def Inv.zsz (I:Inv X pins σ H s)(x:Je b X.K H a xs):xs.length<=sizeLine:=by
 cases b
 ·obtain⟨U,O,pl,hz⟩:=I.list x;have:=O.length;lia
 ·obtain⟨U,O,pl,hz⟩:=I.tuple x;have:=O.length;lia
def Za8 (b:Bool)(hh:A.handled=none)(it l:Addr)(hne:l≠it)(items:Array Value) :
  Draws prog w A it [it,l] items.size (λi v=>items[i]?=some v) (λi h=>ZIt b h it l i/\ZIn b h l items):=by
 cases b
 ·exact Draws.list hh it l hne items
 ·exact Zc7 hh it l hne items
def Zjg (q:ZIn b s.heap a xs)(h:Q (.ref s.heap.objs.size) { s with heap:=s.heap.push (itZ b a) }):wpAny (model prog w) A (pyIter (.ref a)) Q E s:=by
 cases b
 ·exact Vo q h
 ·exact Ul q h
noncomputable section
abbrev zl1 (b:Bool)(h:Heap)(l1:Addr):Heap:=h.push (itZ b l1)
abbrev zl2 (b gg:Bool)(h:Heap)(l1 l2:Addr):Heap:=(zl1 b h l1).push (itZ gg l2)
abbrev zl3 (b gg:Bool)(h:Heap)(l1 l2:Addr):Heap:=(zl2 b gg h l1 l2).push { cls:=.type "tuple",data:=.seq #[.ref h.objs.size,.ref (zl1 b h l1).objs.size] }
abbrev zl4 (b gg:Bool)(h:Heap)(l1 l2:Addr):Heap:=(zl3 b gg h l1 l2).push { cls:=.type "tuple",data:=.seq #[.none,.none] }
abbrev E3 (b gg:Bool)(h:Heap)(l1 l2:Addr):Heap:=(zl4 b gg h l1 l2).push { cls:=.type "zip",data:=.fields #[.none,.bool false,.bool false,.ref (zl2 b gg h l1 l2).objs.size,.ref (zl3 b gg h l1 l2).objs.size] }
end
def Zty (b gg:Bool)(l1 l2:Addr)(xs ys:Array Value) :
  Meets (Builtin.«zip.__new__» ⟨[.type "zip",.ref l1,.ref l2],[]⟩) (λ_ R s=>ZIn b s.heap l1 xs/\ZIn gg s.heap l2 ys/\R (.ok (.ret (.ref (zl4 b gg s.heap l1 l2).objs.size))) { s with heap:=E3 b gg s.heap l1 l2 }) :=
 .of_wp λprog w A R s h=>by
  obtain⟨hp,g,d,tk,os⟩:=s;obtain⟨O,I,h⟩:=h;have U:=sub_zip;have Y:ZIn b (Shared.heap ⟨hp,g,d,tk,os⟩) l1 xs:=O;have Z:ZIn gg (Shared.heap ⟨hp.push (itZ b l1),g,d,tk,os⟩) l2 ys:=I.push _
  wp_walk using Zjg Y,Zjg Z
  exact⟨_,rfl,h⟩
def Zs6 (hl1:ZIn b s.heap l1 xs)(hl2:ZIn gg s.heap l2 ys)(h:∀h',IsZip h' (s.heap.objs.size+4) (s.heap.objs.size+2) (s.heap.objs.size+3) .none->IsPair h' (s.heap.objs.size+2) (.ref s.heap.objs.size) (.ref (s.heap.objs.size+1)) ->
   IsPair h' (s.heap.objs.size+3) .none .none->ZIt b h' s.heap.objs.size l1 0->ZIt gg h' (s.heap.objs.size+1) l2 0->h'.objs.size=s.heap.objs.size+5 ->
   (∀c o,s.heap.get? c=some o->h'.get? c=some o)->Q (.ref (s.heap.objs.size+4)) { s with heap:=h' }) :
  wpAny (model prog w) A (call (.type "zip") [.ref l1,.ref l2]) Q E s:=by
 refine callType_new PySem.F.called_zip (by decide) (PySem.F.typeCall_zip_2 _ _) (PySem.F.newCall_zip_2 _ _) (λobj=>PySem.F.args_object_init_3 obj _ _) PySem.F.entry_zip_new (Zty b gg l1 l2 xs ys) ⟨hl1,hl2,?_⟩;have y1:(zl1 b s.heap l1).objs.size=s.heap.objs.size+1:=Qv ..;have y2:(zl2 b gg s.heap l1 l2).objs.size=s.heap.objs.size+2:=by rw[Qv,y1]
 have y3:(zl3 b gg s.heap l1 l2).objs.size=s.heap.objs.size+3:=by rw[Qv,y2]
 have y4:(zl4 b gg s.heap l1 l2).objs.size=s.heap.objs.size+4:=by rw[Qv,y3]
 have y5:(E3 b gg s.heap l1 l2).objs.size=s.heap.objs.size+5:=by rw[Qv,y4]
 have I:(E3 b gg s.heap l1 l2).get? (zl4 b gg s.heap l1 l2).objs.size=some _:=P4 _ rfl;have U:(E3 b gg s.heap l1 l2).get? (zl3 b gg s.heap l1 l2).objs.size=some _:=Pp _ (P4 _ rfl);have Y:(E3 b gg s.heap l1 l2).get? (zl2 b gg s.heap l1 l2).objs.size=some _:=Pp _ (Pp _ (P4 _ rfl));have O:(E3 b gg s.heap l1 l2).get? (zl1 b s.heap l1).objs.size=some _:=Pp _ (Pp _ (Pp _ (P4 _ rfl)));have u1:(E3 b gg s.heap l1 l2).get? s.heap.objs.size=some _:=Pp _ (Pp _ (Pp _ (Pp _ (P4 _ rfl))));show _/\_;rw[y2,y3,y4]at I;rw[y1,y2]at Y;rw[y3]at U;rw[y1]at O;rw[y4];exact⟨⟨_,I,rfl⟩,h _ I Y U ⟨_,u1,rfl,rfl⟩ ⟨_,O,rfl,rfl⟩ y5 λc o x=>Pp _ (Pp _ (Pp _ (Pp _ (Pp _ x))))⟩
def Pe (H:Hp)(xs ys zs:List V):Prop:=∀(j:Nat)(z:V),zs[j]?=some z->eX3 λ(t:Addr)(x y:V)=>z=V.ref t/\xs[j]?=some x/\ys[j]?=some y/\H t=some (.tup [x,y])
def JZp (f gg:Bool)(K:Pi)(H0:Hp)(z TI TO i1 i2 a b:Addr)(xs ys:List V):Nat->List V->Hp->Heap->Prop:=λi zs H h =>
 ZpSt h z TI TO i1 i2 i/\(IsPair h TI (.ref i1) (.ref i2)/\∃o,h.get? TO=some o)/\ZIt f h i1 a i/\ZIt gg h i2 b i/\(∀c∈[z,TI,TO,i1,i2],H c=none)/\zs.length=i/\Pe H xs ys zs/\Same H0 H
def Ztb:typeLookup (.type "zip") "__len__"=pure none:=by rw[Us,Ud];kernel_rfl
def Zlk:typeLookup (.type "zip") "__length_hint__"=pure none:=by rw[Us,Ud];kernel_rfl
def Zla {f gg:Bool}{X:Cx}{pins:List (Addr×Obj)}{σ:St}{H0:Hp}{z TI TO i1 i2 a b:Addr}{xs ys:List V}(fp:∀c∈[z,TI,TO,i1,i2],FpOk X pins H0 c)(D:ZB z TI TO i1 i2 a b)(ha:Je f X.K H0 a xs)(hb:Je gg X.K H0 b ys) :
  Src X pins σ z "zip" (min xs.length ys.length) H0 (JZp f gg X.K H0 z TI TO i1 i2 a b xs ys) where
 ty:=λi zs H h j=>by
  obtain⟨vs,e⟩:=j.1.obj;exact⟨_,e,rfl⟩
 nl:=by decide
 hint:=⟨_,λA s Q E hT h=>Zk1 hT Ztb Zlk h⟩
 self:=λA s zs H Q E j q=>by
  rcases j.1 with⟨_,e,_⟩|⟨z,_⟩
  ·exact wpAny_pyIter_zip e q
  ·exact absurd z (Q7 _)
 keep:=λi zs H h h' S us aj h0 hS j k al=>by
  obtain⟨j1,⟨j2,jT⟩,j3,j4,j5,j6,j7,j8⟩:=j;have ne:∀c∈[z,TI,TO,i1,i2],c≠S:=λc O e=>by
   have:=j5 c O;rw[e,hS]at this;cases this
  refine⟨?_,⟨k _ _ (ne TI (by simp)) j2,let ⟨o,e⟩:=jT;⟨o,k _ _ (ne TO (by simp)) e⟩⟩,j3.at λo e=>k _ _ (ne i1 (by simp)) e,j4.at λo e=>k _ _ (ne i2 (by simp)) e,λc O=>by rw[Ah (ne c O)];exact j5 c O,j6,λm y hy=>?_,j8.over h0⟩
  ·rcases j1 with⟨z0,e,u,v,e2⟩|⟨z0,a0,oa,f1,e,ea,x1,x2,x3⟩
   ·exact .inl ⟨z0,k _ _ (ne z (by simp)) e,u,v,k _ _ (ne TO (by simp)) e2⟩
   ·by_cases hs:a0=S
    ·subst hs;obtain⟨o,eo⟩:=al;exact .inr ⟨z0,a0,o,f1,k _ _ (ne z (by simp)) e,eo,x1,x2,x3⟩
    ·exact .inr ⟨z0,a0,oa,f1,k _ _ (ne z (by simp)) e,k _ _ hs ea,x1,x2,x3⟩
  ·obtain⟨t,x,y',e1,e2,e3,e4⟩:=j7 m y hy;exact⟨t,x,y',e1,e2,e3,by rw[Ah (El e4 hS (by intro z;cases z))];exact e4⟩
 fresh:=λi zs H h j=>j.2.2.2.2.1 z (by simp)
 item:=λA i s H zs E hh hi I j=>by
  obtain⟨j1,⟨j2,jT⟩,j3,j4,j5,j6,j7,j8⟩:=j;obtain⟨Y,rv,p⟩:=I.zin (j8.sqZ ha);obtain⟨U,Z,p2⟩:=I.zin (j8.sqZ hb);have g1:=rv.length;have g2:=Z.length;have l1:i<xs.length:=by lia
  have l2:i<ys.length:=by lia
  have D1:=Za8 (prog:=X.prog) (w:=X.w) (A:=A.in1) f hh i1 a D.a1 Y.toArray;have D2:=Za8 (prog:=X.prog) (w:=X.w) (A:=A.in1) gg hh i2 b D.b2 U.toArray;refine Zuh D1 D2 D.za j1 j2 jT ⟨j3,p⟩ ⟨j4,p2⟩ (by rw[Po];lia) (by rw[Po];lia) λx y h' tk px py a1 aT a2 a3 a4 a5 a6=>?_;have ai:Y[i]?=some x:=by simpa using px
  have ag:U[i]?=some y:=by simpa using py
  obtain⟨u1,ac,af⟩:=rv.get (Pk l1);obtain⟨u2,ae,ah⟩:=Z.get (Pk l2);rw[ai]at ac;cases ac;rw[ag]at ae;cases ae;have hf:H s.heap.objs.size=none:=I.hok.fresh (Pm _);have aa:∀c∈[z,TI,TO,i1,i2],FpOk X pins H c:=λc O=>(fp c O).of (j5 c O);have kk:∀c o,c ∉ [z,TI,TO,i1,i2]->s.heap.get? c=some o->h'.get? c=some o:=λc o O e=>by
   simp only[Ps,P0,or_false,not_or]at O;exact a6 c o O.1 O.2.2.1 O.2.2.2.1 O.2.2.2.2 e
  have I2:=I.pairL (tk:=tk) (T:=s.heap.objs.size) (xs:=[xs[i],ys[i]]) (its:=[x,y]) aa kk (Pm _) (.cons af (.cons ah .nil)) (by show 2<=sizeLine;decide) ⟨_,a4,rfl,_,rfl⟩;have sm:Same H (upd H s.heap.objs.size (.tup [xs[i],ys[i]])):=Same.upd hf;have lt:∀{c o},s.heap.get? c=some o->c≠s.heap.objs.size:=λe=>P3 (Pr e);have nw:∀c∈[z,TI,TO,i1,i2],c≠s.heap.objs.size:=λc O=>by
   simp only[Ps,P0,or_false]at O;rcases O with rfl|rfl|rfl|rfl|rfl
   ·obtain⟨_,e⟩:=j1.obj;exact lt e
   ·exact lt j2
   ·obtain⟨_,e⟩:=jT;exact lt e
   ·obtain⟨_,e,_⟩:=j3;exact lt e
   ·obtain⟨_,e,_⟩:=j4;exact lt e
  refine⟨_,.ref s.heap.objs.size,_,rfl,rfl,I2,⟨a1,⟨a6 _ _ D.TIz D.TITO D.TI1 D.TI2 j2,aT⟩,a2.1,a3.1,λc O=>by rw[Ah (nw c O)];exact j5 c O,by simp[j6],λm y hy=>?_,j8.trans sm⟩,λS us e=>sm S _ e⟩;by_cases hm:m<i
  ·rw[Qk (by lia)]at hy;obtain⟨t,x,y',e1,e2,e3,e4⟩:=j7 m y hy;exact⟨t,x,y',e1,e2,e3,sm _ _ e4⟩
  ·have ad:=(Pt.mp hy).1;rw[Pn,Pz]at ad;have:m=i:=by lia
   subst this;rw[Qt (by lia),j6,Q9]at hy;have hy:V.ref s.heap.objs.size=y:=by simpa using hy
   exact⟨_,xs[m],ys[m],hy.symm,Pk l1,Pk l2,Ac⟩
 done:=λA s H zs E hh I j=>by
  obtain⟨j1,⟨j2,jT⟩,j3,j4,j5,j6,j7,j8⟩:=j;obtain⟨Y,rv,p⟩:=I.zin (j8.sqZ ha);obtain⟨U,Z,p2⟩:=I.zin (j8.sqZ hb);have g1:=rv.length;have g2:=Z.length;have D1:=Za8 (prog:=X.prog) (w:=X.w) (A:=A.in1) f hh i1 a D.a1 Y.toArray;have D2:=Za8 (prog:=X.prog) (w:=X.w) (A:=A.in1) gg hh i2 b D.b2 U.toArray;have aa:∀c∈[z,TI,TO,i1,i2],FpOk X pins H c:=λc O=>(fp c O).of (j5 c O);refine Zpj D1 D2 D.za j1 j2 ⟨j3,p⟩ ⟨j4,p2⟩ (by simp only[Po];lia) λh' tk kk=>⟨rfl,I.turnedL (λc o O e=>?_) aa⟩;simp only[Ps,P0,or_false,not_or]at O;exact kk c o O.1 O.2.2.1 O.2.2.2.1 O.2.2.2.2 e
section
variable {X:Cx}
def Zef (f gg:Bool)(K:Pi)(ta:TA):TE:=λσ H Q=>ta σ H λvs H1=>eX4 λa b xs ys=>vs=[.ref a,.ref b]/\Je f K H1 a xs/\Je gg K H1 b ys /\
 ∀(S:Addr)(zs:List V)(H2:Hp),H1 S=none->Same H1 H2->zs.length=min xs.length ys.length->Pe H2 xs ys zs->H2 S=some (.lst zs)->Q (.ref S) H2
def Zk7 (f gg:Bool)(K:Pi)(hg:Gl X "list")(hm:X.mg "list"=none)(hg2:Gl X "zip")(hm2:X.mg "zip"=none)(ha:QA X [e,e2] ta)(hK:autoParam (X.K=K) zX)(hc:autoParam (X.calm=true) zX)(hs:autoParam (starEach [.Call (.Name "zip" p2) [e,e2] [] pos2] X.env=[(false,eval (.Call (.Name "zip" p2) [e,e2] [] pos2) X.env)]) zX)(hs2:autoParam (starEach [e,e2] X.env=[(false,eval e X.env),(false,eval e2 X.env)]) zX)(hs3:autoParam (starEach [e2] X.env=[(false,eval e2 X.env)]) zX) :
  QE X (.Call (.Name "list" p) [.Call (.Name "zip" p2) [e,e2] [] pos2] [] pos) (Zef f gg K ta):=by
 subst hK;refine⟨λpins s σ H Q I h=>?_⟩;refine Call_ (Gy I hg hm Zkd (Sn ?_ hs rfl));rw[hs];show wpAny _ _ (spliced ((false,eval (.Call (.Name "zip" p2) [e,e2] [] pos2) X.env)::[])) _ _ s;refine Ws ?_;refine Call_ (Gy I hg2 hm2 PyProof.Rows.boot_zip (Sn (Au (ha.run pos2 pins s σ H _ I h) λus O ⟨vs,H1,Y,r1,q1⟩=>?_) (by rw[hs2,hs3]) (by rw[hs3];rfl)));obtain⟨a,b,xs,ys,e1,hq,U,q⟩:=q1;subst e1;obtain⟨u,v,rfl,ru,rv⟩:=r1.two;cases ru;cases rv;obtain⟨ai,rv,pl⟩:=Y.zin hq;obtain⟨ag,ah,aa⟩:=Y.zin U;have aj:=Y.zsz U;have ad:a<O.heap.objs.size:=pl.lt;have ac:b<O.heap.objs.size:=aa.lt;refine Zs6 pl aa λh' a1 a2 a3 a4 a5 a6 hk=>?_;refine Wz ?_;have fr:∀k,FpOk X pins H1 (O.heap.objs.size+k):=λk=>Y.fpOk (Vs _ _) (Y.hok.fresh (Vs _ _));have fp:∀c∈[O.heap.objs.size+4,O.heap.objs.size+2,O.heap.objs.size+3,O.heap.objs.size,O.heap.objs.size+1],FpOk X pins H1 c:=λc hc=>by
  simp only[Ps,P0,or_false]at hc;rcases hc with rfl|rfl|rfl|rfl|rfl
  ·exact fr 4
  ·exact fr 2
  ·exact fr 3
  ·exact fr 0
  ·exact fr 1
 have C:=Zla (X:=X) (pins:=pins) (σ:=σ) (H0:=H1) fp (Zpe ad ac) hq U;have I2:Inv X pins σ H1 { O with heap:=h' }:=Y.kept (t':=O.toks) hk;refine Ziu C (by lia) (Y.ok.hd hc) I2 ⟨.inl ⟨rfl,a1,_,_,a3⟩,⟨a2,_,a3⟩,a4,a5,λc hc=>(fp c hc).1,rfl,λj y hy=>by simp at hy,Same.refl _⟩ (λS Z hS h2 k2=>?_) λS H' zs hS ae af hj=>?_
 ·have sm:Same H1 (upd H1 S (.lst [])):=Same.upd hS;refine⟨.inl ⟨rfl,k2 _ _ a1,_,_,k2 _ _ a3⟩,⟨k2 _ _ a2,_,k2 _ _ a3⟩,a4.at λo e=>k2 _ _ e,a5.at λo e=>k2 _ _ e,λc hc=>?_,rfl,λj y hy=>by simp at hy,sm⟩;have Z:h'.objs.size<=S:=Z;rw[Ah (show c≠S from λz=>?_)]
  ·exact(fp c hc).1
  ·simp only[Ps,P0,or_false]at hc;rcases hc with rfl|rfl|rfl|rfl|rfl <;> exact absurd z (P3 (Qb (by lia) Z))
 ·obtain⟨h,j⟩:=hj;exact q S zs H' hS j.2.2.2.2.2.2.2 af j.2.2.2.2.2.2.1 ae
noncomputable abbrev Zip:=Zef true false
def Zow (K:Pi)(hg:Gl X "list")(hm:X.mg "list"=none)(hg2:Gl X "zip")(hm2:X.mg "zip"=none)(ha:QA X [e,e2] ta)(hK:autoParam (X.K=K) zX)(hc:autoParam (X.calm=true) zX)(hs:autoParam (starEach [.Call (.Name "zip" p2) [e,e2] [] pos2] X.env=[(false,eval (.Call (.Name "zip" p2) [e,e2] [] pos2) X.env)]) zX)(hs2:autoParam (starEach [e,e2] X.env=[(false,eval e X.env),(false,eval e2 X.env)]) zX)(hs3:autoParam (starEach [e2] X.env=[(false,eval e2 X.env)]) zX) :
  QE X (.Call (.Name "list" p) [.Call (.Name "zip" p2) [e,e2] [] pos2] [] pos) (Zip K ta):=Zk7 true false K hg hm hg2 hm2 ha hK hc hs hs2 hs3
def s_listzp {K:Pi}{ta:TA}{σ:St}{H:Hp}{Q:VK}(h:ta σ H λvs H1=>eX4 λa b xs ys=>vs=[.ref a,.ref b]/\SqT K H1 a xs/\SqL K H1 b ys /\
 ∀(S:Addr)(zs:List V)(H2:Hp),H1 S=none->Same H1 H2->zs.length=min xs.length ys.length->Pe H2 xs ys zs->H2 S=some (.lst zs)->Q (.ref S) H2):Zip K ta σ H Q:=h
end
def Znu:∀(xs ys:List Int),((P7 (min xs.length ys.length)).all (λj=>xs.getD j 0 == ys.getD j 0) && xs.length == ys.length)=decide (xs=ys):=by
 intro xs ys;rw[Uq,R3,Sg,beq_iff_eq,decide_eq_true_iff];constructor
 ·rintro⟨h1,h2⟩;apply List.ext_getElem h2;intro i g1 g2;have:=h1 i (V0.mpr (by lia));rw[beq_iff_eq,U6,U6,Pk g1,Pk g2]at this;exact this
 ·rintro rfl;exact⟨λj _=>by simp,rfl⟩
section
variable {X:Cx}
end
section
variable {X:Cx}
end
def Bz (P:Program)(w:World):C3:=λouter H s E I s'=>eX5 λ(e T:Addr)(cls:Value)(od:Option Addr)(H':Hp)=>I=.ref e/\s'.os=s.os/\AllBare s'.gens/\Un (B8 outer) [] H H' s.heap s'.heap/\HOk P w H' s'.heap /\
 s.heap.get? e=none/\s.heap.get? T=none/\H' e=none/\H' T=none/\Hy s'.heap e T cls od/\E cls od H'
section
variable {X:Cx}{pins:List (Addr×Obj)}{σ:St}{H:Hp}{s:Shared}
def Inv.old (I:Inv X pins σ H s)(hex:X.ex=[])(h:s.heap.get? b=none):X.s₀.heap.get? b=none:=by
 cases q:X.s₀.heap.get? b with
 |none=>rfl
 |some o =>
  obtain⟨o',e⟩:=I.base.there b o q (by rw[hex];simp);rw[h]at e;cases e
def Inv.mvd (I:Inv X pins σ H s)(m:Mvd (B8 X.stack) xs s.heap h')(hx:∀b∈xs,X.s₀.heap.get? b=none/\H b=none)(hex:X.ex=[]):Un X.fs [] X.H₀ H X.s₀.heap h'/\HOk X.prog X.w H h':=by
 have O:∀b o,X.s₀.heap.get? b=some o->b ∉ xs:=λb o e hb=>by rw[(hx b hb).1]at e;cases e
 have aa:∀b o,X.s₀.heap.get? b=some o->b≠X.env.locals:=λb o e=>P3 (Qb (Pr e) I.ok.above);have Y:∀b o,X.s₀.heap.get? b=some o->b ∉ X.fs->b ∉ B8 X.stack:=λb o e hf U=>by
  rcases I.ok.stk with z|⟨z,z2⟩
  ·rw[z]at U;exact hf U
  ·rw[z]at U;unfold B8 at U;rw[Vh,z2]at U;rcases Ps.mp U with q|q
   ·exact aa b o e q
   ·exact hf q
 have B:=I.base;rw[hex]at B;refine⟨⟨λb o e n hf _=>?_,λb o e n hf _=>?_,λb o e n _=>B.free b o e n (by simp),λb o e _=>?_,B.tups,B.frzs,B.tbls⟩,λb u e=>?_⟩
 ·exact m.keep b o (O b o e) (Y b o e hf) (B.keep b o e n hf (by simp))
 ·obtain⟨sl,e1⟩:=B.slot b o e n hf (by simp);obtain⟨Z,e2⟩:=m.slot b _ (O b o e) e1;exact⟨Z,e2⟩
 ·obtain⟨o',e1⟩:=B.there b o e (by simp);obtain⟨sl,e2⟩:=m.slot b o' (O b o e) e1;exact⟨_,e2⟩
 ·have tr:∀c v,H c=some v->c ∉ xs/\c ∉ B8 X.stack:=λc v q=>⟨(λz=>by rw[(hx c z).2]at q;cases q),(λz=>by rw[I.stkFree c z]at q;cases q)⟩;refine(I.hok b u e).stay (λc v hc q=>m.keep c v ?_ ?_ q) (λ_ q=>q) λ_ _ q=>q
  ·rcases hc with z|z
   ·rw[z];exact(tr b u e).1
   ·exact(tr c _ z).1
  ·rcases hc with z|z
   ·rw[z];exact(tr b u e).2
   ·exact(tr c _ z).2
end
section
variable {P:Program}{w:World}{K:Pi}{mg:Str->Option Value}{base:Heap}{N:List Str}{qual:Str}{scope:Scope}{f:Addr}{cd:Value}{A:Around}{outer:List Env}{s0:Shared}{H0:Hp}{E:XK}
def Hu (h:∀cls od H',E' cls od H'->E cls od H'):G3 (Bz P w) (Fp (Bz P w) P w K mg base N qual scope f cd A outer s0 H0 E) E':=by
 intro pins σ H s ev s' I c;obtain⟨e,T,cls,od,H',rfl,h1,h2,h3,h4,h5,h6,Y,h8,Z,U⟩:=c;have J:Inv (Fp (Bz P w) P w K mg base N qual scope f cd A outer s0 H0 E) pins σ H' s':=I.call' (ch:=[]) h1 h3 h4 h2 (λb z=>absurd z (by simp));refine Zrb (base:=base) (outer:=outer) (L:=s0.heap.objs.size) J.ok.frames J.stack rfl Z λh' T' O y m=>?_;obtain⟨u,ok⟩:=J.mvd (h':=h') m (λb hb=>by
  simp only[Ps,P0,or_false]at hb;rcases hb with rfl|rfl|rfl
  ·exact⟨I.old rfl h5,Y⟩
  ·exact⟨I.old rfl h6,h8⟩
  ·exact⟨J.old rfl (Ug O),J.hok.fresh O⟩) rfl
 exact⟨e,T',cls,od,H',rfl,J.os,J.bare,u,ok,I.old rfl h5,J.old rfl (Ug O),Y,J.hok.fresh O,y,h _ _ _ U⟩
def Zlo (I:Inv (Fp (Bz P w) P w K mg base N qual scope f cd A outer s0 H0 E) pins σ H s)(x:Zau s.heap e cls od)(he:s0.heap.get? e=none)(hn:H e=none)(h:E cls od H) :
  (Fp (Bz P w) P w K mg base N qual scope f cd A outer s0 H0 E).xe (.ref e) s:=by
 refine Zl1 (base:=base) (outer:=outer) (L:=s0.heap.objs.size) I.ok.frames I.stack rfl x λh' T O y m=>?_;obtain⟨u,ok⟩:=I.mvd (h':=h') m (λb hb=>by
  simp only[Ps,P0,or_false]at hb;rcases hb with rfl|rfl
  ·exact⟨he,hn⟩
  ·exact⟨I.old rfl (Ug O),I.hok.fresh O⟩) rfl
 exact⟨e,T,cls,od,H,rfl,I.os,I.bare,u,ok,he,I.old rfl (Ug O),hn,I.hok.fresh O,y,h⟩
end
section
variable {P:Program}{w:World}{K:Pi}{mg:Str->Option Value}{base:Heap}
def Fun.okx {x qual:Str}{st:Stmt}{f:Addr}{fd:FuncData}{N ps:List Str}{k:Nat}{sp:Sp}(F:Fun K x qual st f fd)(S:Bc N ps (A7 st))(len:∀vs H Q E,sp vs H Q E->vs.length=ps.length)
  (hbody:∀(cdv:Value)(A:Around)(outer:List Env)(s:Shared)(H:Hp)(vs:List V)(Q:VK)(E:XK),Room k (A.deeper (envOfC qual (A7 st) s.heap.objs.size f cdv))->sp vs H Q E ->
   ∃t,Fs (Fp (Bz P w) P w K mg base N qual (A7 st) f cdv A outer s H E) (Gh st) t/\t { nx:=λ_ H'=>Q .non H',rt:=Q } (Gq N vs) H):FnOk P w K mg base (Bz P w) (k+1) f fd ps sp:=by
 obtain⟨oc,od,kV,aa,pm,an,cdv,ct,Z,rfl,Y,O⟩:=F.ex;refine Zkq Y O S len λA outer s H vs Q E U I=>?_;obtain⟨t,h,q⟩:=hbody cdv A outer s H vs Q E U I;exact⟨t,h.run,q⟩
structure Ki (P:Program)(w:World)(K:Pi)(mg:Str->Option Value)(base:Heap)(k:Nat)(x:Str)(ps:List Str)(sp:Sp):Prop where
 ex:eX2 λ(f:Addr)(fd:FuncData)=>FnOk P w K mg base (Bz P w) k f fd ps sp/\mg x=some (.ref f)/\Ro K (.ref f)=true/\Binds K fd ps []
def Zr8 (F:FnOk P w K mg base (Bz P w) k f fd ps sp)(m:mg x=some (.ref f))(kp:Ro K (.ref f)=true)(b:Binds K fd ps []):Ki P w K mg base k x ps sp:=⟨f,fd,F,m,kp,b⟩
end
section
variable {X:Cx}{k:Nat}{x:Str}{ps:List Str}{sp:Sp}{p pos np cpos:Pos}{e:Expr}{es:List Expr}{t:TA}{E:XK}
def Zqe (C:Ki X.prog X.w X.K X.mg X.base k x ps sp)(hr:Room k X.A)(hx:G3 (Bz X.prog X.w) X E)(ha:QA X (e::es) t)(hg:autoParam (Gl X x) zX)(hdb:autoParam ((x == ("__debug__":Str))=false) zW)
  (he:autoParam (starEach (e::es) X.env=(false,eval e X.env)::starEach es X.env) zX) (hpl:autoParam ((backTo pos (starEach es X.env)).any (·.1)=false) zX):QE X (.Call (.Name x p) (e::es) [] pos) (Oh sp [] E t):=by
 obtain⟨f,fd,F,I,O,hb⟩:=C.ex;exact⟨Zf6 F hr hg I O hb .nil hx ha.run hdb he hpl⟩
noncomputable abbrev VE:List Value:=[.type "ValueError",.type "Exception",.type "BaseException",.type "object"]
def Zna (X:Cx)(E:XK):Prop:=∀(pins:List (Addr×Obj))(σ:St)(H:Hp)(s:Shared)(a:Addr)(cls:Value)(od:Option Addr),Inv X pins σ H s->Zau s.heap a cls od->X.s₀.heap.get? a=none->H a=none->E cls od H->X.xe (.ref a) s
structure Zbe (K:Pi)(C:Addr):Prop where
 ex:∃bm dd nm bs ns qn hd sn sub ab col k0 k1 k2 k3 k5,K.lookup C=some (excClassObj nm qn C ns bs bm hd sn sub ab col dd k0 k1 k2 k3 k5 "ValueError.__new__")/\Ts K VE bm=true/\Tt K ns=true/\Qa K ns "__init__"=some none
def Zuu {K:Pi}{h0:Heap}{C:Addr}(kin0:K.In h0)(q:Zbe K C) :
  eX17 λbm N nm q bs hdct sn sub ab col dd k0 k1 k2 k3 k5 mN=>mN "__init__"=none/\∀h:Heap,K.In h->h.get? C=some (excClassObj nm q C N bs bm hdct sn sub ab col dd k0 k1 k2 k3 k5 "ValueError.__new__")/\h.Ns N mN/\OwnTail h VE bm:=by
 obtain⟨bm,dd,nm,bs,ns,Y,hd,sn,sub,ab,col,k0,k1,k2,k3,k5,O,Z,hok,I⟩:=q.ex;have U:h0.Ns ns (h0.nsMap ns):=.of_isNs (PySem.W.isNs_of_in kin0 hok);refine⟨bm,ns,nm,Y,bs,hd,sn,sub,ab,col,dd,k0,k1,k2,k3,k5,h0.nsMap ns,PySem.W.nsMap_none_of_in kin0 hok I,λh kin=>⟨kin _ _ O,?_,PySem.W.tail_of_in kin Z⟩⟩;obtain⟨o,es,ep,e,r⟩:=U;refine⟨o,es,ep,?_,r⟩;unfold Tt at hok;split at hok
 ·rename_i hl;have:=kin0 _ _ hl;rw[e]at this;cases this;exact kin _ _ hl
 ·cases hok
def ObjOk.there (x:ObjOk P w H h a o):∃u,h.get? a=some u:=by
 induction o with
 |lst xs=>obtain⟨_,_,_,_,e⟩:=x;exact⟨_,e⟩
 |tup xs=>obtain⟨_,_,_,o,e,_⟩:=x;exact⟨_,e⟩
 |dK kvs=>obtain⟨_,_,vs,_,d⟩:=x;obtain⟨o,e,_⟩:=Xa.mp d;exact⟨_,e⟩
 |dT kvs=>obtain⟨_,_,_,_,o,_,_,e,_⟩:=x;exact⟨_,e⟩
 |set S n=>obtain⟨o,_,_,_,e,_⟩:=x;exact⟨_,e⟩
 |ins C dx fs=>obtain⟨_,_,_,e,_⟩:=x;exact⟨_,e⟩
 |own y=>exact x
 |xd fs=>obtain⟨_,⟨o,_,_,e,_⟩,_⟩:=x;exact⟨_,e⟩
 |met f y=>exact⟨_,x⟩
 |rng lo hi=>obtain⟨_,_,_,e⟩:=x;exact⟨_,e⟩
 |frz o u _=>exact⟨_,x.1⟩
 |tbl ps=>exact⟨_,x⟩
 |ext φ=>exact x.2.1
def HOk.no (x:HOk P w H h)(e:h.get? a=none):H a=none:=by
 cases q:H a with
 |none=>rfl
 |some u =>
  have z:=(x a u q).there;rw[e]at z;obtain⟨o,z⟩:=z;cases z
def Zok (hc:X.calm=true)(hC:Zbe X.K C)(G:X.mg x=some (.ref C))(ha:QA X [a] t)(hx:Zna X E)(hex:X.ex=[])(hg:autoParam (Gl X x) zX)(hdb:autoParam ((x == ("__debug__":Str))=false) zW)(he:autoParam (starEach [a] X.env=[(false,eval a X.env)]) zX):QS X (.Raise (some (.Call (.Name x np) [a] [] cpos)) none pos) (λD σ H=>t σ H λvs H1=>vs.length<=sizeLine/\E (.ref C) none H1):=by
 refine⟨λpins s σ H D I h=>?_⟩;obtain⟨bm,N,nm,q,bs,hdct,sn,sub,ab,col,dd,k0,k1,k2,k3,k5,mN,aa,cl⟩:=Zuu I.kIn hC;obtain⟨cC,cN,cT⟩:=cl _ I.kIn;refine wpAny_Raise_call_subU (C:=C) (nm:=nm) (q:=q) (N:=N) (bs:=bs) (bm:=bm) (hdct:=hdct) (sn:=sn) (sub:=sub) (ab:=ab) (col:=col) (dd:=dd) (k0:=k0) (k1:=k1) (k2:=k2) (k3:=k3) (k5:=k5)
  Wh (by decide) Wh (mN:=mN) (cT.hasType Wh.hasBase) (I.ok.hd hc) (by rw[he];rfl) aa (Nb I hg G ⟨rfl,?_⟩ hdb)
 rw[he];have ar:=ha.run cpos pins s σ H _ I h;rw[he]at ar;refine Calls.evalArgs_plain (Rt ar (λus s2 h2=>?_) λ_ _ y=>y);obtain⟨vs,H1,U,r1,z,q1⟩:=h2;obtain⟨Y,Z,ac⟩:=cl _ U.kIn;refine⟨rfl,by rw[<- r1.length];exact z,Y,Z,ac,λh' a' O=>?_⟩;obtain⟨t',e1,_,_⟩:=O.there;have I2:Inv X pins σ H1 { s2 with heap:=h' }:=U.kept (t':=s2.toks) O.keeps;exact hx pins σ H1 _ a' (.ref C) none I2 ⟨_,_,e1,rfl,rfl,rfl,rfl,rfl⟩ (U.old hex O.new) (U.hok.no O.new) q1
end
noncomputable def exk (a:Addr)(cls:Value)(od:Option Addr):HO:=.ext λh=>eX2 λo vs=>h.get? a=some o/\o.cls=cls/\o.dict=od/\o.data=.fields vs/\vs[2]?=some .none
def Zsg (x:Hy h a T cls od):ObjOk P w H h a (exk a cls od):=by
 obtain⟨I,vs,oT,ts,a1,a2,Y,Z,a5,a6,a7,a8,a9⟩:=x;refine⟨⟨I,vs,a1,a2,Y,Z,a9.2⟩,⟨I,a1⟩,λh1 h2 q k=>?_⟩;obtain⟨o,vs,O,U⟩:=q;exact⟨o,vs,k o O,U⟩
def Un.land (u:Un fs [] H H' h h1)(m:Mvd fs xs h1 h2)(hx:∀b∈xs,h.get? b=none)(he:h.get? e=none)(hn:H' e=none):Un fs [] H (upd H' e o) h h2:=by
 have O:∀b I,h.get? b=some I->b ∉ xs:=λb I q z=>by rw[hx b z]at q;cases q
 have ne:∀b I,h.get? b=some I->b≠e:=λb I q z=>by rw[z,he]at q;cases q
 have U:∀b I,H' b=some I->b≠e:=λb I q z=>by rw[z,hn]at q;cases q
 refine⟨λb I q n hf _=>m.keep b I (O b I q) hf (u.keep b I q n hf (by simp)),λb I q n hf _=>?_,λb I q n _=>?_,λb I q _=>?_,λb ys q=>?_,λb I v q=>?_,λb ps q=>?_⟩
 ·obtain⟨sl,e1⟩:=u.slot b I q n hf (by simp);obtain⟨Y,Z⟩:=m.slot b _ (O b I q) e1;exact⟨Y,Z⟩
 ·rw[Ah (ne b I q)];exact u.free b I q n (by simp)
 ·obtain⟨o',e1⟩:=u.there b I q (by simp);obtain⟨sl,Z⟩:=m.slot b o' (O b I q) e1;exact⟨_,Z⟩
 ·have z:=u.tups b ys q;rw[Ah (U b _ z)];exact z
 ·have z:=u.frzs b I v q;rw[Ah (U b _ z)];exact z
 ·obtain⟨more,z⟩:=u.tbls b ps q;exact⟨more,by rw[Ah (U b _ z)];exact z⟩
def HOk.land (x:HOk P w H h1)(m:Mvd fs xs h1 h2)(hx:∀b∈xs,H b=none)(hf:∀b∈fs,H b=none)(hn:H e=none)(new:ObjOk P w (upd H e o) h2 e o):HOk P w (upd H e o) h2:=by
 intro b u q;by_cases hb:b=e
 ·subst hb;rw[Ac]at q;cases q;exact new
 ·rw[Ah hb]at q;have tr:∀c v,H c=some v->c ∉ xs/\c ∉ fs:=λc v q=>⟨(λz=>by rw[hx c z]at q;cases q),(λz=>by rw[hf c z]at q;cases q)⟩;have I:∀b O,H b=some O->b≠e:=λb O q z=>by rw[z,hn]at q;cases q
  refine(x b u q).stay (λc v U z=>?_) (λc z=>by rw[Ah (I c _ z)];exact z) λc ys z=>by rw[Ah (I c _ z)];exact z
  rcases U with r|r
  ·rw[r]at z ⊢;exact m.keep b v (tr b u q).1 (tr b u q).2 z
  ·exact m.keep c v (tr c _ r).1 (tr c _ r).2 z
noncomputable abbrev TX:=St->Hp->VK->XK->Prop
noncomputable abbrev Lm:=Ends->(St->XK)->St->Hp->Prop
def XP (X:Cx)(pins:List (Addr×Obj))(σ:St)(E:XK)(ev:Value)(s':Shared):Prop:=eX2 λH0 s0=>Inv X pins σ H0 s0/\Bz X.prog X.w X.stack H0 s0 E ev s'
structure QX (X:Cx)(e:Expr)(t:TX):Prop where
 run:∀(pins:List (Addr×Obj))(s:Shared)(σ:St)(H:Hp)(Q:VK)(E:XK),Inv X pins σ H s->t σ H Q E->wpAny (model X.prog X.w) X.A (eval e X.env) (EP X pins σ Q) (XP X pins σ E) s
structure QXS (X:Cx)(sts:List Stmt)(t:Lm):Prop where
 run:∀(pins:List (Addr×Obj))(s:Shared)(σ:St)(H:Hp)(D:Ends)(E:St->XK),Inv X pins σ H s->t D E σ H->wpAny (model X.prog X.w) X.A (execs sts X.env) (SP X pins D) (λev s'=>∃σ',XP X pins σ' (E σ') ev s') s
noncomputable abbrev Cx.to (X:Cx)(A:Around)(c:Bool)(XE:Value->Shared->Prop):Cx:={ X with A:=A,calm:=c,xe:=XE }
section
variable {X:Cx}{pins:List (Addr×Obj)}{σ:St}{H:Hp}{s:Shared}
def Inv.to (I:Inv X pins σ H s)(hA:A.frames=X.A.frames)(hc:c=true->A.handled=none):Inv (X.to A c XE) pins σ H s :=
 ⟨⟨I.ok.mod,I.ok.kind,I.ok.glob,I.ok.blt,I.ok.above,I.ok.inj,I.ok.has,I.ok.cab,hc,hA.trans I.ok.frames,I.ok.stk,I.ok.exf,I.ok.bs,I.ok.bsz,I.ok.noex,I.ok.exfs,I.ok.funs,I.ok.frf⟩,I.os,I.bare,I.base,I.loc,I.cell,I.free,I.freeC,I.pin,I.hok,I.len⟩
def Inv.back (I:Inv (X.to A c XE) pins σ H s)(ok:X.Ok):Inv X pins σ H s :=
 ⟨ok,I.os,I.bare,I.base,I.loc,I.cell,I.free,I.freeC,I.pin,I.hok,I.len⟩
end
section
variable {X:Cx}{k:Nat}{x:Str}{ps:List Str}{sp:Sp}{p pos np cpos:Pos}{e:Expr}{es:List Expr}{t:TA}
def Zfb (C:Ki X.prog X.w X.K X.mg X.base k x ps sp)(hr:Room k X.A)(ha:∀XE,QA (X.to X.A X.calm XE) (e::es) t)(hg:autoParam (Gl X x) zX)(hdb:autoParam ((x == ("__debug__":Str))=false) zW)
  (he:autoParam (starEach (e::es) X.env=(false,eval e X.env)::starEach es X.env) zX) (hpl:autoParam ((backTo pos (starEach es X.env)).any (·.1)=false) zX):QX X (.Call (.Name x p) (e::es) [] pos) (λσ H Q E=>t σ H λvs H1=>sp vs H1 Q E):=by
 obtain⟨f,fd,F,hm,hk,hb⟩:=C.ex;refine⟨λpins s σ H Q E I h=>?_⟩;refine Uk (Nb I hg hm ?_ hdb);refine Vj (h₀:=X.base) I.ok.mod.kin hk (Au ((ha (XP X pins σ E)).run pos pins s σ H _ (I.to rfl I.ok.hd) h) λZ s1 zq=>?_) he hpl;obtain⟨vs,H1,O,r,q⟩:=zq;refine⟨(O.back I.ok).kIn,?_⟩;have O:=O.back I.ok;have hl:Z.length=ps.length:=by rw[<- r.length];exact F.len _ _ _ _ q
 have Y:=hb s1 Z O.kIn (by simpa using hl);rw[Q2]at Y;refine wpAny_call (Tx (F.run X.A X.stack s1 H1 ⟨Z,[]⟩ Z vs Q E hr O.env0 Y r q) λr s' U=>?_);cases r with
 |error e=>exact⟨H1,s1,O,U⟩
 |ok fl =>
  cases fl with
  |ret u=>exact O.after U
  |next=>exact Qp U
  |brk=>exact Qp U
  |cont=>exact Qp U
def Zgf {i:Nat}{t:TX}{pos':Pos}(hN:X.N.Nodup)(hi:X.N[i]?=some x)(hx:D4 X.env.scope x)(he:QX X e t)(hs:autoParam (swapsWith e (some (.Name x pos')) pos.line X.env=pure false) zX)(hf:autoParam (X.fn x=true\/X.env.scope.names.lookup x=some .local) zQ) :
  QXS X [.Assign [.Name x pos'] e pos] (λD E σ H=>t σ H (λv H1=>D.nx (σ.set i (some v)) H1) (E σ)):=by
 refine⟨λpins s σ H D E I h=>?_⟩;refine W2 (Rt (wpAny_Assign_Name (Q:=SP X pins D) (Au (he.run pins s σ H _ (E σ) I h) λv O ⟨y,H1,Y,r1,U⟩=>Zck Y hN hi hx r1 (λs2 Z=>⟨_,H1,Z,U⟩) hf) hs) (λf O q=>?_) λev O q=>⟨σ,q⟩);cases f with
 |next=>exact Tl q
 |ret v=>exact q
 |brk=>exact q
 |cont=>exact q
end
structure Ov (K:Pi)(C:Addr):Prop where
 ty:PySem.W.typeIn K (.ref C)=some (.type "type")
 cl:(Tw K C).isSome=true
 bs:Sj K (.ref C) (.type "BaseException")=some true
def Zu1 {K:Pi}{M:Model}{h:Heap}{C:Addr}(X:K.In h)(e:(Tw K C).isSome=true):Uv M h (isType (.ref C)) true:=by
 unfold Tw at e;split at e
 ·rename_i c' Y U O I;intro A' Q' Z s' k q;unfold isType loadHead;exact Pj (wpAny_loadPart (k _ _ (X _ _ I)) (Pl q))
 ·cases e
def Zt3 {K:Pi}{M:Model}{A:Around}{E:Value->Shared->Prop}{s:Shared}{Q:Bool->Shared->Prop}{e C C':Addr}{oe:Obj}(X:K.In s.heap)(c:Ov K C)(he:s.heap.get? e=some oe)(hcls:oe.cls=.ref C')(hs:Sj K (.ref C') (.ref C)=some true)(h:Q true s) :
  wpAny M A (excMatches (.ref e) (.ref C)) Q E s:=by
 have O:Uv M s.heap (typeOf (.ref C)) (.type "type"):=PySem.W.looks_typeIn X c.ty;have L2:Uv M s.heap (isType (.ref C)) true:=Zu1 X c.cl;have Y:=PySem.W.looks_subIn (M:=M) X c.bs;have U:Uv M s.heap (typeOf (.ref e)) (.ref C'):=by
  intro A' Q' Z s' k q;unfold typeOf;exact Pj (wpAny_loadPart (k _ _ he) (Pl (by rw[hcls];exact q)))
 have I:=PySem.W.looks_subIn (M:=M) X hs;have f:=tc_notTuple;unfold excMatches;unfold isInstance isExcClass
 repeat (first|with_reducible refine O.here ?_|with_reducible refine L2.here ?_|with_reducible refine Y.here ?_|with_reducible refine U.here ?_|with_reducible refine I.here ?_|wp_step)
 exact h
section
variable {X:Cx}{pins:List (Addr×Obj)}{σ:St}{H:Hp}{s:Shared}
end
section
variable {X:Cx}{c n:Str}{np hpos pos:Pos}{body hbody:List Stmt}{b₀:Stmt}{tb:Lm}{th:TS}{i:Nat}{C:Addr}
end
section
open PySem.W PySem.Builtin PySem.Builtin.ObjectAttr
variable {prog:Program}{w:World}{A:Around}{E:Value->Shared->Prop}{s:Shared}{K:Frag}{x C:Addr}{ox:Obj}{od:Option Obj}{name:Str}{R:Result->Shared->Prop}
end
section
variable {X:Cx}{pins:List (Addr×Obj)}{σ:St}{H:Hp}{s:Shared}
end
section
variable {X:Cx}{pins:List (Addr×Obj)}{σ:St}{H:Hp}{s:Shared}{a C:Addr}{f:Str}{A:Around}{E:Value->Shared->Prop}
open PySem.W PySem.Builtin PySem.Builtin.ObjectAttr
end
section
variable {X:Cx}{o e value:Expr}{f:Str}{pos pos':Pos}{ta tv:TE}
end
section
open PySem.W
end
section
variable {prog:Program}{w:World}{A:Around}{E:Value->Shared->Prop}{h:Heap}{g:Array GenState}{d:Drawn}{t:Nat}{os:OsState}
variable {nm q:Str}{C N:Addr}{bs bm bmB:List Value}{hdct:Bool}{sn:List Str}{sub:List Value}{ab:Bool}{col:Option Bool}{dd:Option Addr}{k0 k1 k2 k3 k5:Option Value}{B Bn newId nid initId inN:String}{bmN:List Value}
end
section
variable {X:Cx}{k:Nat}{x:Str}{sp:Sp}{ps:List Str}{C f:Addr}{fd:FuncData}{np cpos pos:Pos}{a:Expr}{t:TA}{E:XK}
end
section
variable {P:Program}{w:World}{K:Pi}{mg:Str->Option Value}{base:Heap}
end
section
variable {X:Cx}{k:Nat}{x:Str}{ps:List Str}{sp:Sp}{p pos:Pos}{e:Expr}{es:List Expr}{t:TA}
end
section
open PySem.W PySem.Builtin PySem.Builtin.ObjectAttr
variable {prog:Program}{w:World}{A:Around}{E:Value->Shared->Prop}{s:Shared}{K:Frag}{x D:Addr}{ox:Obj}{od:Option Obj}
end
section
variable {X:Cx}{pins:List (Addr×Obj)}{σ:St}{H:Hp}{s:Shared}{a C':Addr}{od:Option Addr}
end
section
variable {X:Cx}
def rEqI (K:Pi):R2:=λx y H Q=>eX4 λ(a c:Addr)(xs ys:List Int)=>x=.ref a/\y=.ref c/\SqT K H a (xs.map V.int)/\SqT K H c (ys.map V.int)/\Q (.bl (decide (xs=ys))) H
def Zv5 (hu:X.A.units+200<cLine):OpR X (compareOp .Eq) (rEqI X.K):=by
 intro pins s σ H x y v u Q I rx ry h;obtain⟨a,c,xs,ys,rfl,rfl,hx,hy,q⟩:=h;cases rx;cases ry;obtain⟨U,r1,p1,_⟩:=I.tuple hx;obtain⟨O,r2,p2,_⟩:=I.tuple hy;obtain⟨us,e1,f1⟩:=Zcc r1;obtain⟨vs,Y,Z⟩:=Zcc r2;have l1:us.length=xs.length:=by rw[<- f1,Pq]
 have l2:vs.length=ys.length:=by rw[<- Z,Pq]
 refine SeqAt.eq_tupleAt (e:=λj=>xs.getD j 0 == ys.getD j 0) (show s.heap.IsTuple a U.toArray from p1) (show s.heap.IsTuple c O.toArray from p2) (by lia) (λj h1 h2=>?_) ?_
 ·subst e1 Y;simp only[Po,Pq]at h1 h2;have g1:xs.getD j 0=us[j].1:=by rw[<- f1,U6,Qm,Pk h1];rfl
  have g2:ys.getD j 0=vs[j].1:=by rw[<- Z,U6,Qm,Pk h2];rfl
  rw[g1,g2];simp only[List.getElem_toArray,List.getElem_map];exact P6.int_int _ _ _ _
 ·have e:((P7 (min U.toArray.size O.toArray.size)).all (λj=>xs.getD j 0 == ys.getD j 0) && U.toArray.size == O.toArray.size)=decide (xs=ys):=by
   have z1:U.toArray.size=xs.length:=by rw[Po,e1,Pq,l1]
   have z2:O.toArray.size=ys.length:=by rw[Po,Y,Pq,l2]
   rw[z1,z2,Znu]
  rw[e];exact⟨.bl _,H,I,rfl,q⟩
def rEqB (K:Pi):R2:=λx y H Q=>Lq K x y H Q\/rEqI K x y H Q
def Zku (K:Pi)(hu:X.A.units+200<cLine)(hK:autoParam (X.K=K) zX):OpR X (compareOp .Eq) (rEqB K):=by subst hK;exact(Zgc hu).or (Zv5 hu)
def Zfz {K:Pi}{a c:Addr}{xs ys:List Int}{H:Hp}{Q:VK}(hx:SqT K H a (xs.map V.int))(hy:SqT K H c (ys.map V.int))(h:Q (.bl (decide (xs=ys))) H):rEqB K (.ref a) (.ref c) H Q:=.inr ⟨a,c,xs,ys,rfl,rfl,hx,hy,h⟩
end
end L2
namespace L2
open PySem
inductive Fo:Dt->Prop where
 |flat (v:V):Fo (.flat v)
 |tup {ds:List Dt} (l:ds.length<=5000) (h:∀d∈ds,Fo d):Fo (.tup ds)
 |lst {ds:List Dt} (l:ds.length<=5000) (h:∀d∈ds,Fo d):Fo (.lst ds)
def SameA (A:Addr->Prop)(H H':Hp):Prop:=SameT H H'/\∀b xs,¬A b->H b=some (.lst xs)->H' b=some (.lst xs)
def Same.a (e:Same H H'):SameA A H H':=⟨e.t,λb xs _ h=>e b _ h⟩
def SameA.set (h:H S=some (.lst zs))(hA:A S):SameA A H (upd H S o):=⟨SameT.set h,λb xs n e=>by rw[Ah (λz=>n (by rw[z];exact hA))];exact e⟩
def SameA.mono (e:SameA A H H')(h:∀b,A b->B b):SameA B H H':=⟨e.1,λb xs n=>e.2 b xs λa=>n (h b a)⟩
def ThAt (K:Pi)(H:Hp)(v:V)(x:Str×V):Prop:=Db x.2=true/\∃a,v=.ref a/\SqT K H a [.str x.1,x.2]
def ThAt.same (e:SameT H H')(v:V)(x:Str×V)(h:ThAt K H v x):ThAt K H' v x:=by
 obtain⟨f,a,r,q⟩:=h;exact⟨f,a,r,e.tup q⟩
def PrAt (K:Pi)(H:Hp)(v:V)(x:Str×Str×V):Prop:=eX2 λ(a:Addr)(u:V)=>v=.ref a/\SqT K H a [.str x.1,u]/\ThAt K H u x.2
def PrAt.same (e:SameT H H')(v:V)(x:Str×Str×V)(h:PrAt K H v x):PrAt K H' v x:=by
 obtain⟨a,u,r,q,t⟩:=h;exact⟨a,u,r,e.tup q,t.same e⟩
structure Rx where
 wd:Str
 pl:List Int
 ops:List (Str×V)
 ar:List (Str×Str×V)
def RwAt (K:Pi)(A:Addr->Prop)(H:Hp)(v:V)(x:Rx):Prop:=eX6 λ(a p o e:Addr)(ov ev:List V)=>v=.ref a/\SqT K H a [.str x.wd,.ref p,.ref o,.ref e]/\SqT K H p (x.pl.map V.int)/\H o=some (.lst ov)/\Al (ThAt K H) ov x.ops/\H e=some (.lst ev)/\Al (PrAt K H) ev x.ar/\¬A o/\¬A e
def RwAt.same (s:SameA A H H')(v:V)(x:Rx)(h:RwAt K A H v x):RwAt K A H' v x:=by
 obtain⟨a,p,o,e,ov,ev,h1,h2,Z,h4,h5,U,Y,O,I⟩:=h;exact⟨a,p,o,e,ov,ev,h1,s.1.tup h2,s.1.tup Z,s.2 _ _ O h4,h5.mono (ThAt.same s.1),s.2 _ _ I U,Y.mono (PrAt.same s.1),O,I⟩
def RwAt.mono (s:∀b,B b->H b≠none->A b)(v:V)(x:Rx)(h:RwAt K A H v x):RwAt K B H v x:=by
 obtain⟨a,p,o,e,ov,ev,h1,h2,Z,O,h5,I,Y,h8,U⟩:=h;exact⟨a,p,o,e,ov,ev,h1,h2,Z,O,h5,I,Y,λb=>h8 (s o b (by rw[O];simp)),λb=>U (s e b (by rw[I];simp))⟩
noncomputable def M9 (x:Str×V):Dt:=.tup [.flat (.str x.1),.flat x.2]
noncomputable def prD (x:Str×Str×V):Dt:=.tup [.flat (.str x.1),M9 x.2]
noncomputable def rzD (x:Rx):Dt:=.tup [.flat (.str x.wd),.tup (x.pl.map λi=>.flat (.int i)),.lst (x.ops.map M9),.lst (x.ar.map prD)]
def ThAt.d (h:ThAt K H v x):IsD K H 1 v (M9 x):=by
 obtain⟨f,a,rfl,q⟩:=h;refine .tup q rfl λj v d h1 h2=>?_
 match j,h1,h2 with
 |0,h1,h2=>cases h1;cases h2;exact .flat rfl
 |1,h1,h2=>cases h1;cases h2;exact .flat f
def PrAt.d (h:PrAt K H v x):IsD K H 2 v (prD x):=by
 obtain⟨a,u,rfl,q,t⟩:=h;refine .tup q rfl λj v d h1 h2=>?_
 match j,h1,h2 with
 |0,h1,h2=>cases h1;cases h2;exact .flat rfl
 |1,h1,h2=>cases h1;cases h2;exact t.d
def Al.lstD {K:Pi}{H:Hp}{α:Type}{R:V->α->Prop}{g:α->Dt}{n:Nat}{a:Addr}{vs:List V}{xs:List α}(al:Al R vs xs)(e:SqL K H a vs)(h:∀v x,R v x->IsD K H n v (g x)):IsD K H (n+1) (.ref a) (.lst (xs.map g)):=by
 refine .lst e (by rw[Pq];exact al.1) λj v d h1 h2=>?_;rw[Qm]at h2;obtain⟨r,I,rfl⟩:=Q0.mp h2;exact h v r (al.2 j v r h1 I)
def Zww {K:Pi}{H:Hp}{n:Nat}{p:Addr}{pl:List Int}(q:SqT K H p (pl.map V.int)):IsD K H (n+1) (.ref p) (.tup (pl.map λi=>.flat (.int i))):=by
 refine .tup q (by simp) λj v d h1 h2=>?_;rw[Qm]at h1 h2;obtain⟨k,I,rfl⟩:=Q0.mp h1;rw[I]at h2;cases h2;exact .flat rfl
def RwAt.d (h:RwAt K A H v x):IsD K H 4 v (rzD x):=by
 obtain⟨a,p,o,e,ov,ev,rfl,h2,Y,h4,h5,U,I,_,_⟩:=h;refine .tup h2 rfl λj v d Z O=>?_
 match j,Z,O with
 |0,h1,h2=>cases h1;cases h2;exact .flat rfl
 |1,h1,h2=>cases h1;cases h2;exact Zww Y
 |2,h1,h2=>cases h1;cases h2;exact(h5.lstD (g:=M9) (SqL.of h4) λ_ _ t=>t.d).up (by lia)
 |3,h1,h2=>cases h1;cases h2;exact I.lstD (g:=prD) (SqL.of U) λ_ _ t=>t.d
def Zdk (x:Str×V):Fo (M9 x):=.tup (by show 2<=5000;lia) λd h=>by
 simp only[Ps,P0,or_false]at h;rcases h with rfl|rfl
 ·exact .flat _
 ·exact .flat _
def Zqq (x:Str×Str×V):Fo (prD x):=.tup (by show 2<=5000;lia) λd h=>by
 simp only[Ps,P0,or_false]at h;rcases h with rfl|rfl
 ·exact .flat _
 ·exact Zdk _
def Zbr {α:Type}{g:α->Dt}{xs:List α}(l:xs.length<=5000)(h:∀x∈xs,Fo (g x)):Fo (.lst (xs.map g)):=.lst (by rw[Pq];exact l) λd hd=>by
 obtain⟨x,I,rfl⟩:=Rr.mp hd;exact h x I
structure Rx.Ok (x:Rx):Prop where
 pl:x.pl.length<=5000
 ops:x.ops.length<=5000
 ar:x.ar.length<=5000
def Zwb (h:x.Ok):Fo (rzD x):=.tup (by show 4<=5000;lia) λd hd=>by
 simp only[Ps,P0,or_false]at hd;rcases hd with rfl|rfl|rfl|rfl
 ·exact .flat _
 ·refine .tup (by rw[Pq];exact h.pl) λd hd=>?_;obtain⟨x,I,rfl⟩:=Rr.mp hd;exact .flat _
 ·exact Zbr h.ops λx _=>Zdk x
 ·exact Zbr h.ar λx _=>Zqq x
section
variable {g:TG}{tt:TT}{te:TE}{σ0:St}{H1:Hp}{D:Addr}{Q:VK}
end
end L2
namespace L2
open PySem PySem.Spec PyProof.Rows
section
variable {X:Cx}
end
section
variable {prog:Program}{w:World}{A:Around}{E:Value->Shared->Prop}{s:Shared}
end
section
variable {X:Cx}
end
section
variable {g:TG}{tt:TT}{te:TE}{σ0:St}{H1:Hp}{D:Addr}{Q:VK}
end
def via {t:TS}{X:St->Hp->Prop}{rt:VK}{bk ct:St->Hp->Prop}{σ:St}{H:Hp}(R:Hp->Prop)(h2:∀H',R H'->X σ H')(h1:∀Y:St->Hp->Prop,(∀H',R H'->Y σ H')->t ⟨Y,rt,bk,ct⟩ σ H):t ⟨X,rt,bk,ct⟩ σ H:=h1 X h2
section
variable {X:Cx}
open PySem.Builtin PySem.Builtin.Str in
noncomputable def Znp (z:Str):Value->Bool
 |.str a _=>a == z
 |_=>false
theorem Ziq:∀{ws:List Str}{us:List Value}{j:Nat}{u:Value},Vals (ws.map V.str) us->us[j]?=some u->eX2 λa t=>u=.str a t/\ws[j]?=some a
 |[],_,j,u,.nil,h=>by simp at h
 |a::r,_,0,u,.cons I _,h=>by
  obtain⟨t,rfl⟩:=I;have h:u=.str a t:=by simpa using h.symm
  exact⟨a,t,h,rfl⟩
 |a::r,_,j+1,u,.cons _ U,h=>by
  obtain⟨b,t,Y,O⟩:=Ziq (j:=j) U (by simpa using h);exact⟨b,t,Y,by simpa using O⟩
def Zo9 (K:Pi):V->List V->Hp->VK->Prop:=λx vs H Q=>eX4 λ(l:Addr)(z:Str)(ws:List Str)(j:Nat)=>x=.ref l/\vs=[.str z]/\SqL K H l (ws.map V.str)/\ws[j]?=some z/\(∀m<j,ws[m]?≠some z)/\ws.length<=1000/\Q (.int (j:Nat)) H
def Zrh (K:Pi)(hK:autoParam (X.K=K) zX):Kh X "list.index" (Zo9 K):=by
 subst hK;intro pins s σ H x vs v us Q I rx rv h;obtain⟨l,z,ws,j,rfl,rfl,hl,hj,ad,hz,q⟩:=h;cases rx;obtain⟨u,rfl,ru⟩:=rv.one;obtain⟨t,rfl⟩:=ru;obtain⟨O,r,p,_⟩:=I.list hl;have aa:=r.length;rw[Pq]at aa;have ah:=(Pt.mp hj).1;obtain⟨⟨ag,dd,af,sl⟩,ho,hc,n,hd⟩:=id p.isList;simp only at hc hd;subst hc hd;have U:∀m (Y:m<O.toArray.size),eX2 λa t=>O.toArray[m]=.str a t/\ws[m]?=some a:=λm Y=>by
  have ae:m<O.length:=by simpa using Y
  have:=Ziq r (Pk ae);simpa using this
 refine Td PySem.F.slot_list_index ⟨_,ho,rfl⟩ PySem.F.entry_list_index (PySem.F.args_list_index_2 _ _) (SeqAt.list_indexAt l O.toArray n dd sl (.str z t) (Znp z) j (by rw[Po];lia) (by lia) ?_ ?_) ⟨ho,λy hy=>?_,?_⟩
 ·obtain⟨a,t',e1,Z⟩:=U j (by rw[Po];lia);rw[hj]at Z;cases Z;rw[e1];show(z == z)=true;simp
 ·intro m Y ac;obtain⟨a,t',e1,Z⟩:=U m Y;rw[e1];show(a == z)=false;have:a≠z:=λe=>ad m ac (by rw[Z,e]);simpa using this
 ·obtain⟨m,Y,rfl⟩:=Array.mem_iff_getElem.mp hy;obtain⟨a,t',e1,Z⟩:=U m Y;rw[e1];exact P6.str_str a t' z t
 ·exact⟨.int (j:Nat),H,I.tok _,⟨_,rfl⟩,q⟩
end
section
variable {prog:Program}{w:World}{A:Around}{E:Value->Shared->Prop}{s:Shared}
end
section
variable {X:Cx}
end
section
variable {X:Cx}{k:Nat}{x:Str}{ps:List Str}{sp:Sp}{p pos:Pos}
end
structure Dc (CX:C3)(P:Program)(w:World)(K:Pi)(mg:Str->Option Value)(base:Heap)(k:Nat)(C:Addr)(m:Str)(ps:List Str)(sp:Sp):Prop where
 ex:eX2 λ(g:Addr)(fd:FuncData)=>FnOk P w K mg base CX k g fd ps sp/\Cls K C/\Meth K C m g/\Binds K fd ps []
structure Pc (CX:C3)(P:Program)(w:World)(K:Pi)(mg:Str->Option Value)(base:Heap)(k:Nat)(x:Str)(C:Addr)(ps:List Str)(sp:Sp):Prop where
 ex:eX2 λ(f:Addr)(fd:FuncData)=>FnOk P w K mg base CX k f fd ps sp/\Mk K C f/\mg x=some (.ref C)/\Binds K fd ps []
def Ze3 (CX:C3)(P:Program)(w:World)(K:Pi)(mg:Str->Option Value)(base:Heap)(k:Nat)(m:Str)(ps:List Str)(E:XK)(ta:TE)(t:TA):TE:=λσ H Q=>ta σ H λx H1=>eX5 λa C dx fs sp=>x=.ref a/\H1 a=some (.ins C dx fs)/\fs.lookup m=none/\Dc CX P w K mg base k C m ps sp /\
 t σ H1 λvs H2=>sp (.ref a::vs) H2 Q E
def tNew (C:Addr)(sp:Sp)(E:XK)(t:TA):TE:=λσ H Q=>t σ H λvs H1=>∀x dx,H1 x=none->H1 dx=none->dx≠x->sp (.ref x::vs) (upd (upd H1 dx (.own x)) x (.ins C dx [])) (λv H2=>v=.non/\Q (.ref x) H2) E
section
variable {X:Cx}{k:Nat}{x m:Str}{ps:List Str}{sp:Sp}{E:XK}{C:Addr}{p pos apos:Pos}{e o:Expr}{es:List Expr}{ta:TE}{t:TA}{CX:C3}{P:Program}{w:World}{mg:Str->Option Value}{base:Heap}
def Dr (K:Pi)(CX:C3)(ps:List Str)(he:QE X o ta)(hr:Room k X.A)(hx:G3 CX X E)(ha:QA X (e::es) t)(hP:autoParam (X.prog=P) zX)(hw:autoParam (X.w=w) zX)(hK:autoParam (X.K=K) zX)(hmg:autoParam (X.mg=mg) zX)(hbs:autoParam (X.base=base) zX)(hst:autoParam (starEach (e::es) X.env=(false,eval e X.env)::starEach es X.env) zX)(hpl:autoParam ((backTo pos (starEach es X.env)).any (·.1)=false) zX)(ht:autoParam (eval (.Call (.Attribute o m apos) (e::es) [] pos) X.env=(do
   let ov <- eval o X.env
   standAt apos.atName
   let (f,first) <- holding [ov] (getMethod ov m pl)
   callWith pos f first (backTo pos (starEach (e::es) X.env)) (backToKw pos (keywordEach [] X.env)))) zX) :
  QE X (.Call (.Attribute o m apos) (e::es) [] pos) (Ze3 CX P w K mg base k m ps E ta t):=by
 subst hP hw hK hmg hbs;refine⟨λpins s σ H Q I h=>?_⟩;refine PySem.W.methodCall_KW (pl:=pl) (Au (he.run pins s σ H _ I h) λu s1 O=>?_) ht;obtain⟨x,H1,Y,rx,a,C,dx,fs,sp,ex,ea,l,M,q⟩:=O;obtain⟨g,fd,F,c,U,hb⟩:=M.ex;subst ex;obtain rfl:u=Value.ref a:=rx;refine Zhs Y ea c U l ?_;refine Vj (first:=[.ref a]) (h₀:=X.base) I.ok.mod.kin U.kp (Au (ha.run pos pins s1 σ H1 _ Y q) λZ s2 O=>?_) hst hpl;obtain⟨vs,H2,I2,r,q2⟩:=O;refine⟨I2.kIn,?_⟩;exact Zdz (us:=.ref a::Z) (vs:=.ref a::vs) (dvs:=[]) F hr hb .nil hx I2 (.cons rfl r) (by rw[Q2];exact q2)
def Zhl (M:Pc CX X.prog X.w X.K X.mg X.base k x C ps sp)(hr:Room (k+1) X.A)(hx:G3 CX X E)(ha:QA X (e::es) t)(hg:autoParam (Gl X x) zX)(hdb:autoParam ((x == ("__debug__":Str))=false) zW)
  (he:autoParam (starEach (e::es) X.env=(false,eval e X.env)::starEach es X.env) zX) (hpl:autoParam ((backTo pos (starEach es X.env)).any (·.1)=false) zX):QE X (.Call (.Name x p) (e::es) [] pos) (tNew C sp E t):=by
 obtain⟨f,fd,F,mk,U,hb⟩:=M.ex;refine⟨λpins s σ H Q I h=>?_⟩;refine Uk (Nb I hg U ?_ hdb);refine Vj (h₀:=X.base) I.ok.mod.kin mk.kp (Au (ha.run pos pins s σ H _ I h) λus s1 Y=>?_) he hpl;obtain⟨vs,H1,O,r,q⟩:=Y;refine⟨O.kIn,?_⟩;exact Zpa (dvs:=[]) mk F hr hb .nil hx O r (λx dx h1 h2 Z=>by rw[Q2];exact q x dx h1 h2 Z)
end
section
variable {X:Cx}{e o value:Expr}{f:Str}{pos pos':Pos}{ta tv:TE}{pins:List (Addr×Obj)}{σ:St}{H:Hp}{s:Shared}
def Ce (K:Pi)(he:QE X e ta)(hb:autoParam (attributeBase e f X.env (eval e X.env)=eval e X.env) zX)(hK:autoParam (X.K=K) zX):QE X (.Attribute e f pos) (Zdx K ta f):=by subst hK;exact Zn9 he hb
def Ls (K:Pi)(ha:QE X o ta)(hv:QE X value tv)(hs:autoParam (swapsWith value (some (.Attribute o f pos')) pos.line X.env=pure false) zX)(hK:autoParam (X.K=K) zX):QS X (.Assign [.Attribute o f pos'] value pos) (O1 K ta tv f):=by subst hK;exact Zq7 ha hv hs
end
section
variable {X:Cx}{pins:List (Addr×Obj)}{σ:St}{H:Hp}{s:Shared}
end
section
variable {P:Program}{w:World}{K:Pi}{mg:Str->Option Value}{base:Heap}
end
section
variable {X:Cx}{k:Nat}{x:Str}{ps ks:List Str}{gV:List V->List V->List V}{sp:Sp}{E:XK}{C:Addr}{p pos kpos:Pos}{e:Expr}{es:List Expr}{kws:List Keyword}{te:TE}{t tk:TA}{CX:C3}{nm:Option Str}{f:Addr}{fd:FuncData}{g:List Value->List Value->List Value}
end
section
variable {X:Cx}{pins:List (Addr×Obj)}{σ:St}{H:Hp}{s:Shared}
end
section
variable {κ:Type}[DecidableEq κ]
noncomputable def Ck (kvs:List (κ×V))(k:κ):Option V:=(kvs.find? λI=>decide (I.1=k)).map (·.2)
noncomputable def Dn (kvs:List (κ×V))(k:κ)(v:V):List (κ×V) :=
 if (kvs.any λI=>decide (I.1=k))=true then kvs.map (λI=>if I.1=k then (I.1,v) else I) else kvs++[(k,v)]
def Fu {p:κ×V}{r:List (κ×V)}{k:κ}(e:p.1=k):Ck (p::r) k=some p.2:=by simp[Ck,Rf,e]
def F7 {p:κ×V}{r:List (κ×V)}{k:κ}(e:¬p.1=k):Ck (p::r) k=Ck r k:=by simp[Ck,Rf,e]
theorem O6 (k:κ):∀kvs:List (κ×V),(kvs.any λkv=>decide (kv.1=k))=(Ck kvs k).isSome
 |[]=>rfl
 |p::r=>by
  rw[Uw];by_cases e:p.1=k
  ·simp only[Fu e,dH e,Bool.true_or,Option.isSome_some]
  ·rw[F7 e,dI e,Bool.false_or];exact O6 k r
theorem Zh1 (k j:κ)(y:V):∀kvs:List (κ×V),Ck (kvs.map λkv=>if kv.1=k then (kv.1,y) else kv) j=(Ck kvs j).map λx=>if j=k then y else x
 |[]=>rfl
 |p::r=>by
  have I:=Zh1 k j y r;rw[Qr];by_cases h:p.1=k
  ·rw[if_pos h];by_cases e:p.1=j
   ·rw[Fu (p:=(p.1,y)) e,Fu e,Ut,if_pos (e.symm.trans h)]
   ·rw[F7 (p:=(p.1,y)) e,F7 e,I]
  ·rw[if_neg h];by_cases e:p.1=j
   ·rw[Fu (p:=p) e,Fu e,Ut,if_neg (λz=>h (e.trans z))]
   ·rw[F7 (p:=p) e,F7 e,I]
theorem Zgt (k j:κ)(y:V):∀kvs:List (κ×V),Ck kvs k=none->Ck (kvs++[(k,y)]) j=if j=k then some y else Ck kvs j
 |[],_=>by
  by_cases e:k=j
  ·rw[if_pos e.symm];exact Fu (p:=(k,y)) e
  ·rw[if_neg (λz=>e z.symm)];exact F7 (p:=(k,y)) e
 |p::r,hn=>by
  rw[Sx];have I:¬p.1=k:=λz=>by rw[Fu z]at hn;cases hn
  rw[F7 I]at hn;have O:=Zgt k j y r hn;by_cases e:p.1=j
  ·rw[Fu e,Fu e,if_neg (λz=>I (e.trans z))]
  ·rw[F7 e,F7 e,O]
def Zlf (kvs:List (κ×V))(k j:κ)(y:V):Ck (Dn kvs k y) j=if j=k then some y else Ck kvs j:=by
 unfold Dn;by_cases a:(kvs.any λI=>decide (I.1=k))=true
 ·rw[if_pos a,Zh1];rw[O6]at a;by_cases e:j=k
  ·obtain⟨x,O⟩:=Sq.mp a;rw[if_pos e,e,O,Ut,if_pos rfl]
  ·rw[if_neg e];cases Ck kvs j with
   |none=>rfl
   |some x=>rw[Ut,if_neg e]
 ·rw[if_neg a];refine Zgt k j y kvs ?_;rw[O6]at a;cases q:Ck kvs k with
  |none=>rfl
  |some x=>rw[q]at a;exact(a rfl).elim
def Zb9 (kvs:List (κ×V))(k:κ)(v:V):(Dn kvs k v).length<=kvs.length+1:=by
 unfold Dn;split
 ·rw[Pq];lia
 ·rw[Pn,Qc,Tq];lia
def RelO.isSome_eq (r:RelO o u):o.isSome=u.isSome:=by
 cases o with
 |none=>cases u with
  |none=>rfl
  |some _=>exact(show False from r).elim
 |some _=>cases u with
  |none=>exact(show False from r).elim
  |some _=>rfl
def KV.val (r:KV kvs vs)(k:κ):RelO (Ck kvs k) (valueAt vs k):=by
 unfold KV at r
 induction r with
 |nil=>exact True.intro
 | @cons p q ps O h t U =>
  obtain⟨h1,h2⟩:=h;by_cases e:p.1=k
  ·have I:q.1=k:=h1.symm.trans e;have b:valueAt (q::O) k=some q.2:=by simp[valueAt,Rf,I]
   rw[Fu e,b];exact h2
  ·have I:¬q.1=k:=λz=>e (h1.trans z);have b:valueAt (q::O) k=valueAt O k:=by simp[valueAt,Rf,I]
   rw[F7 e,b];exact U
def KV.any (r:KV kvs vs)(k:κ):(kvs.any λkv=>decide (kv.1=k))=vs.any λkv=>decide (kv.1=k):=by
 unfold KV at r
 induction r with
 |nil=>rfl
 |cons h t I=>rw[Uw,Uw,I,h.1]
def KV.repl (r:KV kvs vs)(k:κ)(ry:RelV y u) :
  KV (kvs.map λkv=>if kv.1=k then (kv.1,y) else kv) (vs.map λkv=>if kv.1=k then (kv.1,u) else kv):=by
 unfold KV at r ⊢
 induction r with
 |nil=>exact .nil
 | @cons p q ps O h t I =>
  rw[Qr,Qr];refine .cons ?_ I;obtain⟨h1,h2⟩:=h;by_cases e:p.1=k
  ·rw[if_pos e,if_pos (h1.symm.trans e)];exact⟨h1,ry⟩
  ·rw[if_neg e,if_neg (λz=>e (h1.trans z))];exact⟨h1,h2⟩
def KV.put (r:KV kvs vs)(k:κ)(ry:RelV y u):KV (Dn kvs k y) (stored vs k u):=by
 unfold Dn stored;rw[r.any k];by_cases e:(vs.any λI=>decide (I.1=k))=true
 ·rw[if_pos e,if_pos e];exact r.repl k ry
 ·rw[if_neg e,if_neg e];exact Paired.snoc r ⟨rfl,ry⟩
def KV.length (r:KV kvs vs):kvs.length=vs.length:=V3 r
end
def Zax (r:RelV (kV k) u):(Eo P w).is k u=true:=by
 cases k with
 |inl i=>obtain⟨t,e⟩:=(show ∃t,u=Value.int i t from r);subst e;exact Zm5 P w i t
 |inr x=>obtain⟨t,e⟩:=(show ∃t,u=Value.str x t from r);subst e;exact Zp9 P w x t
theorem Zgz:∀{ks:List Ax}{us:List Value},Vals (ks.map kV) us->ItemsAre (Eo P w) ks us
 |[],_,r=>by rw[Uy]at r;cases r;exact .nil
 |k::ks,_,r=>by
  rw[Qr]at r;cases r with
  |cons h t=>exact .cons (Zax h) (Zgz t)
noncomputable abbrev KT (H:Hp):List (List Ax×V)->List (List Ax×Addr×Value)->Prop:=Paired λp q=>p.1=q.1/\H q.2.1=some (.tup (p.1.map kV))/\RelV p.2 q.2.2
def KT.val (r:KT H kvs xs)(k:List Ax):RelO (Ck kvs k) ((atKey xs k).map (·.2)):=by
 induction r with
 |nil=>exact True.intro
 | @cons p q ps O h t U =>
  obtain⟨h1,_,h2⟩:=h;by_cases e:p.1=k
  ·have I:q.1=k:=h1.symm.trans e;have b:atKey (q::O) k=some q.2:=by simp[atKey,Rf,I]
   rw[Fu e,b];exact h2
  ·have I:¬q.1=k:=λz=>e (h1.trans z);have b:atKey (q::O) k=atKey O k:=by simp[atKey,Rf,I]
   rw[F7 e,b];exact U
def KT.repl (r:KT H kvs xs)(k:List Ax)(ry:RelV y u) :
  KT H (kvs.map λkv=>if kv.1=k then (kv.1,y) else kv) (xs.map (putAt k u)):=by
 induction r with
 |nil=>exact .nil
 | @cons p q ps U h t I =>
  rw[Qr,Qr];refine .cons ?_ I;obtain⟨h1,h2,O⟩:=h;unfold putAt;by_cases e:p.1=k
  ·rw[if_pos e,if_pos (h1.symm.trans e)];exact⟨h1,h2,ry⟩
  ·rw[if_neg e,if_neg (λz=>e (h1.trans z))];exact⟨h1,h2,O⟩
def KT.put (r:KT H kvs xs)(k:List Ax)(hb:H b=some (.tup (k.map kV)))(ry:RelV y u) :
  KT H (Dn kvs k y) (storedH xs k b u):=by
 have e:(kvs.any λI=>decide (I.1=k))=(atKey xs k).isSome:=by
  rw[O6,(r.val k).isSome_eq,Option.isSome_map]
 unfold Dn storedH;rw[e];by_cases q:(atKey xs k).isSome=true
 ·rw[if_pos q,if_pos q];exact r.repl k ry
 ·rw[if_neg q,if_neg q];exact Paired.snoc r ⟨rfl,hb,ry⟩
def KT.keeps (r:KT H kvs xs)(ht:∀b ys,H b=some (.tup ys)->H' b=some (.tup ys)):KT H' kvs xs :=
 Paired.mapP r λ_ _ z=>⟨z.1,ht _ _ z.2.1,z.2.2⟩
section
variable {P:Program}{w:World}{H:Hp}{h:Heap}{a:Addr}
def Zh6 (ok:HOk P w H h)(e:Rd H a u):ObjOk P w H h a u:=e.ok ok
def Zaz (ok:HOk P w H h)(e:Rd H a (.dK kvs)):kvs.length<=sizeLine/\(a == sysModules)=false/\∃vs,KV kvs vs/\h.DictOf (Eo P w) a vs :=
 show ObjOk P w H h a (.dK kvs) from Zh6 ok e
def Zrv (ok:HOk P w H h)(e:H a=some (.dK kvs)):kvs.length<=sizeLine/\(a == sysModules)=false/\∃vs,KV kvs vs/\h.DictOf (Eo P w) a vs:=Zaz ok (.inl e)
def Zay (ok:HOk P w H h)(e:H a=some (.tup (ks.map kV))):(tupleKind (Eo P w)).is h ks a:=by
 obtain⟨_,I,r,o,h1,h2,n,O⟩:=(show ObjOk P w H h a (.tup (ks.map kV)) from ok a _ e);exact⟨o,I.toArray,n,h1,h2,O,by simpa using Zgz r⟩
def Zaj (ok:HOk P w H h)(e:Rd H a (.dT kvs)):kvs.length<=sizeLine/\(a == sysModules)=false /\
  ∃xs,KT H kvs xs/\h.DictOfH (tupleKind (Eo P w)) a xs:=by
 obtain⟨z,y,xs,r,o,es,Z,h1,h2,Y,h4,h5⟩:=(show ObjOk P w H h a (.dT kvs) from Zh6 ok e);refine⟨z,y,xs,r,o,es,Z,h1,h2,Y,h4,λx I=>?_,h5⟩;have all:∀{l:List (List Ax×V)}{m:List (List Ax×Addr×Value)},KT H l m->∀x∈m,(tupleKind (Eo P w)).is h x.1 x.2.1:=by
  intro l m q
  induction q with
  |nil=>intro x I;exact nomatch I
  | @cons p q ps qs O t U =>
   intro x I;rcases Ps.mp I with e|I
   ·subst e;exact Zay ok (by rw[<- O.1];exact O.2.1)
   ·exact U x I
 exact all r x I
def Zp0 (ok:HOk P w H h)(e:H a=some (.dT kvs)):kvs.length<=sizeLine/\(a == sysModules)=false /\
  ∃xs,KT H kvs xs/\h.DictOfH (tupleKind (Eo P w)) a xs:=Zaj ok (.inl e)
end
def DGet (H:Hp)(a:Addr)(y:V)(r:Option V):Prop :=
 (eX2 λkvs k=>Rd H a (.dK kvs)/\y=kV k/\r=Ck kvs k)\/eX3 λkvs k b=>Rd H a (.dT kvs)/\y=.ref b/\H b=some (.tup (k.map kV))/\r=Ck kvs k
def DPut (H:Hp)(a:Addr)(y v:V)(H':Hp):Prop :=
 (eX2 λkvs k=>H a=some (.dK kvs)/\y=kV k/\kvs.length<sizeLine/\H'=upd H a (.dK (Dn kvs k v))) \/
 eX3 λkvs k b=>H a=some (.dT kvs)/\y=.ref b/\H b=some (.tup (k.map kV))/\kvs.length<sizeLine/\H'=upd H a (.dT (Dn kvs k v))
def DGet.k {H:Hp}{a:Addr}{kvs:List (Ax×V)}{k:Ax}(e:H a=some (.dK kvs)):DGet H a (kV k) (Ck kvs k):=.inl ⟨kvs,k,.inl e,rfl,rfl⟩
def DGet.t {H:Hp}{a b:Addr}{kvs:List (List Ax×V)}{k:List Ax}(e:H a=some (.dT kvs))(eb:H b=some (.tup (k.map kV))):DGet H a (.ref b) (Ck kvs k):=.inr ⟨kvs,k,b,.inl e,rfl,eb,rfl⟩
def DPut.k {H:Hp}{a:Addr}{kvs:List (Ax×V)}{k:Ax}{v:V}(e:H a=some (.dK kvs))(hl:kvs.length<sizeLine):DPut H a (kV k) v (upd H a (.dK (Dn kvs k v))):=.inl ⟨kvs,k,e,rfl,hl,rfl⟩
def DPut.t {H:Hp}{a b:Addr}{kvs:List (List Ax×V)}{k:List Ax}{v:V}(e:H a=some (.dT kvs))(eb:H b=some (.tup (k.map kV)))(hl:kvs.length<sizeLine) :
  DPut H a (.ref b) v (upd H a (.dT (Dn kvs k v))):=.inr ⟨kvs,k,b,e,rfl,eb,hl,rfl⟩
section
variable {X:Cx}{pins:List (Addr×Obj)}{σ:St}{H:Hp}{s:Shared}{a:Addr}{y v:V}{u r:Value}{o:Option V}{A:Around}{E:Value->Shared->Prop}
def Inv.big (I:Inv X pins σ H s):sysModules<s.heap.objs.size:=by
 have h:mainGlobals<s.heap.objs.size:=(I.mod.glob.keeps I.bk).lt;exact Nat.lt_trans (by decide) h
def Zox (hu:A.units+1<cLine)(I:Inv X pins σ H s)(g:DGet H a y (some v))(ry:RelV y u)(h:∀w' s',Inv X pins σ H s'->RelV v w'->Q w' s') :
  wpAny (model X.prog X.w) A (getItem (.ref a) u) Q E s:=by
 rcases g with⟨kvs,k,e,Y,l⟩|⟨kvs,k,b,e,Y,eb,l⟩
 ·subst Y;obtain⟨z,hd,vs,U,dd⟩:=Zaz I.hok e;obtain⟨w',hw,O⟩:=RelO.some_of (v:=v) (o:=valueAt vs k) (by rw[l];exact U.val k);exact wpAny_getItem_of (Zax ry) dd.mapOf hw (h w' _ (I.tok _) O)
 ·subst Y;cases (show u=Value.ref b from ry);obtain⟨z,hd,xs,U,dd⟩:=Zaj I.hok e;obtain⟨w',hw,O⟩:=RelO.some_of (v:=v) (o:=(atKey xs k).map (·.2)) (by rw[l];exact U.val k);obtain⟨p,hp,Z⟩:=Q0.mp hw;refine wpAny_getItem_heap (tupleKind_room_in1 hu) (Zay I.hok eb) dd hp ?_;rw[Z];exact h w' _ (I.tok _) O
def d_in (hu:A.units+1<cLine)(I:Inv X pins σ H s)(g:DGet H a y o)(ry:RelV y u)(h:∀s',Inv X pins σ H s'->Q (.bool o.isSome) s') :
  wpAny (model X.prog X.w) A (compareOp .In u (.ref a)) Q E s:=by
 rcases g with⟨kvs,k,e,U,l⟩|⟨kvs,k,b,e,U,Y,l⟩
 ·subst U;obtain⟨z,hd,vs,O,dd⟩:=Zaz I.hok e;refine wpAny_in_of (Zax ry) hd dd.mapOf ?_;rw[<- (O.val k).isSome_eq,<- l];exact h _ (I.tok _)
 ·subst U;cases (show u=Value.ref b from ry);obtain⟨z,hd,xs,O,dd⟩:=Zaj I.hok e;refine wpAny_in_heap (tupleKind_room_in1 hu) (Zay I.hok Y) hd dd ?_;have q:=(O.val k).isSome_eq;rw[Option.isSome_map]at q;rw[<- q,<- l];exact h _ (I.tok _)
def Zf8 (I:Inv X pins σ H s)(mu:Mut (H a))(hs:P5 a s.heap h')(he:∃q,h'.get? a=some q)(new:ObjOk X.prog X.w (upd H a ob) h' a ob) :
  Inv X pins σ (upd H a ob) { s with heap:=h',toks:=t' } :=
 I.write (x:=a) (e:=a) mu (.inl rfl) (λb q hb z=>(hs.2 b hb).trans z) he new
def Ztr (z:kvs.length<=sizeLine)(hd:(a == sysModules)=false)(rel:KV kvs vs)(dd:h'.DictOf (Eo P w) a vs) :
  ObjOk P w H' h' a (.dK kvs):=⟨z,hd,vs,rel,dd⟩
end
section
variable {X:Cx}{pins:List (Addr×Obj)}{σ:St}{H:Hp}{s:Shared}{a:Addr}{kvs:List (Ax×V)}{k:Ax}{u:Value}{A:Around}{E:Value->Shared->Prop}
end
def Zds (i:Expr):Prop:=∀ov iv,subscripted i false ov iv=operate [ov,iv] (getItem ov iv)
def Ztp {prog:Program}{w:World}{A:Around}{E:Value->Shared->Prop}{s:Shared}{env:Env}{value slice:Expr}{pos:Pos}{T id:String}{Q:Value->Shared->Prop}
  (hl:typeLookup (.type T) "__getitem__"=pure (some (.builtin id))) (hs:Zds slice)
  (h:wpAny (model prog w) A (eval value env) (λo s₁=>wpAny (model prog w) A (eval slice env) (λi s₂=>s₂.TypeIs o T/\wpAny (model prog w) A (getItem o i) Q E s₂) E s₁) E s) :
  wpAny (model prog w) A (eval (.Subscript value slice pos) env) Q E s:=by
 refine Subscript_ (Rt h (λo s₁ Z=>Rt Z (λi s₂ I=>?_) λ_ _ x=>x) λ_ _ x=>x);obtain⟨hT,I⟩:=I;unfold subscriptTail;refine Pj ?_;rw[getitemInPython_of_ne hT.not_modules];refine Pj (W9 hT hl ?_);have U:wpAny (model prog w) A (subscripted slice false o i) (λr O=>wpAny (model prog w) A (letTemporaryGo value o r >>= λ_=>pure r) Q E O) E s₂:=by
  rw[hs o i];exact wpAny_operating (Rt I (λr O Y=>Pj (wpAny_letTemporaryGo (Pl Y))) λ_ _ x=>x)
 first
  |exact Pl (Pj U)
  |exact Pj (Pl (Pj U))
  |exact Pj U
def Zrn (I:Inv X pins σ H s)(g:DGet H a y o):s.TypeIs (.ref a) "dict":=by
 rcases g with⟨kvs,k,e,_,_⟩|⟨kvs,k,b,e,_,_,_⟩
 ·obtain⟨_,_,vs,_,dd⟩:=Zaz I.hok e;exact dd.typeIs
 ·obtain⟨_,_,xs,_,dd⟩:=Zaj I.hok e;exact dd.typeIs
def Zhv (td ty:TE):TE:=λσ H Q=>td σ H λx H1=>ty σ H1 λy H2=>eX2 λa v=>x=.ref a/\DGet H2 a y (some v)/\Q v H2
def tDIn (ty td:TE):TE:=λσ H Q=>ty σ H λy H1=>td σ H1 λx H2=>eX2 λa o=>x=.ref a/\DGet H2 a y o/\Q (.bl o.isSome) H2
section
variable {X:Cx}{o i e value:Expr}{pos pos' tpos:Pos}{td ty tv:TE}
end
def Zlw (h:Heap)(hb:sysModules<h.objs.size):ObjOk P w H (h.push { cls:=.type "dict",data:=.dict #[] }) h.objs.size (.dK []) :=
 ⟨Qo _,beq_eq_false_iff_ne.mpr (Px (P3 hb)),[],.nil,Heap.DictOf.new h⟩
def Zvb (h:Heap)(hb:sysModules<h.objs.size):ObjOk P w H (h.push { cls:=.type "dict",data:=.dict #[] }) h.objs.size (.dT []) :=
 ⟨Qo _,beq_eq_false_iff_ne.mpr (Px (P3 hb)),[],.nil,_,#[],0,P4 _ rfl,⟨rfl,rfl,rfl⟩,rfl,rfl,List.nodup_nil⟩
section
variable {X:Cx}{pos:Pos}
end
section
variable {X:Cx}{pins:List (Addr×Obj)}{σ:St}{H:Hp}{s:Shared}{a:Addr}{y d:V}{u r:Value}{o:Option V}{A:Around}{E:Value->Shared->Prop}
end
section
variable {X:Cx}{o e f:Expr}{apos cpos:Pos}{td ty tx:TE}
end
section
variable {X:Cx}{pins:List (Addr×Obj)}{σ:St}{H:Hp}{s:Shared}{a:Addr}{kvs:List (Ax×V)}{A:Around}{E:Value->Shared->Prop}
end
section
variable {X:Cx}{pins:List (Addr×Obj)}{σ:St}{H:Hp}{s:Shared}{a:Addr}{y:V}{u:Value}{A:Around}{E:Value->Shared->Prop}
end
end L2
namespace PySem
theorem Zwf:typeLookup (.type "list") "keys"=pure none:=by rw[Us,Ud];kernel_rfl
theorem Zte (hx:s.heap.get? a=some o)(hc:o.cls=.type "list")(hdat:o.data=.seq xs k)(hd:o.dict=none)(hmiss:typeLookup (.type "list") name=pure none)(hname:(["__module__","__name__","__qualname__","__doc__","__annotations__"]:List Str).contains name=false)(hA:A.handled=none)(h:∀h' tk,(∀b ob,s.heap.get? b=some ob->h'.get? b=some ob)->Q none { s with heap:=h',toks:=tk })(hsz:name.length+100<=sizeLine:=by size_fits) :
  wpAny (model prog w) A (getAttr? (.ref a) name) Q E s:=by
 obtain⟨c,Y,Z,sl⟩:=o;simp only at hc hdat hd;subst hc hdat hd;obtain⟨hp,g,d,tk,os⟩:=s;have U:∀O,(⟨hp,g,d,O,os⟩:Shared).TypeIs (.ref a) "list":=λ_=>⟨_,hx,rfl⟩;have f1:=sub_AttributeError;have f3:=Wj.lookup;have f4:=Wj.bind (.ref a);have f5:=am_list_getattr_none;unfold getAttr? getAttrBy? getAttrBy
 repeat (any_goals (first|assumption|exact U _|((with_reducible show wpAny _ _ (call (Value.builtin "list.__getattribute__") _ _) _ _ _);refine Td Wj (U _) am_entry_list_getattribute (F.args_list_getattribute_2 _ _) (meets_getattribute_miss_list a xs k sl name _ hmiss hname hsz) ⟨hx,hA,λh' O e I=>?_⟩)|wp_step))
 obtain⟨t',u',he⟩:=I.there;unfold getattributeRaised
 repeat (any_goals (first|assumption|wp_step))
 exact h _ _ I.keeps
namespace F
theorem entry_dict_update_loop:entryFor table "dict.update.loop"=some Builtin.«dict.update.loop»:=entryFor_of_tree (by kernel_rfl)
theorem plain_dict_update_loop:plainId "dict.update.loop"=true:=by right
end F
end PySem
namespace L2
open PySem PySem.Spec PyProof.Rows
section
variable {X:Cx}{pins:List (Addr×Obj)}{σ:St}{H:Hp}{s:Shared}{a:Addr}{y v:V}{u r:Value}{A:Around}{E:Value->Shared->Prop}
def Zqx (hu:A.units<cLine)(I:Inv X pins σ H s)(g:DPut H a y v H')(ry:RelV y u)(rv:RelV v r)(h:∀s',Inv X pins σ H' s'->P5 a s.heap s'.heap->Q () s') :
  wpAny (model X.prog X.w) A (dictSet a u r) Q E s:=by
 rcases g with⟨kvs,k,e,ey,l,eH⟩|⟨kvs,k,b,e,ey,eb,l,eH⟩
 ·subst ey eH;obtain⟨z,hd,vs,O,dd⟩:=Zrv I.hok e;have hz:vs.length<=sizeLine:=by rw[<- O.length];exact z
  have hl:(Dn kvs k v).length<=sizeLine:=by have:=Zb9 kvs k v;lia
  refine wpAny_dictSet_pairs (hsz:=hz) (Zax ry) dd λh' U Y=>h _ ?_ Y;have he:∃q,h'.get? a=some q:=let ⟨q,_,_,Z,_⟩:=U;⟨q,Z⟩;exact Zf8 I (by rw[e];exact True.intro) Y he (Ztr hl hd (O.put k rv) U)
 ·subst ey eH;cases (show u=Value.ref b from ry);obtain⟨z,hd,xs,O,dd⟩:=Zp0 I.hok e;have hz:xs.length<=sizeLine:=by rw[<- V3 O];exact z
  have hl:(Dn kvs k v).length<=sizeLine:=by have:=Zb9 kvs k v;lia
  refine wpAny_dictSet_heap (hsz:=hz) hu (Zay I.hok eb) dd λh' U Y=>h _ ?_ Y;obtain⟨q,es,ep,Z,h2,h3,h4,_,h5⟩:=U;refine Zf8 I (by rw[e];exact True.intro) Y ⟨q,Z⟩ ⟨hl,hd,_,(O.put k eb rv).keeps λc ys ec=>?_,q,es,ep,Z,h2,h3,h4,h5⟩;rw[Ah (El ec e (λz=>nomatch z))];exact ec
def Zmk {R:Result->Shared->Prop}{p it d:Addr}{xs:List V}{Hs:Nat->Hp}{res:Value}(hh:A.handled=none)(hu:A.units+1<cLine)(hdi:d≠it)(hd:∀i,i<=xs.length->SqL X.K (Hs i) p xs)(hf:∀i,FpOk X pins (Hs i) it)
  (hs:∀i x,xs[i]?=some x->eX3 λ(c:Addr)(y v:V)=>x=.ref c/\SqT X.K (Hs i) c [y,v]/\DPut (Hs i) d y v (Hs (i+1)))
  (fin:∀s',Inv X pins σ (Hs xs.length) s'->R (.ok (.ret res)) s') :
  ∀(k i:Nat)(s:Shared),xs.length-i=k->i<=xs.length->Inv X pins σ (Hs i) s->s.heap.IsListIter it p i ->
  codeAny (model X.prog X.w) A (.builtin "dict.update.loop" ⟨[.ref d,.ref it,rawInt i,res],[]⟩) R s:=by
 intro k
 induction k with
 |zero =>
  intro i s hk hi I st;have ae:i=xs.length:=by lia
  subst ae;obtain⟨af,rv,pl,hz⟩:=I.list (hd _ hi);obtain⟨f0,f1,f2,f3,f4,f5⟩:=hf xs.length;have hl:=rv.length;refine Tp PySem.F.entry_dict_update_loop ?_;rw[Ti PySem.F.plain_dict_update_loop _];show wpAny _ A.in1 (pyNext (.ref it) >>= _) _ _ s;refine Pj (wpAny_pyNext_list_end hh st pl.isList (by simp;lia) λh' eb=>?_);have I':=I.turned (t':=s.toks) (λb o hb e=>eb b o hb e) f0 f1 f3 f4 f5;exact Pj (Pl (Pl (fin _ I')))
 |succ k ih =>
  intro i s hk hi I st;have O:i<xs.length:=by lia
  obtain⟨af,rv,pl,hz⟩:=I.list (hd _ hi);obtain⟨c,y,v,ex,hc,U⟩:=hs i _ (Pk O);obtain⟨u,ad,ru⟩:=rv.get (Pk O);rw[ex]at ru;cases ru;obtain⟨f0,f1,f2,f3,f4,f5⟩:=hf i;refine Tp PySem.F.entry_dict_update_loop ?_;rw[Ti PySem.F.plain_dict_update_loop _];show wpAny _ A.in1 (pyNext (.ref it) >>= _) _ _ s;refine Pj (wpAny_pyNext_list_item st pl.isList (x:=.ref c) (by simpa using ad) λh' ag sb=>?_);have I1:Inv X pins σ (Hs i) { s with heap:=h' }:=I.turned (t':=s.toks) (λb o hb e=>(sb.2 b hb).trans e) f0 f1 f3 f4 f5;obtain⟨Y,ac,pt,ai⟩:=I1.tuple hc;obtain⟨u1,Z,rfl,r1,r2⟩:eX2 λu1 Z=>Y=[u1,Z]/\RelV y u1/\RelV v Z:=by
   cases ac with
   |cons r1 t=>cases t with
    |cons r2 t=>cases t;exact⟨_,_,rfl,r1,r2⟩
  obtain⟨ot,et,ct,nt,dt⟩:=pt;obtain⟨oc,od,aj,ah⟩:=ot;cases ct;cases dt;refine Pj (Q8 ?_);refine Pj (wpAny_tryCatch ?_);have hT:(⟨h',s.gens,s.drawn,s.toks,s.os⟩:Shared).TypeIs (.ref c) "tuple":=⟨_,et,rfl⟩;unfold Builtin.Dict.pairItems;refine Pj (Tz hT ?_);rw[if_pos (by decide)];refine Pj ?_;unfold seqItems?;refine Pj (wpAny_load et (Pl (Pl ?_)));show wpAny _ A.in1 (holding [u1,Z] (dictSet d u1 Z)) _ _ _;refine Q8 (Zqx (by exact hu) I1 U r1 r2 λs2 I2 aa=>?_);refine Pl ⟨Ta PySem.F.plain_dict_update_loop _,?_⟩;have e1:rawInt ((i:Int)+1)=rawInt (((i+1:Nat)):Int):=rfl;rw[e1];exact ih (i+1) s2 (by lia) O I2 (ag.at λo e=>(aa.2 it (Px hdi)).trans e)
noncomputable def Cg {κ:Type}[DecidableEq κ](kvs:List (κ×V))(l:List (κ×V)):List (κ×V):=l.foldl (λa I=>Dn a I.1 I.2) kvs
def Zg8 {κ:Type}[DecidableEq κ](l:List (κ×V)):∀kvs:List (κ×V),(Cg kvs l).length<=kvs.length+l.length:=by
 induction l with
 |nil=>intro kvs;exact Pm _
 |cons I r O =>
  intro kvs;have h1:=O (Dn kvs I.1 I.2);have h2:=Zb9 kvs I.1 I.2;rw[Qc];show(Cg (Dn kvs I.1 I.2) r).length<=_;lia
def Zgp {κ:Type}[DecidableEq κ]{l:List (κ×V)}{i:Nat}{kv:κ×V}(h:l[i]?=some kv)(kvs:List (κ×V)):Cg kvs (l.take (i+1))=Dn (Cg kvs (l.take i)) kv.1 kv.2:=by
 unfold Cg;rw[Sv,h,List.foldl_append];rfl
def Zjr (K:Pi):List V->Hp->VK->Prop:=λxs H Q=>eX2 λ(p:Addr)(vs:List V)=>xs=[.ref p]/\SqL K H p vs /\
 ((∃kvs:List (Ax×V),Al (λx (I:Ax×V)=>∃a,x=.ref a/\SqT K H a [kV I.1,I.2]) vs kvs/\∀d,H d=none->Q (.ref d) (upd H d (.dK (Cg [] kvs)))) \/
   (∃kvs:List (List Ax×V),Al (λx (I:List Ax×V)=>eX2 λa b=>x=.ref a/\SqT K H a [.ref b,I.2]/\H b=some (.tup (I.1.map kV))) vs kvs/\∀d,H d=none->Q (.ref d) (upd H d (.dT (Cg [] kvs)))))
def Zie {p:Addr}{vs:List V}{Q:VK}{Hs:Nat->Hp}(hu:A.units+3<cLine)(hh:A.handled=none)(I:Inv X pins σ H s)(hq:SqL X.K H p vs)(d:Addr)(hdd:d=s.heap.objs.size)
  (h0:Inv X pins σ (Hs 0) { s with heap:=s.heap.push { cls:=.type "dict",data:=.dict #[] } }) (hs0:∀i b,H b=none->b≠d->Hs i b=none) (hsd:∀i,i<=vs.length->SqL X.K (Hs i) p vs)
  (hs:∀i x,vs[i]?=some x->eX3 λ(c:Addr)(y v:V)=>x=.ref c/\SqT X.K (Hs i) c [y,v]/\DPut (Hs i) d y v (Hs (i+1))) (q:Q (.ref d) (Hs vs.length)) :
  wpAny (model X.prog X.w) A (call (.type "dict") [.ref p]) (EP X pins σ Q) E s:=by
 refine callType_codes (Q₁:=λobj U=>obj=.ref s.heap.objs.size/\U={ s with heap:=s.heap.push { cls:=.type "dict",data:=.dict #[] } }) F.kt_called_dict (F.kt_typeCall_dict_1 _) F.entry_dict_init (kt_code_dict_new _ ⟨rfl,rfl⟩) ?_;rintro obj U ⟨rfl,rfl⟩;have Y:({ s with heap:=s.heap.push { cls:=.type "dict",data:=.dict #[] } }:Shared).TypeIs (.ref s.heap.objs.size) "dict":=⟨_,P4 _ rfl,rfl⟩;refine⟨Y,F.args_dict_init_2 _ _,?_⟩;unfold Builtin.«dict.__init__»;refine Pj ?_;unfold Builtin.Dict.selfAndRest;refine Pj (wpAny_notOrdered_dict Y ?_);show wpAny _ _ (pure (s.heap.objs.size,[Value.ref p])) _ _ _;refine Pl ?_;show wpAny _ _ (Builtin.Dict.updateFrom "dict.__init__" s.heap.objs.size (.ref p) [] .none) _ _ _;subst hdd;obtain⟨aa,rv,pl,hz⟩:=h0.list (hsd 0 (Qo _));have ad:s.heap.objs.size<(s.heap.push { cls:=Value.type "dict",data:=Data.dict #[] }).objs.size:=by rw[Qv];exact Vp _
 generalize hs1:({ s with heap:=s.heap.push { cls:=.type "dict",data:=.dict #[] } }:Shared)=s1 at *
 have af:s.heap.objs.size<s1.heap.objs.size:=by rw[<- hs1];exact ad
 obtain⟨ol,nl,el,cl,dn,dl⟩:=pl;unfold Builtin.Dict.updateFrom;refine Pj (Tz ⟨_,el,cl⟩ ?_);rw[if_pos (by decide)];refine Pj (Zte el cl dl dn Zwf (by right) hh (λh2 Z kp=>?_) (by right));rw[if_pos (by decide)];refine Pj (Ua ?_);have I2:Inv X pins σ (Hs 0) { s1 with heap:=h2,toks:=Z }:=h0.kept kp;have ae:h2.IsList p aa.toArray:=⟨ol,kp _ _ el,cl,nl,dl⟩;refine Pj (Vo ae ?_);have O:s.heap.objs.size<h2.objs.size:=by
  obtain⟨on,en,_⟩:=Y;exact Pr (kp _ _ en)
 have ac:∀i,Hs i h2.objs.size=none:=λi=>hs0 i _ (I.hok.fresh (Ux O)) (Q3 O);refine Pl ⟨Ta PySem.F.plain_dict_update_loop _,Zmk (A:=A.in1) (Hs:=Hs) (xs:=vs) (p:=p) hh (by show A.units+1+1<cLine;lia) (P3 O) hsd (λi=>I2.fpOk (Pm _) (ac i)) hs (λs' I'=>?_) vs.length 0 _ rfl (Qo _) (I2.kept (t':=Z) λb o e=>Pp _ e) ⟨_,P4 _ rfl,rfl,rfl⟩⟩;exact⟨rfl,.ref s.heap.objs.size,_,I',rfl,q⟩
def Zmo (hu:X.A.units+3<cLine)(hh:X.calm=true):C0 X (.type "dict") (Zjr X.K):=by
 intro pins s σ H xs us Q I r h;obtain⟨p,vs,rfl,U,h⟩:=h;obtain⟨u,rfl,rx⟩:=Kk r;cases rx;have hf:H s.heap.objs.size=none:=I.hok.fresh (Pm _);have ac:p≠s.heap.objs.size:=by
  obtain⟨aa,rv,⟨o,n,e,_⟩,hz⟩:=I.list U;exact P3 (Pr e)
 have hn:vs.length<=sizeLine:=by
  obtain⟨aa,rv,_,hz⟩:=I.list U;exact hz
 rcases h with⟨kvs,Y,q⟩|⟨kvs,Y,q⟩
 ·refine Zie (Hs:=λi=>upd H s.heap.objs.size (.dK (Cg [] (kvs.take i)))) hu (I.ok.hd hh) I U s.heap.objs.size rfl (I.laid (a:=s.heap.objs.size) (o:=.dK []) (t':=s.toks) (λ_ _ q=>Pp _ q) (Pm _) (Zlw s.heap I.big)) (λi b hb hd=>by show upd H _ _ b=none;rw[Ah hd];exact hb) (λi _=>(Same.upd hf).seq U) (λi x Z=>?_) ?_
  ·obtain⟨kv,O,c,rfl,hc⟩:=Y.get Z;have hi:i<vs.length:=(Pt.mp Z).1;refine⟨c,_,_,rfl,(Same.upd hf).tup hc,?_⟩;show DPut _ _ _ _ (upd H s.heap.objs.size (.dK (Cg [] (kvs.take (i+1)))));rw[Zgp O];have hl:(Cg [] (kvs.take i)).length<sizeLine:=by have:=Zg8 (kvs.take i) ([]:List (Ax×V));rw[Qq]at this;simp only[Tq]at this;lia
   have r:=DPut.k (H:=upd H s.heap.objs.size (.dK (Cg [] (kvs.take i)))) (k:=kv.1) (v:=kv.2) Ac hl;rw[Ks]at r;exact r
  ·show Q _ (upd H s.heap.objs.size (.dK (Cg [] (kvs.take vs.length))));rw[Y.1,Vt];exact q _ hf
 ·refine Zie (Hs:=λi=>upd H s.heap.objs.size (.dT (Cg [] (kvs.take i)))) hu (I.ok.hd hh) I U s.heap.objs.size rfl (I.laid (a:=s.heap.objs.size) (o:=.dT []) (t':=s.toks) (λ_ _ q=>Pp _ q) (Pm _) (Zvb s.heap I.big)) (λi b hb hd=>by show upd H _ _ b=none;rw[Ah hd];exact hb) (λi _=>(Same.upd hf).seq U) (λi x Z=>?_) ?_
  ·obtain⟨kv,O,c,b,rfl,hc,hb⟩:=Y.get Z;have hi:i<vs.length:=(Pt.mp Z).1;refine⟨c,_,_,rfl,(Same.upd hf).tup hc,?_⟩;show DPut _ _ _ _ (upd H s.heap.objs.size (.dT (Cg [] (kvs.take (i+1)))));rw[Zgp O];have hl:(Cg [] (kvs.take i)).length<sizeLine:=by have:=Zg8 (kvs.take i) ([]:List (List Ax×V));rw[Qq]at this;simp only[Tq]at this;lia
   have r:=DPut.t (H:=upd H s.heap.objs.size (.dT (Cg [] (kvs.take i)))) (v:=kv.2) Ac ((Same.upd hf) _ _ hb) hl;rw[Ks]at r;exact r
  ·show Q _ (upd H s.heap.objs.size (.dT (Cg [] (kvs.take vs.length))));rw[Y.1,Vt];exact q _ hf
end
def Room.u1 (r:Room k A):A.units+1<cLine:=by have:=r.u200;lia
section
variable {X:Cx}{k:Nat}{x m f:Str}{ps:List Str}{sp:Sp}{E:XK}{C:Addr}{p pos pos' tpos apos:Pos}{e o i value:Expr}{es:List Expr}{ta tv td ty:TE}{t:TA}{CX:C3}{P:Program}{w:World}{mg:Str->Option Value}{base:Heap}{K:Pi}
def Zgq (K:Pi)(CX:C3)(ps:List Str)(he:QE X o ta)(hr:Room k X.A)(hx:G3 CX X E)(hP:autoParam (X.prog=P) zX)(hw:autoParam (X.w=w) zX)(hK:autoParam (X.K=K) zX)(hmg:autoParam (X.mg=mg) zX)(hbs:autoParam (X.base=base) zX)(ht:autoParam (eval (.Call (.Attribute o m apos) [] [] pos) X.env=(do
   let ov <- eval o X.env
   standAt apos.atName
   let (f,first) <- holding [ov] (getMethod ov m pl)
   callWith pos f first (backTo pos (starEach [] X.env)) (backToKw pos (keywordEach [] X.env)))) zX) :
  QE X (.Call (.Attribute o m apos) [] [] pos) (Ze3 CX P w K mg base k m ps E ta Fk):=by
 subst hP hw hK hmg hbs;refine⟨λpins s σ H Q I h=>?_⟩;refine PySem.W.methodCall_KW (pl:=pl) (Au (he.run pins s σ H _ I h) λu s1 zq=>?_) ht;obtain⟨x,H1,O,Z,a,C,dx,fs,sp,ex,Y,l,M,q⟩:=zq;obtain⟨g,fd,F,c,U,hb⟩:=M.ex;subst ex;obtain rfl:u=Value.ref a:=Z;refine Zhs O Y c U l ?_;exact PySem.W.callWith_K0 (first:=[.ref a]) O.kIn U.kp (Zdz (us:=[.ref a]) (vs:=[.ref a]) (dvs:=[]) F hr hb .nil hx O (.cons rfl .nil) q)
def Zke (K:Pi)(ha:QE X o ta)(hv:QE X value tv)(hop:Zep X op rd)(hK:autoParam (X.K=K) zX):QS X (.AugAssign (.Attribute o f tpos) op value pos) (Zi1 K ta tv rd f):=by subst hK;exact⟨Zmz ha.run hv.run hop⟩
def Zh9 (K:Pi)(hu:X.A.units+200<cLine)(hh:X.calm=true)(hK:autoParam (X.K=K) zX):C0 X (.type "dict") (Zjr K):=by subst hK;exact Zmo (by lia) hh
def Np (hu:X.A.units+1<cLine)(ho:QE X o td)(hi:QE X i ty)(hs:Zds i):QE X (.Subscript o i pos) (Zhv td ty):=by
 refine⟨?_⟩;have ho:=ho.run;have hi:=hi.run
 intro pins s σ H Q I h;refine Ztp PySem.F.slot_dict_getitem.lookup hs (Au (ho pins s σ H _ I h) λu s1 U=>?_);obtain⟨x,H1,I1,rx,Z⟩:=U;refine Au (hi pins s1 σ H1 _ I1 Z) λiv s2 U=>?_;obtain⟨y,H2,Y,ry,a,v,ex,g,q2⟩:=U;subst ex;obtain rfl:u=Value.ref a:=rx;exact⟨Zrn Y g,Zox hu Y g ry λw' s3 I3 O=>⟨v,H2,I3,O,q2⟩⟩
def Zpu (hu:X.A.units+1<cLine)(hi:QE X i ty)(ho:QE X o td):QC X .In i o (tDIn ty td):=by
 refine⟨?_⟩;have hi:=hi.run;have ho:=ho.run
 intro pins s σ H Q I h;refine Au (hi pins s σ H _ I h) λiv s1 O=>?_;obtain⟨y,H1,I1,ry,U⟩:=O;refine Au (ho pins s1 σ H1 _ I1 U) λu s2 O=>?_;obtain⟨x,H2,I2,Y,a,ov,ex,g,Z⟩:=O;subst ex;obtain rfl:u=Value.ref a:=Y;exact d_in hu I2 g ry λs3 I3=>⟨.bl ov.isSome,H2,I3,rfl,Z⟩
def Zca (K:Pi):R2:=λx y H Q=>Jp K x y H Q\/eX4 λ(a b:Addr)(xs ys:List V)=>x=.ref a/\y=.ref b/\H a=some (.tup xs)/\H b=some (.tup ys)/\xs.length+ys.length<=sizeLine/\∀p H',Same H H'->H' p=some (.tup (xs++ys))->Q (.ref p) H'
def Zqm:OpR X (binaryOp .Add) (Zca X.K):=by
 refine op_addA.or ?_;intro pins s σ H x y v u Q I rx ry h;obtain⟨a,b,xs,ys,rfl,rfl,ha,hb,hz,q⟩:=h;have U:SqT X.K H a xs:=SqT.of ha;have Z:SqT X.K H b ys:=SqT.of hb;by_cases hx:xs=[]
 ·subst hx;cases rx;cases ry;obtain⟨aj,r1,p1,_⟩:=I.tuple U;obtain⟨ah,r2,p2,_⟩:=I.tuple Z;cases r1;obtain⟨⟨ai,dd,af,sl⟩,ho,hc,n,hd⟩:=id p1;obtain⟨⟨ag,ac,ad,ae⟩,aa,Y,n2,O⟩:=id p2;simp only at hc hd Y O;subst hc hd Y O;exact V9 ⟨_,ho,rfl⟩ ⟨_,aa,rfl⟩ Vq V4 Ve Vb (U8 _ _)
   (tuple_addW0 a b _ _ n n2 dd ac sl ae (by simp)) ⟨ho,aa,⟨.ref b,H,I,rfl,q b H (Same.refl H) hb⟩⟩
 ·refine Zkn pins s σ H _ _ v u Q I rx ry ⟨a,b,xs,ys,rfl,rfl,U,Z,hx,hz,λe=>?_,λ_ p hp=>q p _ (λc o e=>by rw[Ah (Dh e hp)];exact e) Ac⟩;subst e;exact q a H (Same.refl H) (by rw[Q2];exact ha)
def K4 (K:Pi)(hK:autoParam (X.K=K) zX):OpR X (binaryOp .Add) (Zca K):=by subst hK;exact Zqm
def Zcr (ha:H a=some (.tup xs))(hb:H b=some (.tup ys))(hz:xs.length+ys.length<=sizeLine)(h:∀p H',Same H H'->H' p=some (.tup (xs++ys))->Q (.ref p) H'):Zca K (.ref a) (.ref b) H Q:=.inr ⟨a,b,xs,ys,rfl,rfl,ha,hb,hz,h⟩
end
end L2
namespace L2
open PySem
def RowT (K:Pi)(H:Hp)(v:V)(x:List Nat×Tr):Prop:=eX3 λ(a p:Addr)(u:V)=>v=.ref a/\SqT K H a [.ref p,u]/\H p=some (.tup (A9 x.1))/\TrAt K H u x.2
def RowT.same (e:SameT H H')(v:V)(x:List Nat×Tr)(h:RowT K H v x):RowT K H' v x:=by
 obtain⟨a,p,u,r,q,I,t⟩:=h;exact⟨a,p,u,r,e.tup q,(e p).1 _ I,t.sameT e⟩
def Zn4 {κ:Type}[DecidableEq κ](l:List (κ×V))(kv:κ×V)(kvs:List (κ×V)):Cg kvs (l++[kv])=Dn (Cg kvs l) kv.1 kv.2:=by
 unfold Cg;rw[List.foldl_append];rfl
noncomputable def Fe {κ:Type}[DecidableEq κ](l:List (κ×V))(k:κ):Option V:=(l.reverse.find? λI=>decide (I.1=k)).map (·.2)
def Zew {κ:Type}[DecidableEq κ](l:List (κ×V))(kv:κ×V)(k:κ):Fe (l++[kv]) k=if kv.1=k then some kv.2 else Fe l k:=by
 unfold Fe;rw[Tj,Vf,Wn,Rf];by_cases h:kv.1=k
 ·simp[h]
 ·simp[h]
def Zbv {α:Type}{P:List α->Prop}(h0:P [])(h1:∀l x,P l->P (l++[x]))(l:List α):P l:=by
 rw[<- l.reverse_reverse]
 induction l.reverse with
 |nil=>exact h0
 |cons x r I=>rw[W1];exact h1 _ _ I
def Zd6 {κ:Type}[DecidableEq κ](l:List (κ×V))(k:κ):Ck (Cg [] l) k=Fe l k:=by
 refine Zbv (P:=λl=>Ck (Cg [] l) k=Fe l k) rfl (λl I O=>?_) l;rw[Zn4,Zew,Zlf,O];by_cases h:I.1=k
 ·rw[if_pos h,if_pos h.symm]
 ·rw[if_neg h,if_neg (Px h)]
structure Wt where
 pl:List Nat
 ar:List (Str×Str×V)
 came:Bool
structure MS where
 rows:List Rx
 wait:List Wt
 things:List (Str×V)
 steps:Int
noncomputable def Ap (pl:List Nat):List Int:=pl.map λi:Nat=>((i:Nat):Int)
def Fh (pl:List Nat):(Ap pl).map V.int=A9 pl:=by unfold Ap A9;rw[U0];rfl
noncomputable def D6 (pl:List Nat):List Ax:=pl.map λi:Nat=>Sum.inl ((i:Nat):Int)
def Nn (pl:List Nat):(D6 pl).map kV=A9 pl:=by unfold D6 A9;rw[U0];rfl
def WtAt (K:Pi)(A:Addr->Prop)(H:Hp)(v:V)(x:Wt):Prop:=eX4 λ(a p e:Addr)(ev:List V)=>v=.ref a/\SqT K H a [.ref p,.ref e,.bl x.came]/\H p=some (.tup (A9 x.pl))/\H e=some (.lst ev)/\Al (PrAt K H) ev x.ar/\¬A e
def WtAt.same (s:SameA A H H')(v:V)(x:Wt)(h:WtAt K A H v x):WtAt K A H' v x:=by
 obtain⟨a,p,e,U,h1,h2,O,Y,h5,I⟩:=h;exact⟨a,p,e,U,h1,s.1.tup h2,(s.1 p).1 _ O,s.2 _ _ I Y,h5.mono (PrAt.same s.1),I⟩
def WtAt.mono (s:∀b,B b->H b≠none->A b)(v:V)(x:Wt)(h:WtAt K A H v x):WtAt K B H v x:=by
 obtain⟨a,p,e,Y,h1,h2,U,I,h5,O⟩:=h;exact⟨a,p,e,Y,h1,h2,U,I,h5,λb=>O (s e b (by rw[I];simp))⟩
def RwX (K:Pi)(A:Addr->Prop)(H:Hp)(v:V)(x:Rx):Prop:=RwAt K A H v x/\eX4 λ(a p o e:Addr)=>v=.ref a/\SqT K H a [.str x.wd,.ref p,.ref o,.ref e]/\H p=some (.tup (x.pl.map V.int))
def RwX.same (s:SameA A H H')(v:V)(x:Rx)(h:RwX K A H v x):RwX K A H' v x:=by
 obtain⟨h1,a,p,o,e,r,q,t⟩:=h;exact⟨RwAt.same s v x h1,a,p,o,e,r,s.1.tup q,(s.1 p).1 _ t⟩
def RwX.mono (s:∀b,B b->H b≠none->A b)(v:V)(x:Rx)(h:RwX K A H v x):RwX K B H v x:=⟨RwAt.mono s v x h.1,h.2⟩
def RwO (K:Pi)(A:Addr->Prop)(H:Hp)(v:V)(y:Rx×Addr×Addr):Prop:=eX4 λ(a p:Addr)(ov ev:List V)=>v=.ref a/\SqT K H a [.str y.1.wd,.ref p,.ref y.2.1,.ref y.2.2]/\SqT K H p (y.1.pl.map V.int)/\H y.2.1=some (.lst ov)/\Al (ThAt K H) ov y.1.ops/\H y.2.2=some (.lst ev)/\Al (PrAt K H) ev y.1.ar/\¬A y.2.1/\¬A y.2.2/\y.2.1≠y.2.2
def RwO.same (s:SameA A H H')(v:V)(y:Rx×Addr×Addr)(h:RwO K A H v y):RwO K A H' v y:=by
 obtain⟨a,p,ov,ev,h1,h2,Z,h4,h5,U,Y,O,I,hn⟩:=h;exact⟨a,p,ov,ev,h1,s.1.tup h2,s.1.tup Z,s.2 _ _ O h4,h5.mono (ThAt.same s.1),s.2 _ _ I U,Y.mono (PrAt.same s.1),O,I,hn⟩
def RwO.mono (s:∀b,B b->H b≠none->A b)(v:V)(y:Rx×Addr×Addr)(h:RwO K A H v y):RwO K B H v y:=by
 obtain⟨a,p,ov,ev,h1,h2,Z,O,h5,I,Y,h8,U,hn⟩:=h;exact⟨a,p,ov,ev,h1,h2,Z,O,h5,I,Y,λb=>h8 (s _ b (by rw[O];simp)),λb=>U (s _ b (by rw[I];simp)),hn⟩
def SepR (K:Pi)(A:Addr->Prop)(H:Hp)(rv:List V)(rs:List Rx):Prop:=∃ys:List (Rx×Addr×Addr),ys.map (·.1)=rs/\Al (RwO K A H) rv ys/\∀(i j:Nat)(x y:Rx×Addr×Addr),ys[i]?=some x->ys[j]?=some y->i<j->x.2.1≠y.2.1/\x.2.1≠y.2.2/\x.2.2≠y.2.1/\x.2.2≠y.2.2
def SepR.nil:SepR K A H [] []:=⟨[],rfl,.nil,λi j x y h=>by simp at h⟩
def SepR.same (h:SepR K A H rv rs)(s:SameA A H H'):SepR K A H' rv rs:=by
 obtain⟨ys,e,I,d⟩:=h;exact⟨ys,e,I.mono (RwO.same s),d⟩
def SepR.mono (h:SepR K A H rv rs)(s:∀b,B b->H b≠none->A b):SepR K B H rv rs:=by
 obtain⟨ys,e,I,d⟩:=h;exact⟨ys,e,I.mono (RwO.mono s),d⟩
def SepR.add (h:SepR K A H rv rs)(s:Same H H')(ho:H y.2.1=none)(he:H y.2.2=none)(q:RwO K A H' v y):SepR K A H' (rv++[v]) (rs++[y.1]):=by
 obtain⟨ys,er,al,d⟩:=h;refine⟨ys++[y],by rw[Ql,er];rfl,(al.mono (RwO.same s.a)).snoc q,λi j x z hi I Z=>?_⟩;have aa:j<(ys++[y]).length:=(Pt.mp I).1;rw[Pn,Pz]at aa;have U:i<ys.length:=by lia
 rw[Qk U]at hi;by_cases O:j<ys.length
 ·rw[Qk O]at I;exact d i j x z hi I Z
 ·have ej:j=ys.length:=by lia
  rw[ej]at I;simp at I;obtain⟨v',hv⟩:∃v,rv[i]?=some v:=⟨_,Pk (by rw[al.1];exact U)⟩;obtain⟨x',Y,a2,p2,ad,ac,g1,g2,g3,g4,g5,g6,g7,g8,g9,_⟩:=al.get hv;rw[hi]at Y;cases Y;rw[<- I];exact⟨λz=>(by rw[z,ho]at g4;cases g4),λz=>(by rw[z,he]at g4;cases g4),λz=>(by rw[z,ho]at g6;cases g6),λz=>(by rw[z,he]at g6;cases g6)⟩
structure Ml where
 m:Addr
 dx:Addr
 fd:Addr
 rd:Addr
 wd:Addr
 td:Addr
def Ml.A (L:Ml)(b:Addr):Prop:=b=L.rd\/b=L.wd\/b=L.td
noncomputable def Ml.fs (L:Ml)(n:Int):List (Str×V):=[("forms",.ref L.fd),("rows",.ref L.rd),("waiting",.ref L.wd),("things",.ref L.td),("steps",.int n)]
structure MAt (K:Pi)(HB:Hp)(C:Addr)(kvs:List (List Ax×V))(L:Ml)(H:Hp)(S:MS):Prop where
 base:Same HB H
 nm:HB L.m=none
 nr:HB L.rd=none
 nw:HB L.wd=none
 nt:HB L.td=none
 ins:H L.m=some (.ins C L.dx (L.fs S.steps))
 frm:H L.fd=some (.dT kvs)
 rw:L.rd≠L.wd
 rt:L.rd≠L.td
 wt:L.wd≠L.td
 rows:∃rv,H L.rd=some (.lst rv)/\Al (RwX K (λb=>L.A b\/HB b≠none) H) rv S.rows/\SepR K (λb=>L.A b\/HB b≠none) H rv S.rows
 wait:∃wv,H L.wd=some (.lst wv)/\Al (WtAt K L.A H) wv S.wait
 things:∃tv,H L.td=some (.lst tv)/\Al (ThAt K H) tv S.things
def SameM (L:Ml)(H H':Hp):Prop:=∀b o,b≠L.m->¬L.A b->H b=some o->H' b=some o
def SameM.refl (L:Ml)(H:Hp):SameM L H H:=λ_ _ _ _ h=>h
def SameM.trans (a:SameM L H H1)(b:SameM L H1 H2):SameM L H H2:=λc o h1 h2 h=>b c o h1 h2 (a c o h1 h2 h)
def _root_.L2.Same.m (e:Same H H')(L:Ml):SameM L H H':=λb o _ _ h=>e b o h
def SameM.trans' (a:SameM L H H1)(b:SameM L' H1 H2)(hm:L'.m=L.m)(hr:L'.rd=L.rd)(hw:L'.wd=L.wd)(ht:L'.td=L.td\/H L'.td=none):SameM L H H2:=λc o h1 h2 h=>by
 refine b c o (by rw[hm];exact h1) ?_ (a c o h1 h2 h);rintro(z|z|z)
 ·exact h2 (.inl (z.trans hr))
 ·exact h2 (.inr (.inl (z.trans hw)))
 ·rcases ht with e|e
  ·exact h2 (.inr (.inr (z.trans e)))
  ·rw[<- z,h]at e;cases e
section
variable {K:Pi}{HB H H':Hp}{C:Addr}{kvs:List (List Ax×V)}{L:Ml}{S:MS}
def MAt.ne (M:MAt K HB C kvs L H S)(h:H b=some o)(hi:∀c d f,o≠.ins c d f)(hl:∀xs,o≠.lst xs):b≠L.m/\¬L.A b:=by
 obtain⟨Y,I,_⟩:=M.rows;obtain⟨wv,O,_⟩:=M.wait;obtain⟨tv,U,_⟩:=M.things;refine⟨λz=>?_,?_⟩
 ·rw[z,M.ins]at h;cases h;exact hi _ _ _ rfl
 ·rintro(z|z|z)
  ·rw[z,I]at h;cases h;exact hl _ rfl
  ·rw[z,O]at h;cases h;exact hl _ rfl
  ·rw[z,U]at h;cases h;exact hl _ rfl
def MAt.a (M:MAt K HB C kvs L H S)(e:SameM L H H'):SameA L.A H H':=by
 refine⟨λb=>⟨λxs h=>?_,λo u h=>?_⟩,λb xs n h=>?_⟩
 ·obtain⟨h1,h2⟩:=M.ne h (λ_ _ _ z=>nomatch z) (λ_ z=>nomatch z);exact e b _ h1 h2 h
 ·obtain⟨h1,h2⟩:=M.ne h (λ_ _ _ z=>nomatch z) (λ_ z=>nomatch z);exact e b _ h1 h2 h
 ·refine e b _ (λz=>?_) n h;rw[z,M.ins]at h;cases h
def MAt.t (M:MAt K HB C kvs L H S)(e:SameM L H H'):SameT H H':=(M.a e).1
def MAt.outer (M:MAt K HB C kvs L H S)(e:SameM L H H'):Same HB H':=λb o h=>by
 refine e b o (λz=>?_) ?_ (M.base b o h)
 ·rw[z,M.nm]at h;cases h
 ·rintro(z|z|z)
  ·rw[z,M.nr]at h;cases h
  ·rw[z,M.nw]at h;cases h
  ·rw[z,M.nt]at h;cases h
def MAt.big (M:MAt K HB C kvs L H S)(e:SameM L H H'):SameA (λb=>L.A b\/HB b≠none) H H':=(M.a e).mono λ_ h=>.inl h
def MAt.new (M:MAt K HB C kvs L H S)(e:Same H H'):MAt K HB C kvs L H' S:=by
 obtain⟨I,U,ar,sp⟩:=M.rows;obtain⟨wv,Y,O⟩:=M.wait;obtain⟨tv,Z,at_⟩:=M.things;exact⟨M.base.trans e,M.nm,M.nr,M.nw,M.nt,e _ _ M.ins,e _ _ M.frm,M.rw,M.rt,M.wt,⟨I,e _ _ U,ar.mono (RwX.same e.a),sp.same e.a⟩,⟨wv,e _ _ Y,O.mono (WtAt.same e.a)⟩,⟨tv,e _ _ Z,at_.mono (ThAt.same e.t)⟩⟩
def SameM.upd (hx:x=L.m\/L.A x):SameM L H (upd H x o):=λb o' h1 h2 h=>by
 rw[Ah (λz=>?_)]
 ·exact h
 ·rw[z]at h1 h2;rcases hx with e|e
  ·exact h1 e
  ·exact h2 e
def MAt.apart (M:MAt K HB C kvs L H S):L.rd≠L.m/\L.wd≠L.m/\L.td≠L.m/\L.fd≠L.m/\L.fd≠L.rd/\L.fd≠L.wd/\L.fd≠L.td:=by
 obtain⟨Y,I,_⟩:=M.rows;obtain⟨wv,O,_⟩:=M.wait;obtain⟨tv,U,_⟩:=M.things;exact⟨El I M.ins (λz=>nomatch z),El O M.ins (λz=>nomatch z),El U M.ins (λz=>nomatch z),El M.frm M.ins (λz=>nomatch z),El M.frm I (λz=>nomatch z),El M.frm O (λz=>nomatch z),El M.frm U (λz=>nomatch z)⟩
def MAt.setSteps (M:MAt K HB C kvs L H S)(n:Int):MAt K HB C kvs L (L2.upd H L.m (.ins C L.dx (L.fs n))) { S with steps:=n }:=by
 have e:SameM L H (L2.upd H L.m (.ins C L.dx (L.fs n))):=SameM.upd (.inl rfl);obtain⟨a1,a2,U,Y,a5,a6,a7⟩:=M.apart;obtain⟨I,Z,ar,sp⟩:=M.rows;obtain⟨wv,ew,O⟩:=M.wait;obtain⟨tv,et,at_⟩:=M.things;exact⟨M.outer e,M.nm,M.nr,M.nw,M.nt,Ac,by rw[Ah Y];exact M.frm,M.rw,M.rt,M.wt,⟨I,by rw[Ah a1];exact Z,ar.mono (RwX.same (M.big e)),sp.same (M.big e)⟩,⟨wv,by rw[Ah a2];exact ew,O.mono (WtAt.same (M.a e))⟩,⟨tv,by rw[Ah U];exact et,at_.mono (ThAt.same (M.t e))⟩⟩
def MAt.setRows (M:MAt K HB C kvs L H S)(al:Al (RwX K (λb=>L.A b\/HB b≠none) H) rv rs)(sp:SepR K (λb=>L.A b\/HB b≠none) H rv rs):MAt K HB C kvs L (L2.upd H L.rd (.lst rv)) { S with rows:=rs }:=by
 have e:SameM L H (L2.upd H L.rd (.lst rv)):=SameM.upd (.inr (.inl rfl));obtain⟨a1,a2,a3,a4,U,a6,Z⟩:=M.apart;obtain⟨wv,O,I⟩:=M.wait;obtain⟨tv,Y,at_⟩:=M.things;exact⟨M.outer e,M.nm,M.nr,M.nw,M.nt,by rw[Ah (Px a1)];exact M.ins,by rw[Ah U];exact M.frm,M.rw,M.rt,M.wt,⟨rv,Ac,al.mono (RwX.same (M.big e)),sp.same (M.big e)⟩,⟨wv,by rw[Ah (Px M.rw)];exact O,I.mono (WtAt.same (M.a e))⟩,⟨tv,by rw[Ah (Px M.rt)];exact Y,at_.mono (ThAt.same (M.t e))⟩⟩
def MAt.setWait (M:MAt K HB C kvs L H S)(al:Al (WtAt K L.A H) wv ws):MAt K HB C kvs L (L2.upd H L.wd (.lst wv)) { S with wait:=ws }:=by
 have e:SameM L H (L2.upd H L.wd (.lst wv)):=SameM.upd (.inr (.inr (.inl rfl)));obtain⟨a1,a2,a3,a4,a5,O,Z⟩:=M.apart;obtain⟨I,U,ar,sp⟩:=M.rows;obtain⟨tv,Y,at_⟩:=M.things;exact⟨M.outer e,M.nm,M.nr,M.nw,M.nt,by rw[Ah (Px a2)];exact M.ins,by rw[Ah O];exact M.frm,M.rw,M.rt,M.wt,⟨I,by rw[Ah M.rw];exact U,ar.mono (RwX.same (M.big e)),sp.same (M.big e)⟩,⟨wv,Ac,al.mono (WtAt.same (M.a e))⟩,⟨tv,by rw[Ah (Px M.wt)];exact Y,at_.mono (ThAt.same (M.t e))⟩⟩
def MAt.setThings (M:MAt K HB C kvs L H S)(al:Al (ThAt K H) tv ts):MAt K HB C kvs L (L2.upd H L.td (.lst tv)) { S with things:=ts }:=by
 have e:SameM L H (L2.upd H L.td (.lst tv)):=SameM.upd (.inr (.inr (.inr rfl)));obtain⟨a1,a2,Y,a4,a5,a6,O⟩:=M.apart;obtain⟨I,Z,ar,sp⟩:=M.rows;obtain⟨wv,ew,U⟩:=M.wait;exact⟨M.outer e,M.nm,M.nr,M.nw,M.nt,by rw[Ah (Px Y)];exact M.ins,by rw[Ah O];exact M.frm,M.rw,M.rt,M.wt,⟨I,by rw[Ah M.rt];exact Z,ar.mono (RwX.same (M.big e)),sp.same (M.big e)⟩,⟨wv,by rw[Ah M.wt];exact ew,U.mono (WtAt.same (M.a e))⟩,⟨tv,Ac,al.mono (ThAt.same (M.t e))⟩⟩
noncomputable def Ml.with(L:Ml)(t:Addr):Ml:={ L with td:=t }
def MAt.swap (M:MAt K HB C kvs L H S){H1:Hp}{t:Addr}{tv:List V}{ts:List (Str×V)}(e0:Same H H1)(ht:H t=none)(h1:H1 t=some (.lst tv))(al:Al (ThAt K H1) tv ts):MAt K HB C kvs (L.with t) (L2.upd H1 L.m (.ins C L.dx ((L.with t).fs S.steps))) { S with things:=ts }/\SameM L H (L2.upd H1 L.m (.ins C L.dx ((L.with t).fs S.steps))):=by
 have I:=M.new e0;have e:SameM L H1 (L2.upd H1 L.m (.ins C L.dx ((L.with t).fs S.steps))):=SameM.upd (.inl rfl);obtain⟨a1,a2,a3,a4,a5,a6,a7⟩:=I.apart;obtain⟨ai,Y,_⟩:=M.rows;obtain⟨ah,O,_⟩:=M.wait;obtain⟨rv,er,ar,sp⟩:=I.rows;obtain⟨wv,ew,aw⟩:=I.wait;have nm:t≠L.m:=λz=>by rw[z,M.ins]at ht;cases ht
 have nr:L.rd≠t:=λz=>by rw[<- z,Y]at ht;cases ht
 have nw:L.wd≠t:=λz=>by rw[<- z,O]at ht;cases ht
 have nb:HB t=none:=by
  cases h:HB t with
  |none=>rfl
  |some o=>rw[M.base _ _ h]at ht;cases ht
 have Z:∀B:Addr->Prop,SameA B H (L2.upd H1 L.m (.ins C L.dx ((L.with t).fs S.steps))):=λB=>⟨e0.t.trans (I.t e),λb xs _ h=>by
  rw[Ah (λz=>?_)]
  ·exact e0 _ _ h
  ·rw[z,M.ins]at h;cases h⟩
 obtain⟨aa,ag,U,ad⟩:=M.rows;obtain⟨ac,af,ae⟩:=M.wait;have hA:∀b,(L.with t).A b->H b≠none->L.A b:=λb hb hn=>by
  rcases hb with z|z|z
  ·exact .inl z
  ·exact .inr (.inl z)
  ·rw[show b=t from z,ht]at hn;exact absurd rfl hn
 refine⟨⟨I.outer e,M.nm,M.nr,M.nw,nb,Ac,(Ah (show L.fd≠L.m from a4)).trans I.frm,M.rw,nr,nw,⟨aa,(Ah (show L.rd≠L.m from a1)).trans (e0 _ _ ag),?_,?_⟩,⟨ac,(Ah (show L.wd≠L.m from a2)).trans (e0 _ _ af),?_⟩,⟨tv,(Ah (show t≠L.m from nm)).trans h1,al.mono (ThAt.same (I.t e))⟩⟩,(e0.m L).trans e⟩
 ·refine(U.mono (RwX.mono λb hb hn=>?_)).mono (RwX.same (Z _));rcases hb with z|z
  ·exact .inl (hA b z hn)
  ·exact .inr z
 ·refine(ad.mono λb hb hn=>?_).same (Z _);rcases hb with z|z
  ·exact .inl (hA b z hn)
  ·exact .inr z
 ·exact(ae.mono (WtAt.mono hA)).mono (WtAt.same (Z _))
end
noncomputable def Di (ar:List (Str×Str×V))(z:Str):Option (Str×V):=(ar.reverse.find? λx=>decide (x.1=z)).map (·.2)
def Zlc (l:List (Str×Str×V))(x:Str×Str×V)(z:Str):Di (l++[x]) z=if x.1=z then some x.2 else Di l z:=by
 unfold Di;rw[Tj,Vf,Wn,Rf];by_cases h:x.1=z
 ·simp[h]
 ·simp[h]
def Zpf:∀(ev:List V)(ar:List (Str×Str×V)),Al (PrAt K H) ev ar->∃kvs:List (Ax×V),Al (λv (kv:Ax×V)=>∃a,v=.ref a/\SqT K H a [kV kv.1,kv.2]) ev kvs /\
  ∀z:Str,(Fe kvs (Sum.inr z)=none/\Di ar z=none)\/eX2 λu th=>Fe kvs (Sum.inr z)=some u/\Di ar z=some th/\ThAt K H u th:=by
 intro ev;refine Zbv (P:=λev=>∀ar,Al (PrAt K H) ev ar->∃kvs:List (Ax×V),Al (λv (kv:Ax×V)=>∃a,v=.ref a/\SqT K H a [kV kv.1,kv.2]) ev kvs /\
  ∀z:Str,(Fe kvs (Sum.inr z)=none/\Di ar z=none)\/eX2 λu th=>Fe kvs (Sum.inr z)=some u/\Di ar z=some th/\ThAt K H u th) ?_ ?_ ev
 ·intro ar U;have:ar=[]:=R8 U.1.symm;subst this;exact⟨[],.nil,λz=>.inl ⟨rfl,rfl⟩⟩
 ·intro l v ih ar U;obtain⟨l',v',I,x,e1,rfl,O,a,u,rfl,q,t⟩:=U.last (by simp);obtain⟨rfl,Y⟩:=Sy e1 rfl;cases Y;obtain⟨kvs,ak,Z⟩:=ih I O;refine⟨kvs++[(Sum.inr x.1,u)],ak.snoc ⟨a,rfl,q⟩,λz=>?_⟩;rw[Zew,Zlc];by_cases hz:x.1=z
  ·refine .inr ⟨u,x.2,?_,if_pos hz,t⟩;rw[if_pos (by rw[hz])]
  ·rw[if_neg hz,if_neg (λh=>hz (Sum.inr.inj h))];exact Z z
section
variable {g:TG}{tt:TT}{te:TE}{σ0:St}{H1:Hp}{D:Addr}{Q:VK}
def Zmd (Pv:Nat->List V->St->Hp->Prop)(h0:Pv 0 [] σ0 (upd H1 D (.lst [])))(hl:∀i ys σ H,i<=xs.length->Pv i ys σ H->SqT K H a xs)(hs:∀i x ys σ H,xs[i]?=some x->H D=some (.lst ys)->Pv i ys σ H->Ze1 g tt te D (Pv (i+1)) x σ H)(hd:∀ys σ H,H D=some (.lst ys)->Pv xs.length ys σ H->Q (.ref D) H):Zbc (J2 K a) g tt te σ0 H1 D Q:=by
 refine⟨λi m σ H=>m=xs.length-i/\i<=xs.length/\∃ys,H D=some (.lst ys)/\Pv i ys σ H,⟨xs.length,by simp,Qo _,[],Ac,h0⟩,?_⟩;rintro i m σ H ⟨rfl,hi,ys,U,p⟩;have q:=hl i ys σ H hi p;by_cases I:i<xs.length
 ·refine .inr ⟨⟨xs,xs[i],q,by simp[I]⟩,λO H2=>∃zs,H2 D=some (.lst zs)/\Pv (i+1) zs O H2,λY H' Z=>⟨xs.length-(i+1),by lia,rfl,I,Z⟩,λx H' y=>?_⟩;obtain⟨e,y⟩:=y;subst e;exact hs i x ys σ _ (y xs q) U p
 ·have e:i=xs.length:=by lia
  subst e;exact .inl ⟨⟨xs,q,Pm _⟩,hd ys σ H U p⟩
end
noncomputable def Gg:Tr->Dt
 |.mk _ n _=>n
def Zf1 (t:Tr):t=.mk t.wd (Gg t) t.ps:=by cases t;rfl
def Zup (h:D6 a=D6 b):a=b:=by
 unfold D6 at h
 induction a generalizing b with
 |nil=>cases b with
  |nil=>rfl
  |cons y r=>simp at h
 |cons x l I=>cases b with
  |nil=>simp at h
  |cons y r =>
   simp only[Qr,Vz]at h;have h1:x=y:=by have:=Sum.inl.inj h.1;lia
   rw[h1,I h.2]
noncomputable def C6 (ws:List (List Nat×Tr))(pl:List Nat):Option Tr:=(ws.reverse.find? λx=>decide (x.1=pl)).map (·.2)
def Zs0 (l:List (List Nat×Tr))(x:List Nat×Tr)(pl:List Nat):C6 (l++[x]) pl=if x.1=pl then some x.2 else C6 l pl:=by
 unfold C6;rw[Tj,Vf,Wn,Rf];by_cases h:x.1=pl
 ·simp[h]
 ·simp[h]
def Zro (h:C6 ws pl=some t):(pl,t)∈ws:=by
 unfold C6 at h;obtain⟨x,I,rfl⟩:=Q0.mp h;have h1:=List.find?_some I;have h2:x.1=pl:=dJ h1;rw[<- h2];exact W4.mp (List.mem_of_find?_eq_some I)
def Zpo:∀(rows:List V)(ws:List (List Nat×Tr)),Al (RowT K H) rows ws->∃kvs:List (List Ax×V),Al (λv (kv:List Ax×V)=>eX2 λa b=>v=.ref a/\SqT K H a [.ref b,kv.2]/\H b=some (.tup (kv.1.map kV))) rows kvs /\
  ∀pl:List Nat,(Fe kvs (D6 pl)=none/\C6 ws pl=none)\/eX2 λu t=>Fe kvs (D6 pl)=some u/\C6 ws pl=some t/\TrAt K H u t:=by
 intro rows;refine Zbv (P:=λrows=>∀ws,Al (RowT K H) rows ws->∃kvs:List (List Ax×V),Al (λv (kv:List Ax×V)=>eX2 λa b=>v=.ref a/\SqT K H a [.ref b,kv.2]/\H b=some (.tup (kv.1.map kV))) rows kvs /\
  ∀pl:List Nat,(Fe kvs (D6 pl)=none/\C6 ws pl=none)\/eX2 λu t=>Fe kvs (D6 pl)=some u/\C6 ws pl=some t/\TrAt K H u t) ?_ ?_ rows
 ·intro ws U;have:ws=[]:=R8 U.1.symm;subst this;exact⟨[],.nil,λz=>.inl ⟨rfl,rfl⟩⟩
 ·intro l v ih ws U;obtain⟨l',v',I,x,e1,rfl,O,a,p,u,rfl,q,hp,t⟩:=U.last (by simp);obtain⟨rfl,Y⟩:=Sy e1 rfl;cases Y;obtain⟨kvs,ak,Z⟩:=ih I O;refine⟨kvs++[(D6 x.1,u)],ak.snoc ⟨a,p,rfl,q,by rw[Nn];exact hp⟩,λpl=>?_⟩;rw[Zew,Zs0];by_cases hz:x.1=pl
  ·refine .inr ⟨u,x.2,?_,if_pos hz,t⟩;rw[if_pos (by rw[hz])]
  ·rw[if_neg hz,if_neg (λh=>hz (Zup h))];exact Z pl
end L2
namespace L2
open PySem PySem.Spec PyProof.Rows
section
variable {X:Cx}
noncomputable abbrev Zfj:=Zef false false
def Zo5 (K:Pi)(hg:Gl X "list")(hm:X.mg "list"=none)(hg2:Gl X "zip")(hm2:X.mg "zip"=none)(ha:QA X [e,e2] ta)(hK:autoParam (X.K=K) zX)(hc:autoParam (X.calm=true) zX)(hs:autoParam (starEach [.Call (.Name "zip" p2) [e,e2] [] pos2] X.env=[(false,eval (.Call (.Name "zip" p2) [e,e2] [] pos2) X.env)]) zX)(hs2:autoParam (starEach [e,e2] X.env=[(false,eval e X.env),(false,eval e2 X.env)]) zX)(hs3:autoParam (starEach [e2] X.env=[(false,eval e2 X.env)]) zX) :
  QE X (.Call (.Name "list" p) [.Call (.Name "zip" p2) [e,e2] [] pos2] [] pos) (Zfj K ta):=Zk7 false false K hg hm hg2 hm2 ha hK hc hs hs2 hs3
def Zwe {K:Pi}{ta:TA}{σ:St}{H:Hp}{Q:VK}(h:ta σ H λvs H1=>eX4 λa b xs ys=>vs=[.ref a,.ref b]/\SqL K H1 a xs/\SqL K H1 b ys /\
 ∀(S:Addr)(zs:List V)(H2:Hp),H1 S=none->Same H1 H2->zs.length=min xs.length ys.length->Pe H2 xs ys zs->H2 S=some (.lst zs)->Q (.ref S) H2):Zfj K ta σ H Q:=h
end
end L2
namespace L2
open PySem PySem.Spec PySem.Calls PySem.W PyProof.Rows
section
variable {X:Cx}
end
end L2
namespace L2
open PySem PySem.Spec PyProof.Rows
def Zra (K:Pi)(C:Addr)(tb:Lm)(th:TS):TS:=λD σ H=>tb D (λO I od H2=>(∃C',I=.ref C'/\Sj K (.ref C') (.ref C)=some true)/\∀a,H2 a=none->th D O (upd H2 a (exk a I od))) σ H
section
variable {X:Cx}{c n:Str}{np hpos pos:Pos}{body hbody:List Stmt}{b₀:Stmt}{tb:Lm}{th:TS}{i:Nat}{C:Addr}
def Zks (hC:Ov X.K C)(G:X.mg c=some (.ref C))(hf:X.env.frame=some X.env.locals)(hst:X.stack=X.env::X.outer)(hb:QXS X body tb)(hh:∀e XE,Fs (X.to (X.A.mark (some e)) false XE) (b₀::hbody) th)(hg:autoParam (Gl X c) zX)(hdb:autoParam ((c == ("__debug__":Str))=false) zW) :
  QS X (.Try body [.ExceptHandler (some (.Name c np)) none (b₀::hbody) hpos] [] [] pos) (Zra X.K C tb th):=by
 refine⟨λpins s σ H D I h=>?_⟩;refine wpAny_Try_except (Rt (hb.run pins s σ H D _ I h) (λf s1 q=>?_) λev s1 q=>?_)
 ·cases f with
  |next=>exact Tl q
  |ret v=>exact q
  |brk=>exact q
  |cont=>exact q
 ·obtain⟨aa,H0,s0,I0,e,T,al,od,H',rfl,h1,h2,h3,h4,h5,h6,h7,h8,h9,⟨C',rfl,ad⟩,ai⟩:=q;have J:Inv X pins aa H' s1:=I0.call' (ch:=[]) h1 h3 h4 h2 (λb z=>absurd z (by simp));have ag:X.A.frames=some (X.env::X.outer):=by rw[<- hst];exact J.ok.frames
  have Y:=J.stack;rw[hst]at Y;refine Zfd (base:=X.base) ag Y hf h9 λh' Z ae y m=>Zat (fs:=B8 (X.env::X.outer)) y λaf y' m'=>?_;have M1:Mvd (B8 X.stack) [e,T,Z] s1.heap af:=by rw[hst];exact(m.mono (by simp)).trans (m'.mono (by simp))
  have ah:s0.heap.get? Z=none:=by
   cases q:s0.heap.get? Z with
   |none=>rfl
   |some o =>
    obtain⟨o',z⟩:=h3.there Z o q (by simp);exact absurd (Pr z) (Nat.not_lt.mpr ae)
  have ac:H' Z=none:=J.hok.fresh ae;have fx:∀b∈[e,T,Z],s0.heap.get? b=none/\H' b=none:=by
   intro b hb;simp only[Ps,P0,or_false]at hb;rcases hb with rfl|rfl|rfl
   ·exact⟨h5,h7⟩
   ·exact⟨h6,h8⟩
   ·exact⟨ah,ac⟩
  have land:∀{U:Heap},Mvd (B8 X.stack) [e,T,Z] s1.heap U->Hy U e Z (.ref C') od->Inv X pins aa (upd H' e (exk e (.ref C') od)) { s1 with heap:=U }:=λ{U} mm ll =>
   I0.call' (s':={ s1 with heap:=U }) (ch:=[]) h1 (h3.land mm (λb hb=>(fx b hb).1) h5 h7) (h4.land mm (λb hb=>(fx b hb).2) (λb hb=>J.stkFree b hb) h7 (Zsg ll)) h2 (λb z=>absurd z (by simp))
  have I1:=land M1 y';refine wpAny_handleBy_cons (codeAny_handlers_test ?_) (by intro q;cases q);have aj:Inv (X.to (X.A.mark (some (.ref e))) false (notedBy (model X.prog X.w) (X.A.mark (some (.ref e))) X.env λx ak=>True)) pins aa (upd H' e (exk e (.ref C') od)) { s1 with heap:=af }:=I1.to rfl (by simp);refine Nb aj hg G ?_ hdb;obtain⟨oe,vs,oT,ts,a1,a2,a3,a4,a5,a6,a7,a8,a9⟩:=id y';refine Zt3 I1.kIn hC a1 a2 ad ?_;refine codeAny_handlers_suite (Zat (fs:=B8 X.stack) y' λam y4 m4=>?_);have I2:=land (M1.trans (m4.mono (by simp))) y4;refine Rt ((hh (.ref e) _).run pins _ _ _ D (I2.to rfl (by simp)) (ai e h7)) (λf s4 q=>?_) λev s4 q=>q;cases f with
  |next =>
   obtain⟨O,H4,I4,q⟩:=q;exact⟨O,H4,I4.back I.ok,q⟩
  |ret v =>
   obtain⟨u,O,H4,I4,r,q⟩:=q;exact⟨u,O,H4,I4.back I.ok,r,q⟩
  |brk =>
   obtain⟨O,H4,I4,q⟩:=q;exact⟨O,H4,I4.back I.ok,q⟩
  |cont =>
   obtain⟨O,H4,I4,q⟩:=q;exact⟨O,H4,I4.back I.ok,q⟩
end
section
variable {X:Cx}{o i e f k v value:Expr}{pos pos' apos cpos:Pos}{td ty tx tk tv:TE}
end
section
variable {X:Cx}{c n:Str}{np hpos pos:Pos}{body hbody:List Stmt}{b₀:Stmt}{tb:Lm}{th:TS}{i:Nat}{C:Addr}{rest:List ExceptHandler}{tr:THd}
end
section
variable {X:Cx}
end
section
variable {X:Cx}
end
section
variable {g:TG}{tt:TT}{te:TE}{σ0:St}{H1:Hp}{D:Addr}{Q:VK}
end
section
variable {X:Cx}
end
section
variable {prog:Program}{w:World}{A:Around}{E:Value->Shared->Prop}{s:Shared}
end
section
variable {X:Cx}{tg:Expr}
end
section
variable {X:Cx}{c n:Str}{np hpos pos:Pos}{body hbody:List Stmt}{b₀:Stmt}{tb:Lm}{th:Addr->TS}{i:Nat}{C:Addr}
end
section
variable {P:Program}{w:World}{K:Pi}{mg:Str->Option Value}{base:Heap}
end
section
variable {X:Cx}{k:Nat}{x:Str}{ps:List Str}{sp:Addr->Sp}{p pos:Pos}{e:Expr}{es:List Expr}{t:TA}
end
section
variable {X:Cx}{tg:Expr}
end
section
variable {X:Cx}
end
section
variable {X:Cx}
end
section
variable {X:Cx}{pins:List (Addr×Obj)}{σ:St}{H:Hp}{s:Shared}
end
section
variable {X:Cx}
open Classical in
end
section
variable {X:Cx}{pins:List (Addr×Obj)}{σ:St}{H:Hp}{s:Shared}
end
section
variable {X:Cx}
end
end L2
namespace PySem
open PyProof.Rows
section
variable {prog:Program}{w:World}{A:Around}{E:Value->Shared->Prop}{s:Shared}
end
end PySem
namespace L2
open PySem PySem.Spec PyProof.Rows
section
variable {X:Cx}{tg:Expr}
end
section
variable {X:Cx}
end
section
variable {X:Cx}{pins:List (Addr×Obj)}{σ:St}{H:Hp}{s:Shared}
end
section
variable {X:Cx}
end
section
variable {X:Cx}{c e:Expr}{tc:TE}{t:TX}{pos:Pos}
end
section
variable {X:Cx}
end
end L2
namespace L2
open PySem
end L2
namespace L2
open PySem PySem.Spec PySem.Calls PySem.W PyProof.Rows
noncomputable def Iz (k:Int)(n:Nat):List Nat:=sliceRange (sliceBounds none none (some k) n).1 (sliceBounds none none (some k) n).2.1 (sliceBounds none none (some k) n).2.2
noncomputable def D8 {α:Type}(k:Int)(xs:List α):List α:=(Iz k xs.length).filterMap (xs[·]?)
def Zsj (k:Int)(n:Nat):(Iz k n).length<=n:=by
 unfold Iz sliceBounds;refine sliceRange_length_le _ _ _ n (λh=>?_) (λh=>?_) <;> simp only[Option.getD_some]at h ⊢
 ·rw[if_pos h,if_pos h];lia
 ·rw[if_neg h,if_neg h];lia
def Zdp {α:Type}(k:Int)(xs:List α):(D8 k xs).length<=xs.length:=P9 (List.length_filterMap_le _ _) (Zsj k _)
def Zs3 {α:Type}(xs:List α):3*(D8 3 xs).length<=xs.length+2:=by
 have h:(D8 3 xs).length<=(Iz 3 xs.length).length:=List.length_filterMap_le _ _;have e:(Iz 3 xs.length).length=(if (0:Int)<xs.length then ((xs.length:Int)-0+3-1) / 3 else 0).toNat:=by
  unfold Iz sliceBounds sliceRange;simp
 rw[e]at h;split at h <;> lia
def Zcy {α β:Type}(f:α->β)(k:Int)(xs:List α):D8 k (xs.map f)=(D8 k xs).map f:=by
 unfold D8;rw[Pq,List.map_filterMap];exact congrArg (λg=>List.filterMap g _) (funext λi=>Qm)
theorem Vals.pick (r:Vals xs us):∀ix:List Nat,Vals (ix.filterMap (xs[·]?)) (ix.filterMap (us[·]?))
 |[]=>.nil
 |i::ix=>by
  cases h:xs[i]? with
  |none=>rw[List.filterMap_cons_none h,List.filterMap_cons_none (r.none_of h)];exact r.pick ix
  |some x =>
   obtain⟨u,hu,I⟩:=r.get h;rw[List.filterMap_cons_some h,List.filterMap_cons_some hu];exact .cons I (r.pick ix)
section
variable {X:Cx}
def Lr (K:Pi)(te:TE)(ts:TO):TE:=λσ H Q=>te σ H λx H1=>ts σ H1 λo H2=>eX3 λa xs k=>x=.ref a/\o=some k/\k≠0/\SqL K H2 a xs/\∀p,H2 p=none->Q (.ref p) (upd H2 p (.lst (D8 k xs)))
def Zoa {e st:PySem.Expr}{te:TE}{ts:TO}{p2 pos:Pos}(he:PE X e te)(hs:PO X (some st) ts):PE X (.Subscript e (.Slice none none (some st) p2) pos) (Lr X.K te ts):=by
 intro pins s σ H Q I h;refine Subscript_ (Au (he pins s σ H _ I h) λv s1 Z=>?_);obtain⟨x,H1,I1,r1,q1⟩:=Z;refine wpAny_Slice ?_;rw[evalPart_none];refine Pl ?_;refine Pl ?_;refine Au (hs pins s1 σ H1 _ I1 q1) λvk U Z=>?_;obtain⟨o,H3,I3,pk,q3⟩:=Z;obtain⟨a,xs,k,rfl,rfl,hk,hx,q⟩:=q3;cases r1;have Y:Inv X pins σ H3 { U with heap:=U.heap.push { cls:=.type "slice",data:=.fields #[.none,.none,vk] } }:=I3.kept (t':=U.toks) λb ob q=>Pp _ q;obtain⟨aa,r,ht,hz⟩:=Y.list hx;have O:=r.length;refine tail_any (ops:=[.ref a,.ref U.heap.objs.size]) ht.isList.typeIs W0.lookup ?_ (by with_unfolding_all rfl);refine wpAny_getItem_list_slice ht.isList (Heap.IsSliceOf.new ..) .none .none pk (λe=>hk (Qh e)) ?_ (by rw[Po] <;> lia);refine⟨.ref _,_,Y.laid (t':=U.toks) (o:=.lst (D8 k xs)) (λb ob q=>Pp _ q) (Pm _) ?_,rfl,q _ (Y.hok.fresh (Pm _))⟩;refine⟨P9 (Zdp k xs) hz,_,0,?_,P4 _ rfl⟩;have:=r.pick (Iz k xs.length);rw[O]at this;show Vals (D8 k xs) _;unfold D8;rw[O];simpa [slicePick,Iz] using this
def Lh {e st:PySem.Expr}{te:TE}{ts:TO}{p2 pos:Pos}(K:Pi)(he:QE X e te)(hs:QO X (some st) ts)(hK:autoParam (X.K=K) zX):QE X (.Subscript e (.Slice none none (some st) p2) pos) (Lr K te ts):=by
 subst hK;exact⟨Zoa he.run hs.run⟩
def Znn (i j:Int):Prop:=0<j/\j.natAbs.log2<9000
def Zma:OpR X (binaryOp .FloorDiv) (rI Znn λi j=>.int (i / j)):=opI λi j _ _ _ _ _ I q=>by
 have h1:(0:Int)<j:=I.1;exact floordiv_int (by lia) (by rw[Int.fdiv_eq_ediv_of_nonneg i (by lia)];exact q) (.inl (PyProof.noPylong_of_log2 I.2))
end
end L2
local macro_rules | `(tactic| walk_at "sc")=>`(tactic| exact⟨rfl,rfl,rfl,by decide +kernel,rfl,by decide +kernel,by decide +kernel⟩)
namespace L2
open PySem PySem.Spec PyProof.Rows
def Bj:0<=sizeLine:=by decide
def Dl:1<=sizeLine:=by decide
def sz13:13<=sizeLine:=by decide
def Bl:2<=sizeLine:=by decide
def Bs:3<=sizeLine:=by decide
def Hq:4<=sizeLine:=by decide
def sz9:9<=sizeLine:=by decide
def Room.m (r:Room k A)(h:autoParam (j<=k) zW):Room j A:=r.mono h
section
variable {X:Cx}{a b:Expr}{ta tb:TE}{pos:Pos}{K:Pi}
def Ak (i:Nat)(S:Bc X.N ps sc)(he:QE X e te)(hi:autoParam (X.N[i]?=some x) zX)(hx:autoParam (D4 X.env.scope x) zJ)(hs:autoParam (swapsWith e (some (.Name x pos')) pos.line X.env=pure false) zX)(hf:autoParam (X.fn x=true\/X.env.scope.names.lookup x=some .local) zQ):QS X (.Assign [.Name x pos'] e pos) (Io te (Ev i)):=Zvv S.nd hi hx he hs hf
def Ai (K:Pi)(ha:QE X a ta)(hb:QE X b tb)(hs:Zb5 b:=by exact λ_ _=>rfl)(hK:autoParam (X.K=K) zX):QE X (.Subscript a b pos) (Es (Ld K) ta tb):=O8 (k_ix K hK) ha hb hs
end
def Aw (h0:QE X e0 t0)(s0:autoParam (starEach (e0::[]) X.env=(false,eval e0 X.env)::starEach ([]) X.env) zX):QA X (e0::[]) (Dq t0 Fk):=Kr h0 Bm s0
def Ag (h0:QE X e0 t0)(h1:QE X e1 t1)(s0:autoParam (starEach (e0::e1::[]) X.env=(false,eval e0 X.env)::starEach (e1::[]) X.env) zX)(s1:autoParam (starEach (e1::[]) X.env=(false,eval e1 X.env)::starEach ([]) X.env) zX):QA X (e0::e1::[]) (Dq t0 (Dq t1 Fk)):=Kr h0 (Aw h1 s1) s0
def Bd (h0:QE X e0 t0)(h1:QE X e1 t1)(h2:QE X e2 t2)(s0:autoParam (starEach (e0::e1::e2::[]) X.env=(false,eval e0 X.env)::starEach (e1::e2::[]) X.env) zX)(s1:autoParam (starEach (e1::e2::[]) X.env=(false,eval e1 X.env)::starEach (e2::[]) X.env) zX)(s2:autoParam (starEach (e2::[]) X.env=(false,eval e2 X.env)::starEach ([]) X.env) zX):QA X (e0::e1::e2::[]) (Dq t0 (Dq t1 (Dq t2 Fk))):=Kr h0 (Ag h1 h2 s1 s2) s0
def Dj (h0:QE X e0 t0)(h1:QE X e1 t1)(h2:QE X e2 t2)(h3:QE X e3 t3)(s0:autoParam (starEach (e0::e1::e2::e3::[]) X.env=(false,eval e0 X.env)::starEach (e1::e2::e3::[]) X.env) zX)(s1:autoParam (starEach (e1::e2::e3::[]) X.env=(false,eval e1 X.env)::starEach (e2::e3::[]) X.env) zX)(s2:autoParam (starEach (e2::e3::[]) X.env=(false,eval e2 X.env)::starEach (e3::[]) X.env) zX)(s3:autoParam (starEach (e3::[]) X.env=(false,eval e3 X.env)::starEach ([]) X.env) zX):QA X (e0::e1::e2::e3::[]) (Dq t0 (Dq t1 (Dq t2 (Dq t3 Fk)))):=Kr h0 (Bd h1 h2 h3 s1 s2 s3) s0
def Eu (h0:QE X e0 t0)(h1:QE X e1 t1)(h2:QE X e2 t2)(h3:QE X e3 t3)(h4:QE X e4 t4)(s0:autoParam (starEach (e0::e1::e2::e3::e4::[]) X.env=(false,eval e0 X.env)::starEach (e1::e2::e3::e4::[]) X.env) zX)(s1:autoParam (starEach (e1::e2::e3::e4::[]) X.env=(false,eval e1 X.env)::starEach (e2::e3::e4::[]) X.env) zX)(s2:autoParam (starEach (e2::e3::e4::[]) X.env=(false,eval e2 X.env)::starEach (e3::e4::[]) X.env) zX)(s3:autoParam (starEach (e3::e4::[]) X.env=(false,eval e3 X.env)::starEach (e4::[]) X.env) zX)(s4:autoParam (starEach (e4::[]) X.env=(false,eval e4 X.env)::starEach ([]) X.env) zX):QA X (e0::e1::e2::e3::e4::[]) (Dq t0 (Dq t1 (Dq t2 (Dq t3 (Dq t4 Fk))))):=Kr h0 (Dj h1 h2 h3 h4 s1 s2 s3 s4) s0
def Ad (hN:autoParam (X.N[0]?=some x) zX)(hv:autoParam (Ip X.env.scope x) zY)(hd:autoParam ((x == ("__debug__":Str))=false) zW)(hc:autoParam ((x == ("__classdict__":Str))=false) zW):QE X (.Name x pos) (Hl 0):=qv 0 hN hv hd hc
def Af (hN:autoParam (X.N[1]?=some x) zX)(hv:autoParam (Ip X.env.scope x) zY)(hd:autoParam ((x == ("__debug__":Str))=false) zW)(hc:autoParam ((x == ("__classdict__":Str))=false) zW):QE X (.Name x pos) (Hl 1):=qv 1 hN hv hd hc
def Av (hN:autoParam (X.N[2]?=some x) zX)(hv:autoParam (Ip X.env.scope x) zY)(hd:autoParam ((x == ("__debug__":Str))=false) zW)(hc:autoParam ((x == ("__classdict__":Str))=false) zW):QE X (.Name x pos) (Hl 2):=qv 2 hN hv hd hc
def A3 (hN:autoParam (X.N[3]?=some x) zX)(hv:autoParam (Ip X.env.scope x) zY)(hd:autoParam ((x == ("__debug__":Str))=false) zW)(hc:autoParam ((x == ("__classdict__":Str))=false) zW):QE X (.Name x pos) (Hl 3):=qv 3 hN hv hd hc
def A6 (hN:autoParam (X.N[4]?=some x) zX)(hv:autoParam (Ip X.env.scope x) zY)(hd:autoParam ((x == ("__debug__":Str))=false) zW)(hc:autoParam ((x == ("__classdict__":Str))=false) zW):QE X (.Name x pos) (Hl 4):=qv 4 hN hv hd hc
def B4 {X:Cx}{x:Str}{e:Expr}{es:List Expr}{t:TA}{r:List V->Hp->VK->Prop}{pos p:Pos}{id:String}(hc:C0 X (.builtin id) r)(hm:X.mg x=none)(ha:QA X (e::es) t)(hg:autoParam (Gl X x) zX)(hv:bootBuiltins x=some (.builtin id):=by right)(hn:autoParam (x≠"__name__") zW)(hdb:autoParam ((x == ("__debug__":Str))=false) zW)(he:autoParam (starEach (e::es) X.env=(false,eval e X.env)::starEach es X.env) zX)(hpl:autoParam ((backTo pos (starEach es X.env)).any (·.1)=false) zX):QE X (.Call (.Name x p) (e::es) [] pos) (Iv r t):=Zvj hc hg hm hv ha hn hdb he hpl
def Ec (hc:C0 X (.type T) r)(hm:X.mg x=none)(ha:QA X (e::es) t)(hg:autoParam (Gl X x) zX)(hv:bootBuiltins x=some (.type T):=by right)(hn:autoParam (x≠"__name__") zW)(hdb:autoParam ((x == ("__debug__":Str))=false) zW)(he:autoParam (starEach (e::es) X.env=(false,eval e X.env)::starEach es X.env) zX)(hpl:autoParam ((backTo pos (starEach es X.env)).any (·.1)=false) zX):QE X (.Call (.Name x p) (e::es) [] pos) (Iv r t):=Zn2 hc hg hm hv ha hn hdb he hpl
def B0 (K:Pi)(hm:X.mg "len"=none)(ha:QE X e t)(s0:autoParam (starEach [e] X.env=(false,eval e X.env)::starEach [] X.env) zX)(hg:autoParam (Gl X "len") zX)(hK:autoParam (X.K=K) zX):QE X (.Call (.Name "len" p) [e] [] pos) (Iv (Oe K) (Dq t Fk)):=B4 (Zq6 K hK) hm (Aw ha s0) hg (by right) (by decide) (by decide) s0 rfl
def qcm (ho:OpR X (compareOp op) r)(ha:QE X a ta)(hb:QE X b tb)(hm:behindInMarks op b=false:=by first|exact Ou _|rfl):QE X (.Compare a [op] [b] pos) (Es r ta tb):=Zde ho ha hb hm
def Bt (ho:OpR X (compareOp op) r)(ha:QE X a ta)(hb:QE X b tb)(hm:behindInMarks op b=false:=by first|exact Ou _|rfl):QT X (.Compare a [op] [b] pos) (N1 (Es r ta tb)):=Zgb ho ha hb hm
def Fb (K:Pi)(hr:Room k X.A)(ha:QE X a ta)(hb:QE X b tb)(hK:autoParam (X.K=K) zX):QE X (.Compare a [.Eq] [b] pos) (Es (Lq K) ta tb):=Zde (Zdv K hr.u200 hK) ha hb (Ou _)
def Bk (K:Pi)(hr:Room k X.A)(ha:QE X a ta)(hb:QE X b tb)(hK:autoParam (X.K=K) zX):QT X (.Compare a [.Eq] [b] pos) (N1 (Es (Lq K) ta tb)):=Zgb (Zdv K hr.u200 hK) ha hb (Ou _)
def Ao (he:QE X e te):Fs X [.Return (some e) pos] (Zbk te):=A4 (Zuq he)
def C7 (i:Nat)(S:Bc X.N ps sc)(hii:autoParam (X.N[i]?=some x) zX)(hxi:autoParam (D4 X.env.scope x) zJ)(hfi:autoParam (X.fn x=true\/X.env.scope.names.lookup x=some .local) zQ):QG X (.Name x pos) (Ev i):=Hf S.nd hii hxi hfi
def G0 (K:Pi)(S:Bc X.N ps sc)(i j:Nat)(hii:autoParam (X.N[i]?=some xi) zX)(hxi:autoParam (D4 X.env.scope xi) zJ)(hfi:autoParam (X.fn xi=true\/X.env.scope.names.lookup xi=some .local) zQ)(hij:autoParam (X.N[j]?=some xj) zX)(hxj:autoParam (D4 X.env.scope xj) zJ)(hfj:autoParam (X.fn xj=true\/X.env.scope.names.lookup xj=some .local) zQ)(s0:autoParam ((assignEach [(.Name xi pi),(.Name xj pj)] X.env).map (·.2)=assign (.Name xi pi) X.env::(assignEach [(.Name xj pj)] X.env).map (·.2)) zX)(s1:autoParam ((assignEach [(.Name xj pj)] X.env).map (·.2)=assign (.Name xj pj) X.env::(assignEach [] X.env).map (·.2)) zX)(hc:autoParam (X.calm=true) zX)(hK:autoParam (X.K=K) zX)(hn:autoParam ((assignEach [(.Name xi pi),(.Name xj pj)] X.env).length=2) zX)(hst:autoParam ((assignEach [(.Name xi pi),(.Name xj pj)] X.env).findIdx? (·.1)=none) zX):QG X (.Tuple [(.Name xi pi),(.Name xj pj)] m pos) (Mo K 2 (Ht (Ev i) (Ht (Ev j) Oi))):=Za3 K hc (Ha (C7 i S hii hxi hfi) (Ha (C7 j S hij hxj hfj) Zah s1) s0) hK hn hst
def Lj (K:Pi)(S:Bc X.N ps sc)(i j k:Nat)(hii:autoParam (X.N[i]?=some xi) zX)(hxi:autoParam (D4 X.env.scope xi) zJ)(hfi:autoParam (X.fn xi=true\/X.env.scope.names.lookup xi=some .local) zQ)(hij:autoParam (X.N[j]?=some xj) zX)(hxj:autoParam (D4 X.env.scope xj) zJ)(hfj:autoParam (X.fn xj=true\/X.env.scope.names.lookup xj=some .local) zQ)(hik:autoParam (X.N[k]?=some xk) zX)(hxk:autoParam (D4 X.env.scope xk) zJ)(hfk:autoParam (X.fn xk=true\/X.env.scope.names.lookup xk=some .local) zQ)(s0:autoParam ((assignEach [(.Name xi pi),(.Name xj pj),(.Name xk pk)] X.env).map (·.2)=assign (.Name xi pi) X.env::(assignEach [(.Name xj pj),(.Name xk pk)] X.env).map (·.2)) zX)(s1:autoParam ((assignEach [(.Name xj pj),(.Name xk pk)] X.env).map (·.2)=assign (.Name xj pj) X.env::(assignEach [(.Name xk pk)] X.env).map (·.2)) zX)(s2:autoParam ((assignEach [(.Name xk pk)] X.env).map (·.2)=assign (.Name xk pk) X.env::(assignEach [] X.env).map (·.2)) zX)(hc:autoParam (X.calm=true) zX)(hK:autoParam (X.K=K) zX)(hn:autoParam ((assignEach [(.Name xi pi),(.Name xj pj),(.Name xk pk)] X.env).length=3) zX)(hst:autoParam ((assignEach [(.Name xi pi),(.Name xj pj),(.Name xk pk)] X.env).findIdx? (·.1)=none) zX):QG X (.Tuple [(.Name xi pi),(.Name xj pj),(.Name xk pk)] m pos) (Mo K 3 (Ht (Ev i) (Ht (Ev j) (Ht (Ev k) Oi)))):=Za3 K hc (Ha (C7 i S hii hxi hfi) (Ha (C7 j S hij hxj hfj) (Ha (C7 k S hik hxk hfk) Zah s2) s1) s0) hK hn hst
end L2
namespace K54
def lz1 {α:Type}{vs:List α}(h:vs.length=1):∃u,vs=[u]:=by
 cases vs with
 |nil=>cases h
 |cons u r=>cases R8 (Nat.succ.inj h);exact⟨u,rfl⟩
def lz2 {α:Type}{vs:List α}(h:vs.length=2):eX2 λu v=>vs=[u,v]:=by
 cases vs with
 |nil=>cases h
 |cons u r=>obtain⟨v,rfl⟩:=lz1 (Nat.succ.inj h);exact⟨u,v,rfl⟩
end K54
namespace K54
open PySem L2
noncomputable abbrev pA:List Str:=["_law_cells","_law_around","_law_names_here","_law_room","_law_sort"]
noncomputable abbrev pB:List Str:=["self","place","around"]
noncomputable abbrev pC:List Str:=["_law_form_here","_law_place","_law_bound","_law_none"]
noncomputable abbrev pD:List Str:=["_law_tree_here","_law_place","_law_form_here"]
noncomputable abbrev pE:List Str:=["_law_form_here","_law_place","_law_bound"]
noncomputable abbrev pF:List Str:=["_law_cells","_law_names_here","_law_deep"]
noncomputable abbrev pG:List Str:=["self","word","place","operands","around"]
noncomputable abbrev pH:List Str:=["self","place","number","around","things"]
noncomputable abbrev pI:List Str:=["_law_spots_here","_law_cell_here","_law_k"]
noncomputable abbrev pJ:List Str:=["self","place","operands","around"]
noncomputable abbrev pK:List Str:=["_law_cell_here","_law_around","_law_names_here","_law_sort"]
noncomputable abbrev pL:List Str:=["self","word","note","place","around"]
noncomputable abbrev pM:List Str:=["_law_number_here","_law_k"]
noncomputable abbrev pN:List Str:=["_law_cell_here","_law_k"]
noncomputable abbrev pO:List Str:=["self","many"]
noncomputable abbrev pP:List Str:=["_law_script","_law_k"]
noncomputable abbrev pQ:List Str:=["_law_tree_here","_law_record","_law_place","_law_form_here"]
noncomputable abbrev pR:List Str:=["_law_found","_law_due"]
noncomputable abbrev pS:List Str:=["_law_tree_here","_law_record","_law_one","_law_other"]
noncomputable abbrev pT:List Str:=["_law_thing_here","_law_many"]
noncomputable abbrev pU:List Str:=["_law_script","_law_names_here","_law_spots_here"]
noncomputable abbrev pV:List Str:=["_law_script"]
noncomputable abbrev pW:List Str:=["self","tree","steps"]
noncomputable abbrev pX:List Str:=["form","number"]
noncomputable abbrev pY:List Str:=["_law_tree_here","_law_cells","_law_script"]
noncomputable abbrev pZ:List Str:=["_law_tree_here","_law_cells","_law_steps"]
noncomputable abbrev qA:List Str:=["tree","place"]
noncomputable abbrev qB:List Str:=["thing","became"]
noncomputable abbrev qC:List Str:=["_law_script","_law_names_here"]
noncomputable abbrev qD:List Str:=["tree","record","place","form"]
noncomputable abbrev qE:List Str:=["word","left","right"]
noncomputable abbrev qF:List Str:=["_law_cell_here","_law_many"]
noncomputable abbrev qG:List Str:=["_law_rest","_law_k"]
noncomputable abbrev qH:List Str:=["self","thing"]
noncomputable abbrev qI:List Str:=["self","operands"]
noncomputable def An (i:Nat):Stmt:=Te.main.body.getD i (.Pass ⟨0,0,0,0⟩)
noncomputable section
abbrev Js:Stmt:=An 6
abbrev Jx:Stmt:=An 8
abbrev Jw:Stmt:=An 9
abbrev Kw:Stmt:=An 10
abbrev Nf:Stmt:=An 11
abbrev Lg:Stmt:=An 12
abbrev K9:Stmt:=An 13
abbrev Lv:Stmt:=An 15
abbrev Mt:Stmt:=An 17
abbrev K5:Stmt:=An 19
abbrev Mn:Stmt:=An 24
abbrev Jc:Stmt:=An 25
abbrev Co (i j:Nat):Stmt:=match An i with|.ClassDef _ _ _ b _ _ _ _ _ _ _=>b.getD j (.Pass ⟨0,0,0,0⟩)|s=>s
abbrev Kg:Stmt:=Co 26 0
abbrev Hr:Stmt:=Co 26 1
abbrev Kl:Stmt:=Co 26 2
abbrev Kq:Stmt:=Co 26 3
abbrev Kt:Stmt:=Co 26 4
abbrev Ku:Stmt:=Co 26 5
abbrev Hv:Stmt:=Co 26 6
abbrev Ko:Stmt:=Co 26 7
abbrev Jo:Stmt:=Co 26 8
abbrev J9:Stmt:=Co 26 9
abbrev J8:Stmt:=Co 26 10
abbrev Ke:Stmt:=Co 26 11
abbrev J7:Stmt:=Co 26 12
abbrev Kz:Stmt:=An 28
abbrev Lz:Stmt:=An 29
abbrev Le:Stmt:=An 30
abbrev Lo:Stmt:=An 32
abbrev Lw:Stmt:=An 34
abbrev Nd:Stmt:=An 35
abbrev Ju:Stmt:=An 36
abbrev M8:Stmt:=An 37
abbrev Mv:Stmt:=An 38
abbrev Mj:Stmt:=An 39
abbrev Ir:Stmt:=An 40
abbrev Mb:Stmt:=An 41
abbrev Jz:Stmt:=An 42
abbrev Mf:Stmt:=An 43
abbrev Ng:Stmt:=An 44
abbrev Ni:Stmt:=An 45
abbrev Lx:Stmt:=An 46
abbrev La:Stmt:=An 47
abbrev Ka:Stmt:=An 48
abbrev Jq:Stmt:=An 49
abbrev Ln:Stmt:=An 50
abbrev K7:Stmt:=An 51
abbrev Ik:Stmt:=An 52
abbrev L7:Stmt:=An 53
abbrev L9:Stmt:=An 54
abbrev Lb:Stmt:=An 55
abbrev Mz:Stmt:=An 56
abbrev Nh:Stmt:=An 57
abbrev My:Stmt:=An 58
abbrev Lc:Stmt:=An 59
abbrev Nc:Stmt:=An 60
abbrev Lk:Stmt:=An 61
end
structure Txt (K:Pi)(mg:Str->Option Value):Prop where
 isinstance:mg "isinstance"=none
 int:mg "int"=none
 bool:mg "bool"=none
 reversed:mg "reversed"=none
 list:mg "list"=none
 enumerate:mg "enumerate"=none
 len:mg "len"=none
 zip:mg "zip"=none
 all:mg "all"=none
 tuple:mg "tuple"=none
 range:mg "range"=none
 str:mg "str"=none
 max:mg "max"=none
 min:mg "min"=none
 dict:mg "dict"=none
structure Script (K:Pi)(H:Hp)(a:Addr):Prop where
 ex:∃ns:List Int,SqL K H a (ns.map V.int)/\ns.length<=63
def Script.same (S:Script K H a)(h:Same H H'):Script K H' a:=by
 obtain⟨ns,q,l⟩:=S.ex;exact⟨ns,h.seq q,l⟩
def big:100000<=sizeLine:=by decide
end K54
namespace K19
open PySem L2
inductive Sub:Tr->List Nat->Prop where
 |nil (t:Tr):Sub t []
 |cons {w:Str} {n:Dt} {ts:List Tr} {j:Nat} {t:Tr} {r:List Nat} (h:ts[j]?=some t) (s:Sub t r):Sub (.mk w n ts) (j::r)
noncomputable def path:Tr->List Nat->List Tr
 |t,[]=>[t]
 |.mk w n ps,k::r=>.mk w n ps::(match ps[k]? with|some u=>path u r|none=>[])
theorem N8 (h:ts[j]?=some t):path (.mk w n ts) (j::r)=.mk w n ts::path t r:=by rw[path,h]
theorem Zal (s:Sub t pl):(path t pl).length=pl.length+1:=by
 induction s with
 |nil t=>cases t;rfl
 |cons h _ I=>rw[N8 h,Qc,I,Qc]
theorem Zbq (t:Tr)(pl:List Nat):(path t pl)[0]?=some t:=by
 cases t with
 |mk w n ps=>cases pl <;> rfl
theorem Zd0 (s:Sub t pl):∀(i:Nat)(k:Nat),pl[i]?=some k->eX4 λw n ps u=>(path t pl)[i]?=some (.mk w n ps)/\ps[k]?=some u/\(path t pl)[i+1]?=some u:=by
 induction s with
 |nil t=>intro i k h;simp at h
 | @cons w n ts j u r h s Y =>
  intro i k I;rw[N8 h];cases i with
  |zero =>
   have:j=k:=by simpa using I
   subst this;exact⟨w,n,ts,u,rfl,h,by simpa using Zbq u r⟩
  |succ i =>
   obtain⟨O,Z,ps,U,a,b,c⟩:=Y i k (by simpa using I);exact⟨O,Z,ps,U,by simpa using a,b,by simpa using c⟩
noncomputable def withAt:Tr->List Nat->Tr->Tr
 |_,[],f=>f
 |.mk w n ps,k::r,f=>match ps[k]? with
  |some u=>.mk w n (ps.set k (withAt u r f))
  |none=>.mk w n ps
theorem with_cons (h:ts[j]?=some t):withAt (.mk w n ts) (j::r) f=.mk w n (ts.set j (withAt t r f)):=by rw[withAt,h]
theorem Zo4 (t f:Tr):withAt t [] f=f:=by cases t;rfl
theorem set_at {ts:List Tr}{j:Nat}{t u:Tr}(h:ts[j]?=some t):(ts.set j u)[j]?=some u:=by
 rw[Sa (Pt.mp h).1]
theorem Zvq (s:Sub t pl):∀(m k:Nat)(w:Str)(n:Dt)(ps:List Tr)(u:Tr),pl[m]?=some k->(path t pl)[m]?=some (.mk w n ps)->(path t pl)[m+1]?=some u->withAt (.mk w n ps) (pl.drop m) f=.mk w n (ps.set k (withAt u (pl.drop (m+1)) f)):=by
 intro m k w n ps u I hp hu;obtain⟨U,Z,O,Y,a,b,c⟩:=Zd0 s m k I;rw[hp]at a;cases a;rw[hu]at c;cases c;have hl:=(Pt.mp I);obtain⟨g,e⟩:=hl;rw[So g,e,with_cons b]
end K19
namespace K54
open PySem L2
noncomputable def Bq (wd:Str):Option (List Int):=if wd∈(["plus","minus","less","call"]:List Str) then some [1,0] else if wd∈(["if","let"]:List Str) then some [0] else none
noncomputable def WA:List Str:=["gap","fn","rec","if"]
structure Mc (K:Pi)(C:Addr):Prop where
 cl:Cls K C
 nf:NoAttr K C "forms"
 nr:NoAttr K C "rows"
 nw:NoAttr K C "waiting"
 nt:NoAttr K C "things"
 ns:NoAttr K C "steps"
def Zbg (L:Ml)(n:Int):(L.fs n).lookup ("forms":Str)=some (V.ref L.fd):=rfl
def K2 (L:Ml)(n:Int):(L.fs n).lookup ("rows":Str)=some (V.ref L.rd):=rfl
def Jg (L:Ml)(n:Int):(L.fs n).lookup ("waiting":Str)=some (V.ref L.wd):=rfl
def Hg (L:Ml)(n:Int):(L.fs n).lookup ("things":Str)=some (V.ref L.td):=rfl
def K0 (L:Ml)(n:Int):(L.fs n).lookup ("steps":Str)=some (V.int n):=rfl
def Zhz (L:Ml)(n k:Int):Aq "steps" (.int k) (L.fs n)=L.fs k:=rfl
def Zoz (L:Ml)(n:Int)(t:Addr):Aq "things" (.ref t) (L.fs n)=(L.with t).fs n:=rfl
def Dp (L:Ml)(n:Int):(L.fs n).lookup ("make_steps":Str)=none/\(L.fs n).lookup ("new_row":Str)=none/\(L.fs n).lookup ("thing_of_leaf":Str)=none/\(L.fs n).lookup ("come_to":Str)=none/\(L.fs n).lookup ("go_further":Str)=none/\(L.fs n).lookup ("taken_things":Str)=none/\(L.fs n).lookup ("thing_at_the_end":Str)=none/\(L.fs n).lookup ("thing_of_form":Str)=none:=⟨rfl,rfl,rfl,rfl,rfl,rfl,rfl,rfl⟩
def Zi5 {ws:List Str}:(ws.map V.str).all Db=true:=by rw[List.all_map];exact Sg.mpr λ_ _=>rfl
def Il {t:Str}{ws:List Str}:Ff (.str t) (ws.map V.str)=decide (t∈ws):=by
 unfold Ff;rw[List.any_map];by_cases I:t∈ws
 ·rw[dH I];exact List.any_eq_true.mpr ⟨t,I,by show(t == t)=true;simp⟩
 ·rw[dI I];exact Bool.eq_false_iff.mpr λh=>by
   obtain⟨x,O,e⟩:=List.any_eq_true.mp h;have e:(x == t)=true:=e;have e:x=t:=by simpa using e
   exact I (by rw[<- e];exact O)
end K54
local macro_rules | `(tactic| walk_at "r1")=>do
  let t0:=(("s_seq s_asg s_ret s_ifS s_test s_op s_c s_cons s_nil s_call s_cb s_gname s_ex s_exi s_drop s_next s_un s_tB s_not s_and s_or s_andV s_orV s_notV s_vals s_tup s_lst s_bm s_bm0 s_sl s_po s_po0 s_gcons s_gnil s_gsub s_isN s_notN s_rI0 s_rU s_add_int s_lt s_le iteT iteF s_comp s_for s_rng1 s_rng3 s_exr s_iany s_irev s_ienum s_listen s_listrev s_izip s_ienumT s_listzp s_ipI s_yes s_turn s_int_b s_intb s_truth s_chain s_nt s_nf".splitOn " ").map λs=>Lean.mkIdent (.str `L2 s)).toArray
  let t1:=(("s_var s_aug s_eq s_ne s_neb".splitOn " ").map λs=>Lean.mkIdent (.str `L2 s)).toArray
  `(tactic| (first|(with_reducible first $[|refine $t0 ?_]*)|(first $[|((with_reducible refine' $t1 ?e ?_); (case e=>exact rfl))]*)|((with_reducible refine' L2.s_rI ?c ?_); (case c=>first|decide|exact⟨by decide,by decide⟩|exact⟨by decide,by decide,by decide⟩))|((with_reducible refine' L2.s_mul_r ?a ?b ?_); (case a=>decide); (case b=>decide))|((with_reducible refine' L2.s_mul_l ?a ?b ?_); (case a=>decide); (case b=>decide))|((with_reducible refine' L2.s_exr3 ?e ?_); (case e=>decide))))
local macro_rules | `(tactic| walk_at "r")=>`(tactic| (repeat walk_at "r1"))
local macro_rules | `(tactic| left)=>`(tactic| walk_at "r")
namespace K54
open PySem L2
abbrev Fu (K:PySem.W.Frag)(n:Str):=Fun K n n
section
variable {P:Program}{w:World}{K:Pi}{mg:Str->Option Value}{base:Heap}
def Bu (a b:Str):decide (V.str a=V.str b)=decide (a=b):=by
 by_cases h:a=b
 ·rw[dH h,dH (by rw[h])]
 ·rw[dI h,dI (λx=>h (V.str.inj x))]
noncomputable def L8 (ops:List (Str×V)):Bool:=ops.all λx=>decide (x.1=("num":Str))
def Zj3 (K:Pi):Sp:=λvs H Q _=>eX3 λ(o:Addr)(ov:List V)(ops:List (Str×V))=>vs=[.ref o]/\H o=some (.lst ov)/\Al (ThAt K H) ov ops/\ops.length<=1000/\∀H',Same H H'->Q (.bl (L8 ops)) H'
def Zvi:(["thing"]:List Str).Nodup:=by right
def Zoq:Bc ["things"] ["things"] (A7 Mn):=by walk_at "sc"
def Zl4 (F:Fu K "are_numbers" Mn f fd)(T:Txt K mg):FnOk P w K mg base As 1 f fd ["things"] (Zj3 K):=by
 refine F.okq Zoq (λvs H Q E h=>?_) (λaa A outer s H vs Q E hr h=>?_)
 ·obtain⟨o,ov,ops,rfl,_⟩:=h;rfl
 ·obtain⟨o,ov,ops,rfl,ho,al,hl,q⟩:=h;refine⟨_,Ao (B4 (Zlr K rfl) T.all (Aw (Zci (N:=["thing"]) (σ0:=Ge 1 []) rfl (Mg rfl (by right) (by right) (by right)) (Ep K Ad) (Lf rfl (by rfl)) (λ_ _ _ _=>Hf (i:=0) Zvi rfl (Or.inl rfl)) (λ_ _ _ _=>Nz) (λ_ _ _ _=>Zde (Zdv K hr.u200) (Ai K Ad Aa) Am (Ou _))))),?_⟩;have bg:=big;have Y:=al.1;left;refine .inl ⟨o,rfl,⟨_,SqL.of ho⟩,λD hD=>?_⟩;refine Zbm (K:=K) (a:=o) (xs:=ov) (Pv:=λi ys I H'=>∃Z,I=[Z]/\ys=((ops.take i).map λx:Str×V=>decide (x.1=("num":Str))).map V.bl/\Same H H') ⟨none,rfl,rfl,Same.upd hD⟩ ?_ ?_ ?_
  ·rintro i ys I H' _ ⟨Z,_,_,U⟩;exact SqL.of (U _ _ ho)
  ·rintro i x ys I H' hx O ⟨Z,rfl,rfl,U⟩;obtain⟨y,hy,_,a,rfl,qa⟩:=al.get hx;have hi:i<ov.length:=(Pt.mp hx).1;left;refine A1 (U.tup qa) rfl ?_;left;rw[Bu];refine⟨_,O,by rw[Pq,Pq,Qq];lia,_,Ac,_,rfl,?_,U.over hD⟩;rw[Sv,hy,Vl,Ql,Ql];rfl
  ·rintro ys I H' O ⟨Z,rfl,rfl,U⟩;left;refine⟨D,_,rfl,SqL.of O,?_⟩;left;have q':=q H' U;rw[Y,Vt];unfold L8 at q';rw[List.all_map];exact q'
noncomputable def Bb (bc:List (Str×V))(x:Str×V):Str×V:=if x.1="row" then (match x.2 with|.int k=>(bc[k.toNat]?).getD x|_=>x) else x
def Mm (n:Nat)(x:Str×V):Prop:=x.1="row" -> ∃k:Nat,x.2=.int (k:Nat)/\k<n
def Zes (K:Pi):Sp:=λvs H Q _=>eX5 λ(tv:V)(b:Addr)(bv:List V)(x:Str×V)(bc:List (Str×V))=>vs=[tv,.ref b]/\ThAt K H tv x/\SqL K H b bv/\Al (ThAt K H) bv bc/\Mm bc.length x/\∀v,ThAt K H v (Bb bc x)->Q v H
def Znr:Bc qB qB (A7 Kz):=by walk_at "sc"
def Zl9 (F:Fu K "thing_now" Kz f fd)(T:Txt K mg):FnOk P w K mg base As 1 f fd qB (Zes K):=by
 refine F.okq Znr (λvs H Q E h=>?_) (λaa A outer s H vs Q E hr h=>?_)
 ·obtain⟨tv,b,Z,x,bc,rfl,_⟩:=h;rfl
 ·obtain⟨tv,b,Z,x,bc,rfl,ht,hb,al,ok,q⟩:=h;refine⟨_,Ao (Pb (Bk K hr (Ai K Ad Aa) Am) (Ai K Af (Ai K Ad Aa)) Ad),?_⟩;obtain⟨hf,a,rfl,U⟩:=ht;left;unfold Mr;left;refine A1 U rfl ?_;left;rw[Bu];by_cases O:x.1="row"
  ·obtain⟨k,ek,Y⟩:=ok O;have I:k<Z.length:=by rw[al.1];exact Y
   have hx:=al.2 k Z[k] bc[k] (Pk I) (Pk Y);have en:Bb bc x=bc[k]:=by
    unfold Bb;rw[if_pos O,ek];simp[Pk Y]
   rw[dH O];left;refine A1 U rfl ?_;rw[ek];refine Br hb (Cs (Pk I)) ?_;exact q _ (by rw[en];exact hx)
  ·rw[dI O];left;refine q _ ?_;unfold Bb;rw[if_neg O];exact⟨hf,a,rfl,U⟩
noncomputable def C4 (rs:List Rx)(x:Str×V):Bool:=match x with
 | (w,.int k)=>decide (w="row") && (match rs[k.toNat]? with|some r=>decide (r.wd∈(["fn","rec"]:List Str))|none=>false)
 |_=>false
def Of (rs:List Rx)(x:Str×V):Prop:=x.1="row" -> ∃k:Nat,x.2=.int (k:Nat)/\k<rs.length
def Zij (K:Pi):Sp:=λvs H Q _=>eX6 λ(v:V)(x:Str×V)(r:Addr)(rv:List V)(A:Addr->Prop)(rs:List Rx)=>vs=[v,.ref r]/\ThAt K H v x/\x.1="row"/\Of rs x/\H r=some (.lst rv)/\Al (RwAt K A H) rv rs/\∀H',Same H H'->Q (.bl (C4 rs x)) H'
def Zvz:Bc ["thing","rows"] ["thing","rows"] (A7 Mt):=by walk_at "sc"
def Zv8 (F:Fu K "is_finished" Mt f fd)(T:Txt K mg):FnOk P w K mg base As 1 f fd ["thing","rows"] (Zij K):=by
 refine F.okq Zvz (λvs H Q E h=>?_) (λaa A outer s H vs Q E hr h=>?_)
 ·obtain⟨v,x,r,Z,A,rs,rfl,_⟩:=h;rfl
 ·obtain⟨v,x,r,Z,B,rs,rfl,hx,O,ok,er,al,q⟩:=h;refine⟨_,Ao (Zqu (qcm (Ft K hr.u200) (Ai K Ad Aa) Am) (Go (qcm (G6 K) (Ai K (Ai K Af (Ai K Ad Aa)) Aa) (Aj (Ag Am Am))))),?_⟩;obtain⟨hf,a,rfl,qa⟩:=hx;obtain⟨k,U,hk⟩:=ok O;obtain⟨xw,xv⟩:=x;have O:xw="row":=O;have U:xv=.int (k:Nat):=U;subst O U;have I:k<Z.length:=by rw[al.1];exact hk
  obtain⟨y,hy,a2,p2,o2,e2,ov,ev,h1,h2,_⟩:=al.get (Pk I);have ef:C4 rs ("row",.int (k:Nat))=decide (y.wd∈(["fn","rec"]:List Str)):=by
   unfold C4;simp only[Qz,hy,decide_true,Bool.true_and]
  rw[ef]at q;left;refine A1 qa rfl ?_;left;rw[dH (Eq.refl _)];left;refine A1 qa rfl ?_;left;refine Br (SqL.of er) (Cs (Pk I)) ?_;rw[h1];left;refine A1 h2 rfl ?_;left;refine⟨Bl,λp1 Y=>?_⟩;refine Fn (.inr (SqT.of Ac)) rfl rfl ?_;rw[if_neg Pu,show Ff (.str y.wd) [.str "fn",.str "rec"]=decide (y.wd∈(["fn","rec"]:List Str)) from Il (ws:=["fn","rec"])];exact q _ (Same.upd Y)
def Zj5 (K:Pi)(C:Addr):Sp:=λvs H Q _=>eX6 λ(v:V)(x:Str×V)(HB:Hp)(kvs:List (List Ax×V))(L:Ml)(S:MS)=>vs=[.ref L.m,v]/\MAt K HB C kvs L H S/\ThAt K H v x/\Of S.rows x/\∀H',Same H H'->Q (.bl (C4 S.rows x)) H'
def Zmc:Bc qH qH (A7 J8):=by walk_at "sc"
def Zph (F:Fun K "is_function" "Machine.is_function" J8 f fd)(T:Txt K mg)(O:Mc K C)(cS:A5 P w K mg base 1 "is_finished" ["thing","rows"] (Zij K)):FnOk P w K mg base As 2 f fd qH (Zj5 K C):=by
 refine F.okq Zmc (λvs H Q E h=>?_) (λaa A outer s H vs Q E Y h=>?_)
 ·obtain⟨v,x,HB,kvs,L,S,rfl,_⟩:=h;rfl
 ·obtain⟨v,x,HB,kvs,L,S,rfl,M,U,ok,q⟩:=h;refine⟨_,Ao (F6 (Fb K Y (Ai K Af Aa) Am) (Go (Az cS Y.m (Ag Af (Ce K Ad))))),?_⟩;obtain⟨hf,a,rfl,qa⟩:=id U;obtain⟨rv,er,ar,Z⟩:=M.rows;left;refine A1 qa rfl ?_;left;rw[Bu];by_cases I:x.1="row"
  ·rw[dH I];left;refine⟨_,rfl,L.m,C,L.dx,_,_,rfl,M.ins,O.cl,O.nr,K2 L S.steps,?_⟩;left;exact⟨_,x,L.rd,rv,_,S.rows,rfl,U,I,ok,er,ar.mono λv x h=>h.1,q⟩
  ·rw[dI I];have e:C4 S.rows x=false:=by
    unfold C4;split
    ·simp only at I;rw[dI I];rfl
    ·rfl
   rw[e]at q;left;exact q H (Same.refl _)
noncomputable def Da (wd:Str)(d:Dt)(n:Int):List Str :=
 if wd="fn" then (match d with|.flat (.str z)=>[z]|_=>[])
 else if wd="rec" then (match d with|.tup [.flat (.str y),.flat (.str z)]=>[y,z]|_=>[])
 else if wd="let"/\n=1 then (match d with|.flat (.str z)=>[z]|_=>[])
 else []
def Gf (wd:Str)(d:Dt):Prop:=(wd="fn"\/wd="let" -> ∃z,d=.flat (.str z))/\(wd="rec" -> eX2 λy z=>d=.tup [.flat (.str y),.flat (.str z)])
def Zky (K:Pi):Sp:=λvs H Q _=>eX5 λ(v:V)(wd:Str)(d:Dt)(ts:List Tr)(n:Int)=>vs=[v,.int n]/\TrAt K H v (.mk wd d ts)/\Gf wd d/\∀l H',Same H H'->H l=none->H' l=some (.lst ((Da wd d n).map V.str))->Q (.ref l) H'
def Zlj:Bc pX pX (A7 K5):=by walk_at "sc"
def Ztv (F:Fu K "names_bound" K5 f fd)(T:Txt K mg):FnOk P w K mg base As 1 f fd pX (Zky K):=by
 refine F.okq Zlj (λvs H Q E h=>?_) (λad A outer s H vs Q E hr h=>?_)
 ·obtain⟨v,wd,d,ts,n,rfl,_⟩:=h;rfl
 ·obtain⟨v,wd,d,ts,n,rfl,ht,ok,q⟩:=h;refine⟨_,Ab (Ay (Bk K hr (Ai K Ad Aa) Am) (Ao (Bp (Aw (Ai K Ad Aa)))) A2)
   (Ab (Ay (Bk K hr (Ai K Ad Aa) Am) (Ao (Ec (Zav K) T.list (Aw (Ai K Ad Aa)))) A2) (Ab (Ay (QW.qt (D3 (Bk K hr (Ai K Ad Aa) Am) (D7 (Bk K hr Af Aa)))) (Ao (Bp (Aw (Ai K Ad Aa)))) A2) (Ao (Bp Bm)))),?_⟩
  cases ht with
  | @mk b pp _ nv _ vs _ Y hn ac hl ae =>
  have flat:∀z,d=.flat (.str z)->nv=.str z:=by
   intro z e;rcases hn with⟨_,h⟩|⟨_,_,_,_,_,h⟩
   ·rw[e]at h;injection h with h;exact h.symm
   ·rw[e]at h;cases h
  unfold Da at q;left;refine A1 Y rfl ?_;left;rw[Bu];refine Bf (λh=>?_) (λh=>?_)
  ·have h:wd="fn":=dJ h;obtain⟨z,rfl⟩:=ok.1 (.inl h);have:=flat z rfl;subst this;rw[if_pos h]at q;left;refine A1 Y rfl ?_;left;refine⟨Dl,λl I=>?_⟩;exact q l _ (Same.upd I) I Ac
  have h:¬wd="fn":=λx=>h (dH x);rw[if_neg h]at q;left;refine A1 Y rfl ?_;left;rw[Bu];refine Bf (λh=>?_) (λh=>?_)
  ·have h:wd="rec":=dJ h;obtain⟨y,z,rfl⟩:=ok.2 h;rw[if_pos h]at q;obtain⟨a,Z,rfl,qa,aa⟩:eX2 λa Z=>nv=.ref a/\SqT K H a Z/\Z=[.str y,.str z]:=by
    rcases hn with⟨_,h⟩|⟨a,Z,e,qa,_,h⟩
    ·cases h
    ·refine⟨a,Z,e,qa,?_⟩;injection h with h;obtain⟨u1,u2,rfl⟩:=lz2 (vs:=Z) (by first|exact h|(have:=congrArg Sl h;rw[Pq]at this;exact this.symm));simp only[Qr,Uy,Vz,Dt.flat.injEq,and_true]at h;rw[h.1,h.2]
   subst aa;left;refine A1 Y rfl ?_;left;refine⟨a,_,rfl,.inr qa,λl I=>?_⟩;exact q l _ (Same.upd I) I Ac
  have h:¬wd="rec":=λx=>h (dH x);rw[if_neg h]at q;left;refine A1 Y rfl ?_;left;rw[Bu];by_cases O:wd="let"
  ·rw[dH O];left;by_cases U:n=1
   ·rw[dH (by rw[U])];obtain⟨z,rfl⟩:=ok.1 (.inr O);have:=flat z rfl;subst this;rw[if_pos ⟨O,U⟩]at q;left;refine A1 Y rfl ?_;left;refine⟨Dl,λl I=>?_⟩;exact q l _ (Same.upd I) I Ac
   ·rw[dI (λh=>U (V.int.inj h))];rw[if_neg (λh=>U h.2)]at q;left;refine⟨Bj,λl I=>?_⟩;exact q l _ (Same.upd I) I Ac
  ·rw[dI O];rw[if_neg (λh=>O h.1)]at q;left;refine⟨Bj,λl I=>?_⟩;exact q l _ (Same.upd I) I Ac
def Nr (K:Pi)(C:Addr):Sp:=λvs H Q _=>eX13 λ(wd:Str)(p o e:Addr)(pl:List Nat)(ov ev:List V)(ops:List (Str×V))(ar:List (Str×Str×V))(HB:Hp)(kvs:List (List Ax×V))(L:Ml)(S:MS)=>vs=[.ref L.m,.str wd,.ref p,.ref o,.ref e]/\MAt K HB C kvs L H S/\H p=some (.tup (A9 pl))/\SqL K H o ov/\Al (ThAt K H) ov ops/\SqL K H e ev/\Al (PrAt K H) ev ar/\S.rows.length<10000 /\
 ∀v H',SameM L H H'->MAt K HB C kvs L H' { S with rows:=S.rows++[⟨wd,Ap pl,ops,if wd∈WA then ar else []⟩] }->ThAt K H' v ("row",.int (S.rows.length:Nat))->Q v H'
def Zjv:Bc ["self","word","place","operands","around","kept"] pG (A7 Kl):=by walk_at "sc"
def viaV {t:TE}{σ:St}{H:Hp}{Q:VK}(R:V->Hp->Prop)(h2:∀x H',R x H'->Q x H')(h1:∀Q':VK,(∀x H',R x H'->Q' x H')->t σ H Q'):t σ H Q:=h1 Q h2
def Zom (F:Fun K "new_row" "Machine.new_row" Kl f fd)(T:Txt K mg)(O:Mc K C)(kX:F4 mg "WORDS_WITH_AROUND" (.ref aw))(hwa:∀H,SqT K H aw (WA.map V.str)):FnOk P w K mg base As 1 f fd pG (Nr K C):=by
 refine F.okq Zjv (λvs H Q E h=>?_) (λas A outer s H vs Q E hr h=>?_)
 ·obtain⟨wd,p,o,e,pl,ov,ev,ops,ar,HB,kvs,L,S,rfl,_⟩:=h;rfl
 ·obtain⟨wd,p,o,e,pl,ov,ev,ops,ar,HB,kvs,L,S,rfl,M,hp,ho,ae,he,al,hz,q⟩:=h;refine⟨_,Ab (Ak 5 Zjv (Pb (Bt (G6 K) Af (Hh kX)) (Ec (Zav K) T.list (Aw A6)) (Bp Bm)))
   (Ab (B2 (Cn K Pw Qf Qg Cy (Ce K Ad) (Aw (Aj (Dj Af Av (Ec (Zav K) T.list (Aw A3)) (qv 5)))))) (Ao (Aj (Ag Am (Ae Du (B0 K T.len (Ce K Ad)) Aa))))),?_⟩
  have bg:=big;left;have kept:Al (PrAt K H) (if wd∈WA then ev else []) (if wd∈WA then ar else []):=by
   by_cases hw:wd∈WA
   ·rw[if_pos hw,if_pos hw];exact al
   ·rw[if_neg hw,if_neg hw];exact .nil
  refine viaV (R:=λx H'=>∃k,x=.ref k/\H k=none/\H'=upd H k (.lst (if wd∈WA then ev else []))) ?_ (λQ' hQ=>?_)
  ·rintro _ _ ⟨k,rfl,hk,rfl⟩;have Z:Same H (upd H k (.lst (if wd∈WA then ev else []))):=Same.upd hk;have e1:upd H k (.lst (if wd∈WA then ev else [])) k=some (.lst (if wd∈WA then ev else [])):=Ac;revert Z e1 kept;generalize (if wd∈WA then ev else [])=kv;generalize (if wd∈WA then ar else [])=ka at q ⊢;generalize upd H k (.lst kv)=H1;intro kept Z e1;have M1:=M.new Z;obtain⟨Y,er,ag,ap⟩:=M1.rows;left;refine⟨_,rfl,L.m,C,L.dx,_,_,rfl,M1.ins,O.cl,O.nr,K2 L S.steps,?_⟩;refine B7 (SqL.of er) ?_;left;refine⟨_,ov,rfl,.inl (Z.seq ho),λo2 U=>?_⟩;have s2:Same H1 (upd H1 o2 (.lst ov)):=Same.upd U;have e2:upd H1 o2 (.lst ov) o2=some (.lst ov):=Ac;have aa:=s2 _ _ e1;revert s2 e2 aa;generalize upd H1 o2 (.lst ov)=H2;intro s2 e2 aa;left;refine⟨Hq,λr hr=>?_⟩;obtain⟨H3,s3,e3,z9⟩:=Df hr (.tup [.str wd,.ref p,.ref o2,.ref k]);rw[z9];have ad:=s2.trans s3;have I:=Z.trans ad;have M3:=M.new I;have ao:Y.length=S.rows.length:=ag.1;left;refine Cz (ad _ _ er) (by lia) ?_;obtain⟨aj,af,_,am⟩:=M.rows;obtain⟨au,ah,_⟩:=M.wait;obtain⟨aq,ak,_⟩:=M.things;have nb:∀b,H b=none->¬(L.A b\/HB b≠none):=by
    intro b hb hx;rcases hx with(z|z|z)|z
    ·rw[z,af]at hb;cases hb
    ·rw[z,ah]at hb;cases hb
    ·rw[z,ak]at hb;cases hb
    ·cases h:HB b with
     |none=>exact z h
     |some ob=>rw[M.base _ _ h]at hb;cases hb
   have ai:RwO K (λb=>L.A b\/HB b≠none) H3 (.ref r) (⟨wd,Ap pl,ops,ka⟩,o2,k):=⟨r,p,ov,kv,rfl,SqT.of e3,by rw[Fh];exact SqT.of (I _ _ hp),s3 _ _ e2,ae.mono (ThAt.same I.t),s3 _ _ aa,kept.mono (PrAt.same I.t),nb _ (Z.free U),nb _ hk,λz=>by rw[show o2=k from z,e1]at U;cases U⟩;have an:SepR K (λb=>L.A b\/HB b≠none) H3 (Y++[.ref r]) (S.rows++[⟨wd,Ap pl,ops,ka⟩]):=SepR.add (H:=H) (by rw[show Y=aj from by have h:=Z _ _ af;rw[er]at h;cases h;rfl];exact am) I (Z.free U) hk ai;have M4:=M3.setRows (rv:=Y++[.ref r]) (rs:=S.rows++[⟨wd,Ap pl,ops,ka⟩]) ((ag.mono (RwX.same ad.a)).snoc ⟨⟨r,p,o2,k,ov,kv,rfl,SqT.of e3,by rw[Fh];exact SqT.of (I _ _ hp),s3 _ _ e2,ae.mono (ThAt.same I.t),s3 _ _ aa,kept.mono (PrAt.same I.t),nb _ (Z.free U),nb _ hk⟩,r,p,o2,k,rfl,SqT.of e3,by rw[Fh];exact I _ _ hp⟩) an;have e4:SameM L H (upd H3 L.rd (.lst (Y++[.ref r]))):=(I.m L).trans (SameM.upd (.inr (.inl rfl)));have ac:upd H3 L.rd (.lst (Y++[.ref r])) L.rd=some (.lst (Y++[.ref r])):=Ac;revert M4 e4 ac;generalize upd H3 L.rd (.lst (Y++[.ref r]))=H4;intro M4 e4 ac;left;refine⟨_,rfl,L.m,C,L.dx,_,_,rfl,M4.ins,O.cl,O.nr,K2 L S.steps,?_⟩;left;refine Cd (SqL.of ac) ?_;left;refine⟨Bl,λt ht=>?_⟩;have e5:(((Y++[V.ref r]).length:Nat):Int)-1=((S.rows.length:Nat):Int):=by rw[Pn,Pz];lia
   rw[e5];have s5:Same H4 (upd H4 t (.tup [.str "row",.int (S.rows.length:Nat)])):=Same.upd ht;exact q _ _ (e4.trans (s5.m L)) (M4.new s5) ⟨rfl,t,rfl,SqT.of Ac⟩
  ·unfold Mr;left;refine Fn (.inr (hwa _)) rfl Zi5 ?_;rw[if_neg Pu,Il];refine⟨_,rfl,?_⟩;refine Bf (λh=>?_) (λh=>?_)
   ·have h:wd∈WA:=dJ h;left;refine⟨_,ev,rfl,.inl he,λk hk=>?_⟩;exact hQ _ _ ⟨k,rfl,hk,by rw[if_pos h]⟩
   ·have h:¬wd∈WA:=λx=>h (dH x);left;refine⟨Bj,λk hk=>?_⟩;exact hQ _ _ ⟨k,rfl,hk,by rw[if_neg h]⟩
noncomputable def Cj (ns:List Str)(xs:List (Str×V)):List (Str×Str×V):=ns.zip xs
noncomputable def Ky (S:MS)(wd:Str)(d:Dt)(pl:List Nat)(n:Nat)(ar:List (Str×Str×V))(xs:List (Str×V)):MS:={ S with wait:=S.wait++[⟨pl++[n],ar++Cj (Da wd d n) xs,false⟩] }
def Zbl (K:Pi)(C:Addr):Sp:=λvs H Q _=>eX17 λ(p e o:Addr)(n:Nat)(pl:List Nat)(ev ov:List V)(ar:List (Str×Str×V))(xs:List (Str×V))(HB:Hp)(kvs:List (List Ax×V))(L:Ml)(S:MS)(v:V)(wd:Str)(d:Dt)(ts:List Tr)=>vs=[.ref L.m,.ref p,.int (n:Nat),.ref e,.ref o]/\MAt K HB C kvs L H S/\H p=some (.tup (A9 pl))/\H e=some (.lst ev)/\Al (PrAt K H) ev ar/\H o=some (.lst ov)/\Al (ThAt K H) ov xs/\Ck kvs (D6 pl)=some v/\TrAt K H v (.mk wd d ts)/\Gf wd d/\pl.length<=2000/\ar.length<=9000/\S.wait.length<9000 /\
 ∀H',SameM L H H'->MAt K HB C kvs L H' (Ky S wd d pl n ar xs)->Q .non H'
def Zk5:Bc ["self","place","number","around","things","names"] pH (A7 J7):=by walk_at "sc"
def Zo2 (wd:Str)(d:Dt)(n:Int):(Da wd d n).length<=2:=by
 unfold Da
 repeat' split
 all_goals simp
def Zpx (F:Fun K "go_within" "Machine.go_within" J7 f fd)(T:Txt K mg)(O:Mc K C)(cQ:A5 P w K mg base 1 "names_bound" ["form","number"] (Zky K)):FnOk P w K mg base As 2 f fd pH (Zbl K C):=by
 refine F.okq Zk5 (λvs H Q E h=>?_) (λax A outer s H vs Q E hr h=>?_)
 ·obtain⟨p,e,o,n,pl,ev,ov,ar,xs,HB,kvs,L,S,v,wd,d,ts,rfl,_⟩:=h;rfl
 ·obtain⟨p,e,o,n,pl,ev,ov,ar,xs,HB,kvs,L,S,v,wd,d,ts,rfl,M,hp,he,ad,ho,ac,hv,ht,bk,av,ay,aq,q⟩:=h;refine⟨_,Ab (Ak 5 Zk5 (Az cQ hr.m (Ag (Np hr.u1 (Ce K Ad) Af (λ_ _=>rfl)) Av)))
   (A4 (B2 (Cn K Pw Qf Qg Cy (Ce K Ad) (Aw (Aj (Bd (Ae (K4 K) Af (Aj (Aw Av))) (Ae (B5 K) A3 (Zo5 K (by rfl) T.list (by rfl) T.zip (Ag (qv 5) A6))) Cw)))))),?_⟩
  have bg:=big;have bn:=Zo2 wd d n;left;refine⟨_,rfl,L.m,C,L.dx,_,_,rfl,M.ins,O.cl,O.nf,Zbg L S.steps,_,rfl,L.fd,v,rfl,?_,?_⟩
  ·rw[<- hv];refine DGet.t M.frm ?_;rw[Nn];exact hp
  left;refine⟨v,wd,d,ts,n,rfl,ht,bk,λl H1 s1 hl e1=>?_⟩;have M1:=M.new s1;obtain⟨wv,ew,aw⟩:=M1.wait;have a3:=aw.1;left;refine⟨_,rfl,L.m,C,L.dx,_,_,rfl,M1.ins,O.cl,O.nw,Jg L S.steps,?_⟩;refine B7 (SqL.of ew) ?_;left;refine⟨Dl,λp2 an=>?_⟩;obtain⟨H2,s2,e2,z9⟩:=Df an (.tup [.int (n:Nat)]);rw[z9];refine Zcr (s2 _ _ (s1 _ _ hp)) e2 (by unfold A9;rw[Pq,Pz];lia) λp3 H3 s3 e3=>?_;have af:=s1.trans (s2.trans s3);left;refine Zwe ?_;left;refine⟨l,o,_,ov,rfl,SqL.of (s3 _ _ (s2 _ _ e1)),SqL.of (af _ _ ho),λz zs H4 a0 s4 ae ao ez=>?_⟩;have U:=af.trans s4;have ai:=U _ _ he;have am:Al (PrAt K H4) zs (Cj (Da wd d n) xs):=by
   have aj:=ac.1;refine⟨by unfold Cj;rw[ae,Pq,List.length_zip,aj],λj y x f1 f2=>?_⟩;obtain⟨t,u1,u2,rfl,g1,g2,g3⟩:=ao j y f1;unfold Cj at f2;rw[List.getElem?_zip_eq_some]at f2;rw[Qm,f2.1]at g1;cases g1;exact⟨t,u2,rfl,SqT.of g3,ThAt.same U.t _ _ (ac.2 j _ _ g2 f2.2)⟩
  have ap:zs.length<=2:=by rw[ae,Pq];lia
  have as:=ad.1;refine Ig ai ez (by lia) λe5 I=>?_;have s5:Same H4 (upd H4 e5 (.lst (ev++zs))):=Same.upd I;have Z:upd H4 e5 (.lst (ev++zs)) e5=some (.lst (ev++zs)):=Ac;have ag:¬L.A e5:=by
   have M4:=M.new U;obtain⟨rv,er,_⟩:=M4.rows;obtain⟨au,ah,_⟩:=M4.wait;obtain⟨tv,et,_⟩:=M4.things;rintro(y|y|y)
   ·rw[y,er]at I;cases I
   ·rw[y,ah]at I;cases I
   ·rw[y,et]at I;cases I
  revert s5 Z;generalize upd H4 e5 (.lst (ev++zs))=H5;intro s5 Z;have al:=U.trans s5;left;refine⟨Bs,λr ak=>?_⟩;obtain⟨H6,s6,e6,z9⟩:=Df ak (.tup [.ref p3,.ref e5,.bl false]);rw[z9];have Y:=al.trans s6;have aa:=s2.trans (s3.trans (s4.trans (s5.trans s6)));left;refine Cz (aa _ _ ew) (by lia) ?_;have M6:=M.new Y;have M7:=M6.setWait (wv:=wv++[.ref r]) (ws:=S.wait++[⟨pl++[n],ar++Cj (Da wd d n) xs,false⟩]) ((aw.mono (WtAt.same aa.a)).snoc ⟨r,p3,e5,ev++zs,rfl,SqT.of e6,?_,s6 _ _ Z,?_,ag⟩)
  ·left;exact q _ ((Y.m L).trans (SameM.upd (.inr (.inr (.inl rfl))))) M7
  ·have e9:=s6 _ _ (s5 _ _ (s4 _ _ e3));rw[e9];unfold A9;rw[Ql];rfl
  ·exact(ad.mono (PrAt.same Y.t)).append (am.mono (PrAt.same (s5.trans s6).t))
def Mp (L:Ml)(n:Int):(L.fs n).lookup ("go_within":Str)=none/\(L.fs n).lookup ("is_function":Str)=none/\(L.fs n).lookup ("call":Str)=none:=⟨rfl,rfl,rfl⟩
def Zf0 (K:Pi)(C:Addr):Sp:=λvs H Q _=>eX14 λ(o:Addr)(ov:List V)(k:Nat)(xs:List (Str×V))(r:Rx)(pl:List Nat)(HB:Hp)(kvs:List (List Ax×V))(L:Ml)(S:MS)(v:V)(wd:Str)(d:Dt)(ts:List Tr)=>vs=[.ref L.m,.ref o]/\MAt K HB C kvs L H S/\H o=some (.lst ov)/\Al (ThAt K H) ov (("row",.int (k:Nat))::xs)/\S.rows[k]?=some r/\r.pl=Ap pl/\Ck kvs (D6 pl)=some v/\TrAt K H v (.mk wd d ts)/\Gf wd d/\pl.length<=2000/\r.ar.length<=9000/\S.wait.length<9000/\xs.length<=1000 /\
 ∀H',SameM L H H'->MAt K HB C kvs L H' (Ky S wd d pl 0 r.ar (if r.wd="rec" then ("row",.int (k:Nat))::xs else xs))->Q .non H'
def Zin:Bc ["self","operands","row"] qI (A7 Ke):=by walk_at "sc"
def Zwu (F:Fun K "call" "Machine.call" Ke f fd)(T:Txt K mg)(O:Mc K C)(MW:Dc As P w K mg base 2 C "go_within" ["self","place","number","around","things"] (Zbl K C)):FnOk P w K mg base As 3 f fd qI (Zf0 K C):=by
 refine F.okq Zin (λvs H Q E h=>?_) (λam A outer s H vs Q E hr h=>?_)
 ·obtain⟨o,ov,k,xs,r,pl,HB,kvs,L,S,v,wd,d,ts,rfl,_⟩:=h;rfl
 ·obtain⟨o,ov,k,xs,r,pl,HB,kvs,L,S,v,wd,d,ts,rfl,M,ho,I,ae,ai,hv,ht,bk,ag,Z,ac,an,q⟩:=h;refine⟨_,Ab (Ak 2 Zin (Ai K (Ce K Ad) (Ai K (Ai K Af Aa) Aa)))
   (A4 (B2 (Dr (k:=2) K As pH Ad hr.m Dy (Dj (Ai K Av Aa) Aa (Ai K Av Aa) (Pb (Bk K hr (Ai K Av Aa) Am) Af (Eg (Fc K) Af (Cv Aa) Fz)))))),?_⟩
  have bg:=big;obtain⟨rv,er,ar,ak⟩:=M.rows;obtain⟨u,hu⟩:∃u,rv[k]?=some u:=⟨_,Pk (by rw[ar.1];exact(Pt.mp ae).1)⟩;obtain⟨r',ad,xr⟩:=ar.get hu;rw[ae]at ad;cases ad;obtain⟨⟨a,p',o',e,aj,ev,rfl,qa,_,_,_,he,aa,_,al⟩,a2,p,o2,e2,ea,Ag,hp⟩:=xr;cases ea;obtain⟨u0,U,rfl⟩:eX2 λu0 U=>ov=u0::U:=by
   have hl:=I.1
   match ov,hl with
   |u0::U,_=>exact⟨u0,U,rfl⟩
  obtain⟨_,ax,rfl,qx⟩:=I.2 0 u0 _ rfl rfl;have af:H p=some (.tup (A9 pl)):=by rw[hp,ai,Fh]
  left;refine⟨_,rfl,L.m,C,L.dx,_,_,rfl,M.ins,O.cl,O.nr,K2 L S.steps,?_⟩;left;refine Br (SqL.of ho) (Cs (j:=0) rfl) ?_;left;refine A1 qx rfl ?_;refine Br (SqL.of er) (Cs hu) ?_;left;refine⟨_,rfl,L.m,C,L.dx,_,_,rfl,M.ins,(Mp L S.steps).1,MW,?_⟩;left;refine A1 Ag rfl ?_;left;refine A1 qa rfl ?_;left;unfold Mr;left;refine A1 qa rfl ?_;left;rw[Bu];by_cases hw:r.wd="rec"
  ·rw[if_pos hw]at q;rw[dH hw];left;exact⟨p,e,o,0,pl,ev,_,r.ar,_,HB,kvs,L,S,v,wd,d,ts,rfl,M,af,he,aa,ho,I,hv,ht,bk,ag,Z,ac,λH2 e2 M2=>by left;exact q _ e2 M2⟩
  ·rw[if_neg hw]at q;rw[dI hw];left;refine Gv (SqL.of ho) λl hl=>?_;have ec:Ca (V.ref ax::U) (some 1) none=U:=Zel _ 1;rw[ec];obtain⟨H2,Y,e2,z9⟩:=Df hl (.lst U);rw[z9];have ah:Al (ThAt K H2) U xs:=⟨by have:=I.1;simpa using this,λj y x f1 f2=>ThAt.same Y.t _ _ (I.2 (j+1) y x (by simpa using f1) (by simpa using f2))⟩;exact⟨p,e,l,0,pl,ev,U,r.ar,xs,HB,kvs,L,S,v,wd,d,ts,rfl,M.new Y,Y _ _ af,Y _ _ he,aa.mono (PrAt.same Y.t),e2,ah,hv,ht.same Y,bk,ag,Z,ac,λH3 e3 M3=>by left;exact q _ ((Y.m L).trans e3) M3⟩
def Znw (xs:List V)(n:Nat)(h0:0<n)(h:n<=xs.length):Ca xs (some (-(n:Int))) none=xs.drop (xs.length-n)/\Ca xs none (some (-(n:Int)))=xs.take (xs.length-n):=by
 unfold Ca;have e:∀d,HT.sIx xs.length d (some (-(n:Int)))=xs.length-n:=by
  intro d;show(if (-(n:Int))<0 then ((-(n:Int))+(xs.length:Int)).toNat else min (-(n:Int)).toNat xs.length)=_;rw[if_pos (by lia)];lia
 rw[e,e,HT.sIx_none,HT.sIx_none,Uz,List.drop_zero];refine⟨?_,rfl⟩;rw[Rv (by rw[Sw];lia)]
def Ziy (K:Pi)(C:Addr):Sp:=λvs H Q _=>eX7 λ(n:Nat)(th last:List (Str×V))(HB:Hp)(kvs:List (List Ax×V))(L:Ml)(S:MS)=>vs=[.ref L.m,.int (n:Nat)]/\MAt K HB C kvs L H S/\0<n/\S.things=th++last/\last.length=n /\
 ∀(l t:Addr)(lv:List V)(H':Hp),SameM L H H'->MAt K HB C kvs (L.with t) H' { S with things:=th }->H t=none->H' l=some (.lst lv)->Al (ThAt K H') lv last->H l=none->l≠t->Q (.ref l) H'
def Zkp:Bc ["self","many","taken"] pO (A7 J9):=by walk_at "sc"
def Zov (F:Fun K "taken_things" "Machine.taken_things" J9 f fd)(T:Txt K mg)(O:Mc K C):FnOk P w K mg base As 1 f fd pO (Ziy K C):=by
 refine F.okq Zkp (λvs H Q E h=>?_) (λaf A outer s H vs Q E hr h=>?_)
 ·obtain⟨n,th,last,HB,kvs,L,S,rfl,_⟩:=h;rfl
 ·obtain⟨n,th,last,HB,kvs,L,S,rfl,M,n0,hS,ac,q⟩:=h;refine⟨_,Ab (Ak 2 Zkp (Eg (Fc K) (Ce K Ad) (Cv (Jl Jj Af)) Fz))
   (Ab (Ls K Ad (Eg (Fc K) (Ce K Ad) Fz (Cv (Jl Jj Af)))) (Ao Av)),?_⟩
  obtain⟨tv,et,I⟩:=M.things;have ae:tv.length=th.length+n:=by rw[I.1,hS,Pn,ac]
  obtain⟨c1,c2⟩:=Znw tv n n0 (by lia);have e0:tv.length-n=th.length:=by lia
  rw[e0]at c1 c2;rw[hS]at I;left;refine⟨_,rfl,L.m,C,L.dx,_,_,rfl,M.ins,O.cl,O.nt,Hg L S.steps,?_⟩;left;refine Gv (SqL.of et) λl hl=>?_;rw[c1];obtain⟨H1,s1,e1,z9⟩:=Df hl (.lst (tv.drop th.length));rw[z9];have M1:=M.new s1;left;refine⟨_,rfl,L.m,C,L.dx,_,_,rfl,M1.ins,O.cl,O.nt,Hg L S.steps,?_⟩;left;refine Gv (SqL.of (s1 _ _ et)) λt ht=>?_;rw[c2];obtain⟨H2,s2,e2,z9⟩:=Df ht (.lst (tv.take th.length));rw[z9];have U:=s1.trans s2;have M2:=M.new U;have aa:l≠t:=λz=>by rw[<- z,e1]at ht;cases ht
  have Y:=s1.free ht;have a1:Al (ThAt K H2) (tv.take th.length) th:=⟨by rw[Qq];lia,λj v x Z f2=>by
   have hj:j<th.length:=(Pt.mp f2).1;rw[List.getElem?_take_of_lt hj]at Z;exact ThAt.same U.t _ _ (I.2 j v x Z (by rw[Qk hj];exact f2))⟩
  have a2:Al (ThAt K H2) (tv.drop th.length) last:=⟨by rw[Sw];lia,λj v x Z f2=>by
   rw[List.getElem?_drop]at Z;exact ThAt.same U.t _ _ (I.2 (th.length+j) v x Z (by rw[Qt (by lia),Nat.add_sub_cancel_left];exact f2))⟩
  obtain⟨M3,e3⟩:=M.swap U Y e2 a1;refine⟨_,rfl,L.m,C,L.dx,_,rfl,M2.ins,O.cl,O.nt,by show 5<1000;decide,?_⟩;rw[Zoz];have ad:l≠L.m:=λz=>by rw[z,M.ins]at hl;cases hl
  left;refine q l t _ _ e3 M3 Y ((Ah ad).trans (s2 _ _ e1)) (a2.mono (ThAt.same ?_)) hl aa;exact M2.t (SameM.upd (.inl rfl))
noncomputable def E2 (wd:Str)(i j:Int):Str×V:=if wd="plus" then ("num",.int (i+j)) else if wd="minus" then ("num",.int (i-j)) else ("truth",.bl (decide (i<j)))
def Ze5 (K:Pi):Sp:=λvs H Q _=>eX3 λ(wd:Str)(i j:Int)=>vs=[.str wd,.int i,.int j]/\∀v H',Same H H'->ThAt K H' v (E2 wd i j)->Q v H'
def Zo3:Bc qE qE (A7 Jc):=by walk_at "sc"
def Zrd (F:Fu K "reckoned" Jc f fd)(T:Txt K mg):FnOk P w K mg base As 1 f fd qE (Ze5 K):=by
 refine F.okq Zo3 (λvs H Q E h=>?_) (λO A outer s H vs Q E I h=>?_)
 ·obtain⟨wd,i,j,rfl,_⟩:=h;rfl
 ·obtain⟨wd,i,j,rfl,q⟩:=h;refine⟨_,Ab (Ay (Bk K I Ad Am) (Ao (Aj (Ag Am (Ae (B5 K) Af Av)))) A2)
   (Ab (Ay (Bk K I Ad Am) (Ao (Aj (Ag Am (Ae Du Af Av)))) A2) (Ao (Aj (Ag Am (qcm Ej Af Av))))),?_⟩
  unfold E2 at q;left;rw[Bu];refine Bf (λh=>?_) (λh=>?_)
  ·have h:wd="plus":=dJ h;rw[if_pos h]at q;left;refine⟨Bl,λp hp=>?_⟩;exact q _ _ (Same.upd hp) ⟨rfl,p,rfl,SqT.of Ac⟩
  have h:¬wd="plus":=λx=>h (dH x);rw[if_neg h]at q;left;rw[Bu];refine Bf (λh=>?_) (λh=>?_)
  ·have h:wd="minus":=dJ h;rw[if_pos h]at q;left;refine⟨Bl,λp hp=>?_⟩;exact q _ _ (Same.upd hp) ⟨rfl,p,rfl,SqT.of Ac⟩
  have h:¬wd="minus":=λx=>h (dH x);rw[if_neg h]at q;left;refine⟨Bl,λp hp=>?_⟩;exact q _ _ (Same.upd hp) ⟨rfl,p,rfl,SqT.of Ac⟩
noncomputable def En:V->Int
 |.int i=>i
 |_=>0
def Zcp (x:Str×V):Prop:=x.1="num" -> ∃i,x.2=.int i
noncomputable def Iw:List Str:=["plus","minus","less"]
noncomputable def He (S:MS)(wd:Str)(pl:List Nat)(th:List (Str×V))(x y:Str×V):MS :=
 if wd∈Iw/\x.1="num"/\y.1="num" then { S with things:=th++[E2 wd (En x.2) (En y.2)] }
 else { S with rows:=S.rows++[⟨wd,Ap pl,[x,y],[]⟩],things:=th++[(("row":Str),V.int (S.rows.length:Nat))] }
def FormsAt (K:Pi)(H:Hp)(kvs:List (List Ax×V))(sub:List Nat->Option (Str×Dt)):Prop:=∀pl wd d,sub pl=some (wd,d)->pl.length<=2000/\eX2 λv ts=>Ck kvs (D6 pl)=some v/\TrAt K H v (.mk wd d ts)
def FormsAt.same (h:FormsAt K H kvs sub)(e:SameT H H'):FormsAt K H' kvs sub:=λpl wd d I=>by
 obtain⟨h1,v,ts,h2,O⟩:=h pl wd d I;exact⟨h1,v,ts,h2,O.sameT e⟩
inductive Jm (sub:List Nat->Option (Str×Dt))(wd:Str)(d:Dt)(pl:List Nat)(ar:List (Str×Str×V))(S:MS):MS->Prop where
 |two {th:List (Str×V)} {x y:Str×V} (h:wd∈Iw\/wd="call"/\C4 S.rows x=false) (hS:S.things=th++[x,y]) (ok:Of S.rows x) (ox:Zcp x) (oy:Zcp y):Jm sub wd d pl ar S (He S wd pl th x y)
 |calls {th:List (Str×V)} {k:Nat} {y:Str×V} {r:Rx} {pl':List Nat} {wd':Str} {d':Dt} (h:wd="call") (hS:S.things=th++[(("row":Str),V.int (k:Nat)),y]) (hr:S.rows[k]?=some r) (hf:r.wd∈(["fn","rec"]:List Str)) (hp:r.pl=Ap pl') (hs:sub pl'=some (wd',d')) (bk:Gf wd' d') (ha:r.ar.length<=9000):Jm sub wd d pl ar S (Ky { S with things:=th } wd' d' pl' 0 r.ar (if r.wd="rec" then [(("row":Str),V.int (k:Nat)),y] else [y]))
 |ifs {th:List (Str×V)} {b:Bool} (h:wd="if") (hS:S.things=th++[(("truth":Str),V.bl b)]) (bk:Gf wd d):Jm sub wd d pl ar S (Ky { S with things:=th } wd d pl (if b then 1 else 2) ar [])
 |ifr {th:List (Str×V)} {x:Str×V} (h:wd="if") (hS:S.things=th++[x]) (hx:¬x.1="truth"):Jm sub wd d pl ar S { S with rows:=S.rows++[⟨wd,Ap pl,[x],ar⟩],things:=th++[(("row":Str),V.int (S.rows.length:Nat))] }
 |lets {th:List (Str×V)} {x:Str×V} (h:wd="let") (hS:S.things=th++[x]) (bk:Gf wd d):Jm sub wd d pl ar S (Ky { S with things:=th } wd d pl 1 ar [x])
def Zfu (K:Pi)(C:Addr):Sp:=λvs H Q _=>eX14 λ(p e:Addr)(pl:List Nat)(ev:List V)(ar:List (Str×Str×V))(HB:Hp)(kvs:List (List Ax×V))(L:Ml)(S S2:MS)(v:V)(wd:Str)(d:Dt)(ts:List Tr)=>vs=[.ref L.m,.ref p,.ref e]/\MAt K HB C kvs L H S/\H p=some (.tup (A9 pl))/\H e=some (.lst ev)/\Al (PrAt K H) ev ar/\¬L.A e/\Ck kvs (D6 pl)=some v/\TrAt K H v (.mk wd d ts)/\∃sub:List Nat->Option (Str×Dt),FormsAt K H kvs sub/\Jm sub wd d pl ar S S2/\S.rows.length<9000/\S.things.length<9000/\S.wait.length<9000/\pl.length<=2000/\ar.length<=9000 /\
 ∀H' t,SameM L H H'->MAt K HB C kvs (L.with t) H' S2->H t=none->Q .non H'
def Zd8:Bc ["self","place","around","word","operands"] pB (A7 Jo):=by walk_at "sc"
def Zt5 (F:Fun K "go_further" "Machine.go_further" Jo f fd)(T:Txt K mg)(O:Mc K C)(kB:F4 mg "PARTS_AWAITED" (.ref ap))(hpa:Im P w K ap pk)(hpk:∀wd,(Dz pk wd).isSome=(Bq wd).isSome/\∀ns,Bq wd=some ns->∃b,Dz pk wd=some (.ref b)/\∀H,SqT K H b (ns.map V.int))(MT:Dc As P w K mg base 1 C "taken_things" ["self","many"] (Ziy K C))(MR:Dc As P w K mg base 1 C "new_row" ["self","word","place","operands","around"] (Nr K C))(MW:Dc As P w K mg base 2 C "go_within" ["self","place","number","around","things"] (Zbl K C))(MC:Dc As P w K mg base 3 C "call" ["self","operands"] (Zf0 K C))(MI:Dc As P w K mg base 2 C "is_function" ["self","thing"] (Zj5 K C))(cP:A5 P w K mg base 1 "are_numbers" ["things"] (Zj3 K))(dB:A5 P w K mg base 1 "reckoned" ["word","left","right"] (Ze5 K)):FnOk P w K mg base As 4 f fd pB (Zfu K C):=by
 refine F.okq Zd8 (λvs H Q E h=>?_) (λb0 A outer s H vs Q E hr h=>?_)
 ·obtain⟨p,e,pl,ev,ar,HB,kvs,L,S,S2,v,wd,d,ts,rfl,_⟩:=h;rfl
 ·obtain⟨p,e,pl,ev,ar,HB,kvs,L,S,S2,v,wd,d,ts,rfl,M,hp,he,am,nA,hv,ht,sub,FA,bh,z1,z3,z2,ba,a4,q⟩:=h;refine⟨_,Ab (Ak 3 Zd8 (Ai K (Np hr.u1 (Ce K Ad) Af (λ_ _=>rfl)) Aa))
   (Ab (Ak 4 Zd8 (Dr (k:=1) K As pO Ad hr.m Dy (Aw (B0 K T.len (O8 (Zcf P w K) (Hh kB) A3 (λ_ _=>rfl)))))) (A4 (Ay (Bk K hr A3 Am) (A4 (B2 (Dr (k:=2) K As pH Ad hr.m Dy (Dj Af Aa Av A6)))) (A4 (Ay (QW.qt (D3 (Bk K hr A3 Am) (D7 (Bk K hr (Ai K (Ai K A6 Aa) Aa) Am)))) (A4 (B2 (Dr (k:=2) K As pH Ad hr.m Dy (Dj Af (Pb (Bx (Ai K (Ai K A6 Aa) Aa)) Aa Aa) Av (Bp Bm))))) (A4 (Ay (QW.qt (D3 (Bk K hr A3 Am) (D7 (Bx (Dr (k:=2) K As qH Ad hr.m Dy (Aw (Ai K A6 Aa))))))) (A4 (B2 (Dr (k:=3) K As qI Ad hr.m Dy (Aw A6)))) (A4 (Ay (QW.qt (D3 (Bt (G6 K) A3 (Aj (Bd Am Am Am))) (D7 (Bx (Az cP hr.m (Aw A6)))))) (A4 (B2 (Cn K Pw Qf Qg Cy (Ce K Ad) (Aw (Az dB hr.m (Bd A3 (Ai K (Ai K A6 Aa) Aa) (Ai K (Ai K A6 Aa) Aa))))))) (A4 (B2 (Cn K Pw Qf Qg Cy (Ce K Ad) (Aw (Dr (k:=1) K As pG Ad hr.m Dy (Dj A3 Af A6 Av))))))))))))))),?_⟩
  have bg:=big;have a9:=ht;cases ht with
  | @mk b pp _ nv _ vs _ qb hn bx hl b3 =>
  left;refine⟨_,rfl,L.m,C,L.dx,_,_,rfl,M.ins,O.cl,O.nf,Zbg L S.steps,_,rfl,L.fd,.ref b,rfl,?_,?_⟩
  ·rw[<- hv];refine DGet.t M.frm ?_;rw[Nn];exact hp
  left;refine A1 qb rfl ?_;left;refine⟨_,rfl,L.m,C,L.dx,_,_,rfl,M.ins,(Dp L S.steps).2.2.2.2.2.1,MT,?_⟩;cases bh with
  | @lets th x bj hS bk =>
   subst bj;obtain⟨bt,ac,ad⟩:=(hpk "let").2 [0] (by right);left;refine⟨ap,pk,"let",.ref bt,rfl,rfl,hpa,ac,?_⟩;left;refine Ei (ad _) ?_;left;refine⟨1,th,[x],HB,kvs,L,S,rfl,M,by decide,hS,rfl,λo t ov H1 e1 M1 Y ho U aa aj=>?_⟩;have t1:=M.t e1;left;rw[dH (Eq.refl _)];refine iteT ?_;left;refine⟨_,rfl,L.m,C,L.dx,_,_,rfl,M1.ins,(Mp (L.with t) S.steps).1,MW,?_⟩;left;refine⟨p,e,o,1,pl,ev,ov,ar,[x],HB,kvs,L.with t,_,.ref b,"let",d,ts,rfl,M1,(t1 p).1 _ hp,(M.a e1).2 _ _ nA he,am.mono (PrAt.same t1),ho,U,hv,a9.sameT t1,bk,ba,a4,z2,λH2 e2 M2=>?_⟩;left;exact q _ t (e1.trans' (L':=L.with t) e2 rfl rfl rfl (.inr Y)) M2 Y
  | @ifs th b2 a0 hS bk =>
   subst a0;obtain⟨bt,ac,ad⟩:=(hpk "if").2 [0] (by right);left;refine⟨ap,pk,"if",.ref bt,rfl,rfl,hpa,ac,?_⟩;left;refine Ei (ad _) ?_;left;refine⟨1,th,[("truth",.bl b2)],HB,kvs,L,S,rfl,M,by decide,hS,rfl,λo t ov H1 e1 M1 Y ho U aa aj=>?_⟩;have t1:=M.t e1;obtain⟨u1,us,rfl⟩:eX2 λu1 us=>ov=u1::us:=by
    have hl:=U.1
    match ov,hl with
    |u1::us,_=>exact⟨u1,us,rfl⟩
   obtain⟨_,ax,rfl,qx⟩:=U.2 0 u1 _ rfl rfl;left;rw[Bu,dI (by right)];left;rw[Bu,dH (Eq.refl _)];left;refine Br (SqL.of ho) (Cs (j:=0) rfl) ?_;left;refine A1 qx rfl ?_;left;rw[Bu,dH (Eq.refl _)];left;refine⟨_,rfl,L.m,C,L.dx,_,_,rfl,M1.ins,(Mp (L.with t) S.steps).1,MW,?_⟩;left;unfold Mr;left;refine Br (SqL.of ho) (Cs (j:=0) rfl) ?_;left;refine A1 qx rfl ?_;have a3:∀l H2,H1 l=none->H2=upd H1 l (.lst [])->Zbl K C [.ref L.m,.ref p,.int ((if b2 then 1 else 2:Nat):Nat),.ref e,.ref l] H2 (λv H'=>Q .non H') E0:=by
    intro l H2 hl a5;have s2:Same H1 H2:=by rw[a5];exact Same.upd hl
    have e2:H2 l=some (.lst []):=by rw[a5];exact Ac
    refine⟨p,e,l,(if b2 then 1 else 2),pl,ev,[],ar,[],HB,kvs,L.with t,_,.ref b,"if",d,ts,rfl,M1.new s2,s2 _ _ ((t1 p).1 _ hp),s2 _ _ ((M.a e1).2 _ _ nA he),(am.mono (PrAt.same t1)).mono (PrAt.same s2.t),e2,.nil,hv,(a9.sameT t1).same s2,bk,ba,a4,z2,λH3 e3 M3=>?_⟩;exact q _ t (e1.trans' (L':=L.with t) ((s2.m _).trans e3) rfl rfl rfl (.inr Y)) M3 Y
   refine⟨b2,rfl,?_⟩;cases b2 with
   |true =>
    rw[if_pos rfl];left;refine⟨Bj,λl hl=>?_⟩;exact a3 l _ hl rfl
   |false =>
    rw[if_neg Pu];left;refine⟨Bj,λl hl=>?_⟩;exact a3 l _ hl rfl
  | @ifr th x a0 hS bq =>
   subst a0;obtain⟨bt,ac,ad⟩:=(hpk "if").2 [0] (by right);left;refine⟨ap,pk,"if",.ref bt,rfl,rfl,hpa,ac,?_⟩;left;refine Ei (ad _) ?_;left;refine⟨1,th,[x],HB,kvs,L,S,rfl,M,by decide,hS,rfl,λo t ov H1 e1 M1 Y ho U aa aj=>?_⟩;have t1:=M.t e1;have al:=(t1 p).1 _ hp;have an:=(M.a e1).2 _ _ nA he;have ag:Al (PrAt K H1) ev ar:=am.mono (PrAt.same t1);obtain⟨u1,us,rfl⟩:eX2 λu1 us=>ov=u1::us:=by
    have hl:=U.1
    match ov,hl with
    |u1::us,_=>exact⟨u1,us,rfl⟩
   obtain⟨_,ax,rfl,qx⟩:=U.2 0 u1 _ rfl rfl;left;rw[Bu,dI (by right)];left;rw[Bu,dH (Eq.refl _)];left;refine Br (SqL.of ho) (Cs (j:=0) rfl) ?_;left;refine A1 qx rfl ?_;left;rw[Bu,dI bq];left;rw[Bu,dI (by right)];left;refine⟨Bs,λp2 h2=>?_⟩;refine Fn (.inr (SqT.of Ac)) rfl rfl ?_;have s3:Same H1 (upd H1 p2 (.tup [.str "plus",.str "minus",.str "less"])):=Same.upd h2;rw[if_neg Pu,show Ff (.str "if") [.str "plus",.str "minus",.str "less"]=decide (("if":Str)∈(["plus","minus","less"]:List Str)) from Il (ws:=["plus","minus","less"]),dI (by right)];revert s3;generalize upd H1 p2 (.tup [.str "plus",.str "minus",.str "less"])=H3;intro I;have M3:=M1.new I;obtain⟨tv,et,ah⟩:=M3.things;have a6:tv.length=th.length:=ah.1;have ao:th.length+1=S.things.length:=by rw[hS,Pn];rfl
   have af:=I _ _ ho;refine⟨false,rfl,?_⟩;refine iteF ?_;left;refine⟨_,rfl,L.m,C,L.dx,_,_,rfl,M3.ins,O.cl,O.nt,Hg (L.with t) S.steps,?_⟩;refine B7 (SqL.of et) ?_;left;refine⟨_,rfl,L.m,C,L.dx,_,_,rfl,M3.ins,(Dp (L.with t) S.steps).2.1,MR,?_⟩;left;refine⟨"if",p,o,e,pl,_,ev,[x],ar,HB,kvs,L.with t,_,rfl,M3,I _ _ al,SqL.of af,U.mono (ThAt.same I.t),SqL.of (I _ _ an),ag.mono (PrAt.same I.t),by show S.rows.length<10000;lia,λv4 H4 e4 M4 t4=>?_⟩;rw[if_pos (by right)]at M4;obtain⟨ak,ai,ae⟩:=M4.things;have aq:ak.length=th.length:=ae.1;left;refine Cz ai (by lia) ?_;have M5:=M4.setThings (ae.snoc t4);left;refine q _ t (e1.trans' (L':=L.with t) ((I.m _).trans (e4.trans (SameM.upd (.inr (.inr (.inr rfl)))))) rfl rfl rfl (.inr Y)) M5 Y
  | @calls th k y r bb bf d' bi hS aw hf a8 hs bk a7 =>
   subst bi;obtain⟨bt,ac,ad⟩:=(hpk "call").2 [1,0] (by right);left;refine⟨ap,pk,"call",.ref bt,rfl,rfl,hpa,ac,?_⟩;left;refine Ei (ad _) ?_;left;refine⟨2,th,[("row",.int (k:Nat)),y],HB,kvs,L,S,rfl,M,by decide,hS,rfl,λo t ov H1 e1 M1 Y ho U aa aj=>?_⟩;have t1:=M.t e1;have au:C4 S.rows ("row",.int (k:Nat))=true:=by
    show(decide (("row":Str)="row") && (match S.rows[((k:Nat):Int).toNat]? with|some r=>decide (r.wd∈(["fn","rec"]:List Str))|none=>false))=true;rw[Qz,aw];simp only[dH hf,decide_true,Bool.and_self]
   have bu:Of S.rows ("row",.int (k:Nat)):=λ_=>⟨k,rfl,(Pt.mp aw).1⟩;obtain⟨u1,us,rfl⟩:eX2 λu1 us=>ov=u1::us:=by
    have hl:=U.1
    match ov,hl with
    |u1::us,_=>exact⟨u1,us,rfl⟩
   have br:=U.2 0 u1 _ rfl rfl;left;rw[Bu,dI (by right)];left;rw[Bu,dI (by right)];left;rw[Bu,dH (Eq.refl _)];left;refine⟨_,rfl,L.m,C,L.dx,_,_,rfl,M1.ins,(Mp (L.with t) S.steps).2.1,MI,?_⟩;left;refine Br (SqL.of ho) (Cs (j:=0) rfl) ?_;left;refine⟨_,("row",.int (k:Nat)),HB,kvs,L.with t,_,rfl,M1,br,bu,λH2 s2=>?_⟩;rw[show C4 ({ S with things:=th }:MS).rows ("row",.int (k:Nat))=true from au];refine⟨true,rfl,?_⟩;refine iteT ?_;left;have M2:=M1.new s2;obtain⟨be,v',bo,bp,bn⟩:=(FA.same t1).same s2.t bb bf d' hs;refine⟨_,rfl,L.m,C,L.dx,_,_,rfl,M2.ins,(Mp (L.with t) S.steps).2.2,MC,?_⟩;left;refine⟨o,_,k,[y],r,bb,HB,kvs,L.with t,_,v',bf,d',bo,rfl,M2,s2 _ _ ho,U.mono (ThAt.same s2.t),aw,a8,bp,bn,bk,be,a7,z2,by show 1<=1000;decide,λH3 e3 M3=>?_⟩;left;exact q _ t (e1.trans' (L':=L.with t) ((s2.m _).trans e3) rfl rfl rfl (.inr Y)) M3 Y
  | @two th x y av hS ok ox oy =>
  have bv:Bq wd=some [1,0]/\¬wd="let"/\¬wd="if"/\¬wd∈WA:=by
   rcases av with h|⟨rfl,_⟩
   ·unfold Iw at h;simp only[Ps,P0,or_false]at h;rcases h with rfl|rfl|rfl <;> exact⟨by right,by right,by right,by right⟩
   ·exact⟨by right,by right,by right,by right⟩
  obtain⟨pw,w1,w2,w4⟩:=bv;obtain⟨bt,ac,ad⟩:=(hpk wd).2 _ pw;left;refine⟨ap,pk,wd,.ref bt,rfl,rfl,hpa,ac,?_⟩;left;refine Ei (ad _) ?_;left;refine⟨2,th,[x,y],HB,kvs,L,S,rfl,M,by decide,hS,rfl,λo t ov H1 e1 M1 Y ho U aa aj=>?_⟩;have t1:=M.t e1;have al:=(t1 p).1 _ hp;have an:=(M.a e1).2 _ _ nA he;have ag:Al (PrAt K H1) ev ar:=am.mono (PrAt.same t1);have bw:¬(L.with t).A o:=by
   obtain⟨rv,er,_⟩:=M.rows;obtain⟨wv,ew,_⟩:=M.wait;rintro(z|z|z)
   ·rw[z]at aa;rw[show(L.with t).rd=L.rd from rfl,er]at aa;cases aa
   ·rw[z]at aa;rw[show(L.with t).wd=L.wd from rfl,ew]at aa;cases aa
   ·exact aj z
  have hx:eX2 λax ay=>ov=[.ref ax,.ref ay]/\SqT K H1 ax [.str x.1,x.2]/\SqT K H1 ay [.str y.1,y.2]:=by
   have hl:=U.1;obtain⟨u1,u2,rfl⟩:=lz2 (vs:=ov) hl;obtain⟨_,ax,e3,q3⟩:=U.2 0 u1 x rfl rfl;obtain⟨_,ay,e4,q4⟩:=U.2 1 u2 y rfl rfl;exact⟨ax,ay,by rw[e3,e4],q3,q4⟩
  obtain⟨ax,ay,rfl,qx,qy⟩:=hx;left;rw[Bu,dI w1];left;rw[Bu,dI w2];left;rw[Bu];by_cases w3:wd="call"
  ·have au:C4 S.rows x=false:=by
    rcases av with h|h
    ·rw[w3]at h;exact absurd h (by right)
    ·exact h.2
   rw[dH w3];left;refine⟨_,rfl,L.m,C,L.dx,_,_,rfl,M1.ins,(Mp (L.with t) S.steps).2.1,MI,?_⟩;left;refine Br (SqL.of ho) rfl ?_;left;refine⟨_,x,HB,kvs,L.with t,_,rfl,M1,⟨(U.2 0 _ x rfl rfl).1,ax,rfl,qx⟩,ok,λH2 s2=>?_⟩;rw[show C4 ({ S with things:=th }:MS).rows x=false from au];refine⟨false,rfl,?_⟩;refine iteF ?_;left;refine⟨Bs,λp2 h2=>?_⟩;refine Fn (.inr (SqT.of Ac)) rfl rfl ?_;have s3:Same H2 (upd H2 p2 (.tup [.str "plus",.str "minus",.str "less"])):=Same.upd h2;rw[if_neg Pu,show Ff (.str wd) [.str "plus",.str "minus",.str "less"]=decide (wd∈(["plus","minus","less"]:List Str)) from Il (ws:=["plus","minus","less"]),dI (by rw[w3];right)];revert s3;generalize upd H2 p2 (.tup [.str "plus",.str "minus",.str "less"])=H3;intro s3;have I:=s2.trans s3;have M3:=M1.new I;obtain⟨tv,et,ah⟩:=M3.things;have a6:tv.length=th.length:=ah.1;have ao:th.length+2=S.things.length:=by rw[hS,Pn];rfl
   have af:=I _ _ ho;have ef:He S wd pl th x y={ S with rows:=S.rows++[⟨wd,Ap pl,[x,y],[]⟩],things:=th++[(("row":Str),V.int (S.rows.length:Nat))] }:=by
    unfold He;rw[if_neg λh=>absurd h.1 (by rw[w3];right)]
   rw[ef]at q;refine⟨false,rfl,?_⟩;refine iteF ?_;left;refine⟨_,rfl,L.m,C,L.dx,_,_,rfl,M3.ins,O.cl,O.nt,Hg (L.with t) S.steps,?_⟩;refine B7 (SqL.of et) ?_;left;refine⟨_,rfl,L.m,C,L.dx,_,_,rfl,M3.ins,(Dp (L.with t) S.steps).2.1,MR,?_⟩;left;refine⟨wd,p,o,e,pl,_,ev,[x,y],ar,HB,kvs,L.with t,_,rfl,M3,I _ _ al,SqL.of af,U.mono (ThAt.same I.t),SqL.of (I _ _ an),ag.mono (PrAt.same I.t),by show S.rows.length<10000;lia,λv4 H4 e4 M4 t4=>?_⟩;rw[if_neg w4]at M4;obtain⟨ak,ai,ae⟩:=M4.things;have aq:ak.length=th.length:=ae.1;left;refine Cz ai (by lia) ?_;have M5:=M4.setThings (ae.snoc t4);left;refine q _ t (e1.trans' (L':=L.with t) ((I.m _).trans (e4.trans (SameM.upd (.inr (.inr (.inr rfl)))))) rfl rfl rfl (.inr Y)) M5 Y
  have as:wd∈(["plus","minus","less"]:List Str):=by
   rcases av with h|h
   ·exact h
   ·exact absurd h.1 w3
  rw[dI w3];left;refine⟨Bs,λp2 h2=>?_⟩;refine Fn (.inr (SqT.of Ac)) rfl rfl ?_;have s2:Same H1 (upd H1 p2 (.tup [.str "plus",.str "minus",.str "less"])):=Same.upd h2;rw[if_neg Pu,show Ff (.str wd) [.str "plus",.str "minus",.str "less"]=decide (wd∈(["plus","minus","less"]:List Str)) from Il (ws:=["plus","minus","less"]),dH as];revert s2;generalize upd H1 p2 (.tup [.str "plus",.str "minus",.str "less"])=H2;intro s2;left;refine⟨o,_,[x,y],rfl,s2 _ _ ho,U.mono (ThAt.same s2.t),by show 2<=1000;decide,λH3 s3=>?_⟩;have I:=s2.trans s3;have M3:=M1.new I;obtain⟨tv,et,ah⟩:=M3.things;have a6:tv.length=th.length:=ah.1;have ao:th.length+2=S.things.length:=by rw[hS,Pn];rfl
  have af:=I _ _ ho;by_cases Z:x.1="num"/\y.1="num"
  ·have en:L8 [x,y]=true:=by
    unfold L8;rw[Rq,Rq,List.all_nil,dH Z.1,dH Z.2];rfl
   rw[en];obtain⟨i,ei⟩:=ox Z.1;obtain⟨j,ej⟩:=oy Z.2;rw[ei]at qx;rw[ej]at qy;have ef:He S wd pl th x y={ S with things:=th++[E2 wd i j] }:=by
    unfold He;rw[if_pos ⟨as,Z⟩,ei,ej];rfl
   rw[ef]at q;refine⟨true,rfl,?_⟩;refine iteT ?_;left;refine⟨_,rfl,L.m,C,L.dx,_,_,rfl,M3.ins,O.cl,O.nt,Hg (L.with t) S.steps,?_⟩;refine B7 (SqL.of et) ?_;left;refine Br (SqL.of af) rfl ?_;left;refine A1 (I.tup qx) rfl ?_;left;refine Br (SqL.of af) rfl ?_;left;refine A1 (I.tup qy) rfl ?_;left;refine⟨wd,i,j,rfl,λv4 H4 s4 t4=>?_⟩;have M4:=M3.new s4;left;refine Cz (s4 _ _ et) (by lia) ?_;have M5:=M4.setThings ((ah.mono (ThAt.same s4.t)).snoc t4);left;refine q _ t (e1.trans' (L':=L.with t) (((I.trans s4).m _).trans (SameM.upd (.inr (.inr (.inr rfl))))) rfl rfl rfl (.inr Y)) M5 Y
  ·have en:L8 [x,y]=false:=by
    unfold L8;rw[Rq,Rq,List.all_nil,Bool.and_true,<- Bool.not_eq_true,R3,decide_eq_true_iff,decide_eq_true_iff];exact Z
   rw[en];have ef:He S wd pl th x y={ S with rows:=S.rows++[⟨wd,Ap pl,[x,y],[]⟩],things:=th++[(("row":Str),V.int (S.rows.length:Nat))] }:=by
    unfold He;rw[if_neg λh=>Z h.2]
   rw[ef]at q;refine⟨false,rfl,?_⟩;refine iteF ?_;left;refine⟨_,rfl,L.m,C,L.dx,_,_,rfl,M3.ins,O.cl,O.nt,Hg (L.with t) S.steps,?_⟩;refine B7 (SqL.of et) ?_;left;refine⟨_,rfl,L.m,C,L.dx,_,_,rfl,M3.ins,(Dp (L.with t) S.steps).2.1,MR,?_⟩;left;refine⟨wd,p,o,e,pl,_,ev,[x,y],ar,HB,kvs,L.with t,_,rfl,M3,I _ _ al,SqL.of af,U.mono (ThAt.same I.t),SqL.of (I _ _ an),ag.mono (PrAt.same I.t),by show S.rows.length<10000;lia,λv4 H4 e4 M4 t4=>?_⟩;rw[if_neg w4]at M4;obtain⟨ak,ai,ae⟩:=M4.things;have aq:ak.length=th.length:=ae.1;left;refine Cz ai (by lia) ?_;have M5:=M4.setThings (ae.snoc t4);left;refine q _ t (e1.trans' (L':=L.with t) ((I.m _).trans (e4.trans (SameM.upd (.inr (.inr (.inr rfl)))))) rfl rfl rfl (.inr Y)) M5 Y
def Zc5 (K:Pi)(C:Addr):Sp:=λvs H Q _=>eX5 λ(n:Int)(HB:Hp)(kvs:List (List Ax×V))(L:Ml)(S:MS)=>vs=[.ref L.m,.int n]/\MAt K HB C kvs L H S/\S.steps+n<=500/\∀H',SameM L H H'->MAt K HB C kvs L H' { S with steps:=S.steps+n }->Q .non H'
def Zfh:Bc pO pO (A7 Hr):=by walk_at "sc"
def Zum (F:Fun K "make_steps" "Machine.make_steps" Hr f fd)(T:Txt K mg)(O:Mc K C)(kU:F4 mg "MOST_STEPS" (.int 500)):FnOk P w K mg base As 1 f fd pO (Zc5 K C):=by
 refine F.okq Zfh (λvs H Q E h=>?_) (λY A outer s H vs Q E Z h=>?_)
 ·obtain⟨n,HB,kvs,L,S,rfl,_⟩:=h;rfl
 ·obtain⟨n,HB,kvs,L,S,rfl,M,hn,q⟩:=h;refine⟨_,Ab (Zke K Ad Af Zj2)
   (A4 (Ay (Bt Gz (Ce K Ad) (Hh kU)) (A4 Zbw) A2)),?_⟩
  left;refine⟨_,rfl,L.m,C,L.dx,_,_,rfl,M.ins,O.cl,O.ns,K0 L S.steps,_,rfl,?_⟩;refine⟨_,_,rfl,rfl,L.dx,_,M.ins,by show 5<1000;decide,?_⟩;rw[Zhz];have I:=M.setSteps (S.steps+n);have U:SameM L H (upd H L.m (.ins C L.dx (L.fs (S.steps+n)))):=SameM.upd (.inl rfl);revert I U;generalize upd H L.m (.ins C L.dx (L.fs (S.steps+n)))=H1;intro I U;left;refine⟨_,rfl,L.m,C,L.dx,_,_,rfl,I.ins,O.cl,O.ns,K0 L (S.steps+n),?_⟩;left;rw[dI (by lia)];left;exact q _ U I
def Ztm (F:FnOk P w K mg base As k f fd ps sp):FnOk P w K mg base CX k f fd ps sp:=⟨F.len,λA outer s H I Z vs Q E Y U hb hv O=>Tx (F.run A outer s H I Z vs Q E Y U hb hv O) λr s' h=>by
 cases r with
 |ok f=>cases f <;> exact h
 |error e=>exact Qp h⟩
def Zoh (F1:FnOk P w K mg base CX k f fd ps sp1)(F2:FnOk P w K mg base CX k f fd ps sp2):FnOk P w K mg base CX k f fd ps (λvs H Q E=>sp1 vs H Q E\/sp2 vs H Q E) :=
 ⟨λvs H Q E h=>h.elim (F1.len vs H Q E) (F2.len vs H Q E),λA outer s H I Y vs Q E U O hb hv Z=>Z.elim (F1.run A outer s H I Y vs Q E U O hb hv) (F2.run A outer s H I Y vs Q E U O hb hv)⟩
def Zix (K:Pi)(C TL:Addr):Sp:=λvs H _ E=>eX5 λ(n:Int)(HB:Hp)(kvs:List (List Ax×V))(L:Ml)(S:MS)=>vs=[.ref L.m,.int n]/\MAt K HB C kvs L H S/\500<S.steps+n/\∀H',SameM L H H'->E (.ref TL) none H'
def Zpz (F:Fun K "make_steps" "Machine.make_steps" Hr f fd)(T:Txt K mg)(O:Mc K C)(kU:F4 mg "MOST_STEPS" (.int 500))(R_TooLong:Zbe K N_TooLong)(kQ:mg "TooLong"=some (.ref N_TooLong)):FnOk P w K mg base (Bz P w) 1 f fd pO (Zix K C N_TooLong):=by
 refine F.okx Zfh (λvs H Q E h=>?_) (λaa A outer s H vs Q E hr h=>?_)
 ·obtain⟨n,HB,kvs,L,S,rfl,_⟩:=h;rfl
 ·obtain⟨n,HB,kvs,L,S,rfl,M,hn,q⟩:=h;refine⟨_,Ab (Zke K Ad Af Zj2)
   (A4 (Ay (Bt Gz (Ce K Ad) (Hh kU)) (A4 (Zok rfl R_TooLong kQ (Aw Am) (λ_ _ _ _ _ _ _ I x h0 hn Z=>Zlo I x h0 hn Z) rfl)) A2)),?_⟩
  left;refine⟨_,rfl,L.m,C,L.dx,_,_,rfl,M.ins,O.cl,O.ns,K0 L S.steps,_,rfl,?_⟩;refine⟨_,_,rfl,rfl,L.dx,_,M.ins,by show 5<1000;decide,?_⟩;rw[Zhz];have Y:=M.setSteps (S.steps+n);have U:SameM L H (upd H L.m (.ins C L.dx (L.fs (S.steps+n)))):=SameM.upd (.inl rfl);revert Y U;generalize upd H L.m (.ins C L.dx (L.fs (S.steps+n)))=H1;intro Y U;left;refine⟨_,rfl,L.m,C,L.dx,_,_,rfl,Y.ins,O.cl,O.ns,K0 L (S.steps+n),?_⟩;left;rw[dH (by lia)];left;exact⟨Dl,q _ U⟩
noncomputable def Dd (S:MS)(wd:Str)(nv:V)(pl:List Nat)(ar:List (Str×Str×V)):(Str×V)×MS :=
 if wd∈(["num","truth"]:List Str) then ((wd,nv),S)
 else match (match nv with|.str z=>if wd="name" then Di ar z else none|_=>none) with
  |some th=>(th,S)
  |none=>(("row",.int (S.rows.length:Nat)),{ S with rows:=S.rows++[⟨wd,Ap pl,[],if wd∈WA then ar else []⟩] })
def Zer (K:Pi)(C:Addr):Sp:=λvs H Q _=>∃(wd:Str)(nv:V)(p e:Addr)(pl:List Nat)(ev:List V)(ar:List (Str×Str×V))(HB:Hp)(kvs:List (List Ax×V))(L:Ml)(S:MS),vs=[.ref L.m,.str wd,nv,.ref p,.ref e]/\MAt K HB C kvs L H S/\H p=some (.tup (A9 pl))/\SqL K H e ev/\Al (PrAt K H) ev ar/\S.rows.length<10000/\(wd∈(["num","truth"]:List Str)->Db nv=true)/\(wd="name" -> ∃z,nv=.str z) /\
 ∀v H',SameM L H H'->MAt K HB C kvs L H' (Dd S wd nv pl ar).2->ThAt K H' v (Dd S wd nv pl ar).1->Q v H'
def Zf9:Bc ["self","word","note","place","around","bound"] pL (A7 Ko):=by walk_at "sc"
def Zr0 (F:Fun K "thing_of_leaf" "Machine.thing_of_leaf" Ko f fd)(T:Txt K mg)(O:Mc K C)(MR:Dc As P w K mg base 1 C "new_row" ["self","word","place","operands","around"] (Nr K C)):FnOk P w K mg base As 2 f fd pL (Zer K C):=by
 refine F.okq Zf9 (λvs H Q E h=>?_) (λae A outer s H vs Q E Y h=>?_)
 ·obtain⟨wd,nv,p,e,pl,ev,ar,HB,kvs,L,S,rfl,_⟩:=h;rfl
 ·obtain⟨wd,nv,p,e,pl,ev,ar,HB,kvs,L,S,rfl,M,hp,he,aa,hz,hf,ac,q⟩:=h;refine⟨_,Ab (Ay (Bt (G6 K) Af (Aj (Ag Am Am))) (Ao (Aj (Ag Af Av))) A2)
   (Ab (Ak 5 Zf9 (Ec (Zh9 K Y.u200 rfl) T.dict (Aw A6))) (Ab (Ay (QW.qt (D3 (Bk K Y Af Am) (D7 (Oy (Zpu Y.u1 Av (qv 5)))))) (Ao (Np Y.u1 (qv 5) Av (λ_ _=>rfl))) A2) (Ao (Dr (k:=1) K As pG Ad Y.m Dy (Dj Af A3 (Bp Bm) A6))))),?_⟩
  have bg:=big;unfold Dd at q;left;refine⟨Bl,λp1 h1=>?_⟩;refine Fn (.inr (SqT.of Ac)) rfl rfl ?_;have U:Same H (upd H p1 (.tup [.str "num",.str "truth"])):=Same.upd h1;rw[if_neg Pu,show Ff (.str wd) [.str "num",.str "truth"]=decide (wd∈(["num","truth"]:List Str)) from Il (ws:=["num","truth"])];revert U;generalize upd H p1 (.tup [.str "num",.str "truth"])=H1;intro U;left;refine Bf (λh=>?_) (λh=>?_)
  ·have h:wd∈(["num","truth"]:List Str):=dJ h;rw[if_pos h]at q;left;refine⟨Bl,λp2 h2=>?_⟩;have s2:=U.put (o:=.tup [.str wd,nv]) h2;exact q _ _ (s2.m L) (M.new s2) ⟨hf h,p2,rfl,SqT.of Ac⟩
  have h:¬wd∈(["num","truth"]:List Str):=λx=>h (dH x);rw[if_neg h]at q;left;obtain⟨bk,ad,look⟩:=Zpf (K:=K) (H:=H1) ev ar (aa.mono (PrAt.same U.t));refine⟨e,ev,rfl,U.seq he,.inl ⟨bk,ad,λd hd=>?_⟩⟩;obtain⟨H2,s2,e2,z9⟩:=Df hd (.dK (Cg [] bk));rw[z9];have I:=U.trans s2;have M2:=M.new I;have row:(match nv with|.str z=>if wd="name" then Di ar z else none|_=>none)=none->∀l,H2 l=none->Nr K C [.ref L.m,.str wd,.ref p,.ref l,.ref e] (upd H2 l (.lst [])) Q E0:=by
   intro hn l hl;rw[hn]at q;have Z:=I.put (o:=.lst []) hl;refine⟨wd,p,l,e,pl,[],ev,[],ar,HB,kvs,L,S,rfl,M.new Z,Z _ _ hp,SqL.of Ac,.nil,Z.seq he,aa.mono (PrAt.same Z.t),hz,λv H' e' M' t'=>q v H' ((Z.m L).trans e') M' t'⟩
  left;by_cases hw:wd="name"
  ·subst hw;obtain⟨z,rfl⟩:=ac rfl;rw[dH (Eq.refl _)];refine iteT ?_;refine⟨_,rfl,_,rfl,d,_,rfl,DGet.k (k:=Sum.inr z) e2,?_⟩;rw[Zd6];rcases look z with⟨l1,l2⟩|⟨u,th,l1,l2,t⟩
   ·rw[l1];refine⟨false,rfl,?_⟩;refine iteF ?_;left;refine⟨_,rfl,L.m,C,L.dx,_,_,rfl,M2.ins,(Dp L S.steps).2.1,MR,?_⟩;left;refine⟨Bj,λl hl=>?_⟩;left;exact row (by simp[l2]) l hl
   ·rw[l1];refine⟨true,rfl,?_⟩;refine iteT ?_;left;refine⟨_,rfl,_,rfl,d,u,rfl,?_,?_⟩
    ·rw[<- l1,<- Zd6];exact DGet.k (k:=Sum.inr z) e2
    ·have e:(match V.str z with|.str z=>if ("name":Str)="name" then Di ar z else none|_=>none)=some th:=by simp[l2]
     rw[e]at q;exact q _ _ (I.m L) M2 (ThAt.same s2.t _ _ t)
  ·rw[dI (λh=>hw (V.str.inj h))];left;refine⟨_,rfl,L.m,C,L.dx,_,_,rfl,M2.ins,(Dp L S.steps).2.1,MR,?_⟩;left;refine⟨Bj,λl hl=>?_⟩;left;refine row ?_ l hl;cases nv <;> simp[hw]
noncomputable def Ey:Dt->V
 |.flat v=>v
 |_=>.non
noncomputable def Gb (S:MS)(wd:Str)(d:Dt)(pl:List Nat)(ar:List (Str×Str×V)):MS :=
 let S1:=if wd="gap" then S else { S with steps:=S.steps+1 }
 match Bq wd with
 |some ns=>{ S1 with wait:=(S1.wait++[⟨pl,ar,true⟩])++ns.map λn=>⟨pl++[n.toNat],ar,false⟩ }
 |none=>{ (Dd S1 wd (Ey d) pl ar).2 with things:=(Dd S1 wd (Ey d) pl ar).2.things++[(Dd S1 wd (Ey d) pl ar).1] }
def Pd (wd:Str)(d:Dt):Prop:=(wd∈(["num","truth"]:List Str)->∃v,d=.flat v)/\(wd="name" -> ∃z,d=.flat (.str z))
def Zji (K:Pi)(C:Addr):Sp:=λvs H Q _=>eX13 λ(p e:Addr)(pl:List Nat)(ev:List V)(ar:List (Str×Str×V))(HB:Hp)(kvs:List (List Ax×V))(L:Ml)(S:MS)(v:V)(wd:Str)(d:Dt)(ts:List Tr)=>vs=[.ref L.m,.ref p,.ref e]/\MAt K HB C kvs L H S/\H p=some (.tup (A9 pl))/\H e=some (.lst ev)/\Al (PrAt K H) ev ar/\¬L.A e/\Ck kvs (D6 pl)=some v/\TrAt K H v (.mk wd d ts)/\Pd wd d/\pl.length<=2000/\S.rows.length<9000/\S.wait.length<9000/\S.things.length<9000/\(wd≠"gap" -> S.steps+1<=500) /\
 ∀H',SameM L H H'->MAt K HB C kvs L H' (Gb S wd d pl ar)->Q .non H'
def Zgi:(["number","around","place"]:List Str).Nodup:=by right
def Zao:Bc ["self","place","around","word","note"] pB (A7 Hv):=by walk_at "sc"
def Zps (h:Bq wd=some ns):ns.length<=2/\∀n∈ns,0<=n:=by
 unfold Bq at h;split at h
 ·cases h;exact⟨by decide,by decide⟩
 split at h
 ·cases h;exact⟨by decide,by decide⟩
 ·cases h
def Zvo (h:IsN K H nv d)(hn:Pd wd d):Dd S wd nv pl ar=Dd S wd (Ey d) pl ar:=by
 rcases h with⟨_,rfl⟩|⟨a,vs,rfl,_,_,rfl⟩
 ·rfl
 ·have h1:¬wd∈(["num","truth"]:List Str):=λx=>by obtain⟨v,e⟩:=hn.1 x;cases e
  unfold Dd;rw[if_neg h1,if_neg h1];rfl
def Zmn (S:MS)(wd:Str)(nv:V)(pl:List Nat)(ar:List (Str×Str×V)):(Dd S wd nv pl ar).2.things=S.things:=by
 unfold Dd;split
 ·rfl
 split <;> rfl
def Zv2 (F:Fun K "come_to" "Machine.come_to" Hv f fd)(T:Txt K mg)(O:Mc K C)(kB:F4 mg "PARTS_AWAITED" (.ref ap))(hpa:Im P w K ap pk)(hpk:∀wd,(Dz pk wd).isSome=(Bq wd).isSome/\∀ns,Bq wd=some ns->∃b,Dz pk wd=some (.ref b)/\∀H,SqT K H b (ns.map V.int))(MS_:Dc As P w K mg base 1 C "make_steps" ["self","many"] (Zc5 K C))(MLf:Dc As P w K mg base 2 C "thing_of_leaf" ["self","word","note","place","around"] (Zer K C)):FnOk P w K mg base As 3 f fd pB (Zji K C):=by
 refine F.okq Zao (λvs H Q E h=>?_) (λbp A outer s H vs Q E hr h=>?_)
 ·obtain⟨p,e,pl,ev,ar,HB,kvs,L,S,v,wd,d,ts,rfl,_⟩:=h;rfl
 ·obtain⟨p,e,pl,ev,ar,HB,kvs,L,S,v,wd,d,ts,rfl,M,hp,he,bi,nA,hv,ht,aq,bv,z1,z2,z3,z4,q⟩:=h;refine⟨_,Ab (Et (Eg (Fc K) (Np hr.u1 (Ce K Ad) Af (λ_ _=>rfl)) Fz (Cv Aa)) (G0 K Zao 3 4))
   (Ab (Ay (Bt (Ft K hr.u200) A3 Am) (A4 (B2 (Dr (k:=1) K As pO Ad hr.m Dy (Aw Aa)))) A2) (A4 (Ay (Bt (Zbz P w K) A3 (Hh kB)) (Ab (B2 (Cn K Pw Qf Qg Cy (Ce K Ad) (Aw (Aj (Bd Af Av Cw))))) (A4 (B2 (Cn K Pw Wk Wl Zb4 (Ce K Ad) (Aw (Zci (N:=["number","around","place"]) (σ0:=Ge 1 [2,1]) rfl (Mg rfl (by right) (by right) (by right)) (Ep K (O8 (Zcf P w K) (Hh kB) A3 (λ_ _=>rfl))) (Lf rfl (by rfl)) (λ_ _ _ _=>Hf (i:=0) Zgi rfl (Or.inl rfl)) (λ_ _ _ _=>Nz) (λ_ _ _ _=>Aj (Bd (Ae (K4 K) Av (Aj (Aw Ad))) Af Cw)))))))) (A4 (B2 (Cn K Pw Qf Qg Cy (Ce K Ad) (Aw (Dr (k:=2) K As pL Ad hr.m Dy (Dj A3 A6 Af Av))))))))),?_⟩
  have bg:=big;cases ht with
  | @mk b pp _ nv _ vs _ qb hn bo hl br =>
  left;refine⟨_,rfl,L.m,C,L.dx,_,_,rfl,M.ins,O.cl,O.nf,Zbg L S.steps,_,rfl,L.fd,.ref b,rfl,?_,?_⟩
  ·rw[<- hv];refine DGet.t M.frm ?_;rw[Nn];exact hp
  left;refine .inr (.inr ⟨b,_,rfl,qb,by show ¬(HT.sIx 3 0 none=0/\HT.sIx 3 3 (some 2)=3);decide,λp1 h1=>?_⟩);rw[show Ca [V.str wd,nv,.ref pp] none (some 2)=[V.str wd,nv] from rfl];have s1:Same H (upd H p1 (.tup [.str wd,nv])):=Same.upd h1;have e1:upd H p1 (.tup [.str wd,nv]) p1=some (.tup [.str wd,nv]):=Ac;have am:=s1 _ _ hp;have aj:=s1 _ _ he;have M1:=M.new s1;have ai:IsN K (upd H p1 (.tup [.str wd,nv])) nv d:=hn.same s1.t;revert s1 e1 am aj M1 ai;generalize upd H p1 (.tup [.str wd,nv])=H1;intro s1 e1 am aj M1 ai;refine Dv (SqT.of e1) rfl ?_;refine s_gcons ?_;refine s_gname ?_;refine s_gcons ?_;refine s_gname ?_;refine s_gnil ?_;with_reducible refine s_seq ?_
  obtain⟨S1,af⟩:∃S1,S1=(if wd="gap" then S else { S with steps:=S.steps+1 }):=⟨_,rfl⟩;refine via (t:=Cm _ _ _) (R:=λH2=>SameM L H1 H2/\MAt K HB C kvs L H2 S1) ?_ (λY hY=>?_)
  ·rintro H2 ⟨m2,M2⟩;have a2:=M1.a m2;have t2:=M1.t m2;have al:=(t2 p).1 _ am;have an:=a2.2 _ _ nA aj;have Z:Al (PrAt K H2) ev ar:=bi.mono (PrAt.same (s1.t.trans t2));have ay:SameM L H H2:=(s1.m L).trans m2;have ah:IsN K H2 nv d:=ai.same t2;obtain⟨y1,y2,y3⟩:S1.rows=S.rows/\S1.wait=S.wait/\S1.things=S.things:=by
    rw[af];split <;> exact⟨rfl,rfl,rfl⟩
   have q:∀H',SameM L H H'->MAt K HB C kvs L H' (match Bq wd with
    |some ns=>{ S1 with wait:=(S1.wait++[⟨pl,ar,true⟩])++ns.map λn=>⟨pl++[n.toNat],ar,false⟩ }
    |none=>{ (Dd S1 wd (Ey d) pl ar).2 with things:=(Dd S1 wd (Ey d) pl ar).2.things++[(Dd S1 wd (Ey d) pl ar).1] })->Q .non H':=by
    intro H' e' M';refine q H' e' ?_;unfold Gb;rw[<- af];exact M'
   left;refine⟨wd,ap,pk,rfl,rfl,hpa,?_⟩;rw[(hpk wd).1];cases ac:Bq wd with
   |none =>
    rw[ac]at q;left;refine iteF ?_;left;obtain⟨tv,et,bw⟩:=M2.things;refine⟨_,rfl,L.m,C,L.dx,_,_,rfl,M2.ins,O.cl,O.nt,Hg L S1.steps,?_⟩;refine B7 (SqL.of et) ?_;left;refine⟨_,rfl,L.m,C,L.dx,_,_,rfl,M2.ins,(Dp L S1.steps).2.2.1,MLf,?_⟩;left;refine⟨wd,nv,p,e,pl,ev,ar,HB,kvs,L,S1,rfl,M2,al,SqL.of an,Z,by rw[y1];lia,(λx=>by
     obtain⟨v,rfl⟩:=aq.1 x;rcases ah with⟨h,_⟩|⟨a,vs,_,_,_,h⟩
     ·exact h
     ·cases h),(λx=>by
     obtain⟨z,rfl⟩:=aq.2 x;rcases ah with⟨_,h⟩|⟨a,vs,_,_,_,h⟩
     ·injection h with h;exact⟨z,h.symm⟩
     ·cases h),λv H3 e3 M3 t3=>?_⟩
    rw[Zvo ah aq]at M3 t3;obtain⟨a5,bh,av⟩:=M3.things;have bx:a5.length=S.things.length:=by rw[av.1,Zmn,y3]
    left;refine Cz bh (by lia) ?_;have M4:=M3.setThings (av.snoc t3);left;exact q _ (ay.trans (e3.trans (SameM.upd (.inr (.inr (.inr rfl)))))) M4
   |some ns =>
    rw[ac]at q;obtain⟨nl,nn⟩:=Zps ac;obtain⟨bt,a4,ax⟩:=(hpk wd).2 ns ac;left;refine iteT ?_;left;obtain⟨wv,ew,aw⟩:=M2.wait;have b0:wv.length=S.wait.length:=by rw[aw.1,y2]
    refine⟨_,rfl,L.m,C,L.dx,_,_,rfl,M2.ins,O.cl,O.nw,Jg L S1.steps,?_⟩;refine B7 (SqL.of ew) ?_;left;refine⟨Bs,λr ba=>?_⟩;obtain⟨H3,s3,e3,z9⟩:=Df ba (.tup [.ref p,.ref e,.bl true]);rw[z9];left;refine Cz (s3 _ _ ew) (by lia) ?_;have M3:=M2.new s3;have M4:=M3.setWait (wv:=wv++[.ref r]) (ws:=S1.wait++[⟨pl,ar,true⟩]) ((aw.mono (WtAt.same s3.a)).snoc ⟨r,p,e,ev,rfl,SqT.of e3,s3 _ _ al,s3 _ _ an,Z.mono (PrAt.same s3.t),nA⟩);have aa:SameM L H3 (upd H3 L.wd (.lst (wv++[.ref r]))):=SameM.upd (.inr (.inr (.inl rfl)));have U:upd H3 L.wd (.lst (wv++[.ref r])) L.wd=some (.lst (wv++[.ref r])):=Ac;revert M4 aa U;generalize upd H3 L.wd (.lst (wv++[.ref r]))=H4;intro M4 aa U;have t4:=M3.t aa;have be:=(t4 p).1 _ (s3 _ _ al);have a0:=(M3.a aa).2 _ _ nA (s3 _ _ an);have as:Al (PrAt K H4) ev ar:=Z.mono (PrAt.same (s3.t.trans t4));have a6:SameM L H H4:=ay.trans ((s3.m L).trans aa);left;refine⟨_,rfl,L.m,C,L.dx,_,_,rfl,M4.ins,O.cl,O.nw,Jg L S1.steps,?_⟩;refine B7 (SqL.of U) ?_;left;refine⟨ap,pk,wd,.ref bt,rfl,rfl,hpa,a4,.inr (.inl ⟨bt,rfl,⟨_,ax _⟩,λD hD=>?_⟩)⟩;obtain⟨bq,bj,_⟩:=M4.rows;obtain⟨bu,a7,_⟩:=M4.things;have nD:¬L.A D:=by
     rintro(z|z|z)
     ·rw[z,bj]at hD;cases hD
     ·rw[z,U]at hD;cases hD
     ·rw[z,a7]at hD;cases hD
    refine Zmd (K:=K) (a:=bt) (xs:=ns.map V.int) (Pv:=λi ys ag H'=>∃kv,ag=[kv,some (.ref e),some (.ref p)]/\Al (WtAt K (λb=>L.A b\/b=D) H') ys ((ns.take i).map λn=>⟨pl++[n.toNat],ar,false⟩)/\Same H4 H') ⟨none,rfl,.nil,Same.upd hD⟩ (λi ys ag H' _ _=>ax _) ?_ ?_
    ·rintro i x ys ag H5 hx ae ⟨kv,rfl,I,s5⟩;rw[Qm]at hx;obtain⟨n,ak,rfl⟩:=Q0.mp hx;have b3:i<ns.length:=(Pt.mp ak).1;have n0:=nn n (Qu ak);obtain⟨k,rfl⟩:∃k:Nat,n=(k:Int):=⟨n.toNat,by lia⟩;have bb:ys.length<=2:=by rw[I.1,Pq,Qq];lia
     left;refine⟨Dl,λp6 h6=>?_⟩;obtain⟨H6,s6,e6,z9⟩:=Df h6 (.tup [.int (k:Nat)]);rw[z9];refine Zcr (s6 _ _ (s5 _ _ be)) e6 (by unfold A9;rw[Pq,Pz];lia) λp7 H7 s7 e7=>?_;left;refine⟨Bs,λp8 h8=>?_⟩;obtain⟨H8,s8,e8,z9⟩:=Df h8 (.tup [.ref p7,.ref e,.bl false]);rw[z9];have ad:=s6.trans (s7.trans s8);have ao:=s5.trans ad;refine⟨_,ad _ _ ae,by lia,_,Ac,?_⟩;have bf:=ad _ _ ae;have sA:SameA (λb=>L.A b\/b=D) H8 (upd H8 D (.lst (ys++[.ref p8]))):=SameA.set bf (.inr rfl);have bn:e≠D:=λz=>by rw[<- z,a0]at hD;cases hD
     ·refine⟨_,rfl,?_,ao.over hD⟩;rw[Sv,ak,Vl,Ql,Wu];refine(I.mono λv x h=>WtAt.same sA v x (WtAt.same ad.a v x h)).snoc (WtAt.same sA _ _ ⟨p8,p7,e,ev,rfl,SqT.of e8,?_,ao _ _ a0,as.mono (PrAt.same ao.t),λh=>h.elim nA bn⟩);have e9:=s8 _ _ e7;show H8 p7=some (.tup (A9 (pl++[((k:Nat):Int).toNat])));rw[show A9 (pl++[((k:Nat):Int).toNat])=A9 pl++[.int ((k:Nat):Int)] by unfold A9;rw[Ql];simp];exact e9
    ·rintro ys ag H5 ae ⟨kv,rfl,I,s5⟩;rw[Pq,Vt]at I;have I:=I.mono (WtAt.mono (B:=L.A) λb hb _=>.inl hb);left;have bb:ys.length<=2:=by rw[I.1,Pq];lia
     refine⟨L.wd,D,_,ys,rfl,rfl,s5 _ _ U,ae,by rw[Pn,Pz];lia,?_⟩;have M5:=M4.new s5;obtain⟨a9,au,a8⟩:=M5.wait;have a3:a9=wv++[.ref r]:=by rw[s5 _ _ U]at au;cases au;rfl
     subst a3;have M6:=M5.setWait (a8.append I);left;exact q _ (a6.trans ((s5.m L).trans (SameM.upd (.inr (.inr (.inl rfl)))))) M6
  ·left;by_cases hg:wd="gap"
   ·rw[dH (by rw[hg])];left;exact hY _ ⟨SameM.refl _ _,by rw[af,if_pos hg];exact M1⟩
   ·rw[dI (λh=>hg (V.str.inj h))];left;refine⟨_,rfl,L.m,C,L.dx,_,_,rfl,M1.ins,(Dp L S.steps).1,MS_,?_⟩;left;refine⟨1,HB,kvs,L,S,rfl,M1,z4 hg,λH2 e2 M2=>?_⟩;left;exact hY _ ⟨e2,by rw[af,if_neg hg];exact M2⟩
def Zgu (K:Pi)(C TL:Addr):Sp:=λvs H _ E=>eX13 λ(p e:Addr)(pl:List Nat)(ev:List V)(ar:List (Str×Str×V))(HB:Hp)(kvs:List (List Ax×V))(L:Ml)(S:MS)(v:V)(wd:Str)(d:Dt)(ts:List Tr)=>vs=[.ref L.m,.ref p,.ref e]/\MAt K HB C kvs L H S/\H p=some (.tup (A9 pl))/\H e=some (.lst ev)/\Al (PrAt K H) ev ar/\¬L.A e/\Ck kvs (D6 pl)=some v/\TrAt K H v (.mk wd d ts)/\wd≠"gap"/\500<S.steps+1 /\
 ∀H',SameM L H H'->E (.ref TL) none H'
def Zpk (F:Fun K "come_to" "Machine.come_to" Hv f fd)(T:Txt K mg)(O:Mc K C)(kB:F4 mg "PARTS_AWAITED" (.ref ap))(hpa:Im P w K ap pk)(hpk:∀wd,(Dz pk wd).isSome=(Bq wd).isSome/\∀ns,Bq wd=some ns->∃b,Dz pk wd=some (.ref b)/\∀H,SqT K H b (ns.map V.int))(MS_:Dc (Bz P w) P w K mg base 1 C "make_steps" ["self","many"] (Zix K C TL))(MLf:Dc As P w K mg base 2 C "thing_of_leaf" ["self","word","note","place","around"] (Zer K C)):FnOk P w K mg base (Bz P w) 3 f fd pB (Zgu K C TL):=by
 refine F.okx Zao (λvs H Q E h=>?_) (λad A outer s H vs Q E hr h=>?_)
 ·obtain⟨p,e,pl,ev,ar,HB,kvs,L,S,v,wd,d,ts,rfl,_⟩:=h;rfl
 ·obtain⟨p,e,pl,ev,ar,HB,kvs,L,S,v,wd,d,ts,rfl,M,hp,he,ae,nA,hv,ht,hg,h5,q⟩:=h;refine⟨_,Ab (Et (Eg (Fc K) (Np hr.u1 (Ce K Ad) Af (λ_ _=>rfl)) Fz (Cv Aa)) (G0 K Zao 3 4))
   (Ab (Ay (Bt (Ft K hr.u200) A3 Am) (A4 (B2 (Dr (k:=1) K (Bz P w) pO Ad hr.m (Hu (λ_ _ _ h=>h)) (Aw Aa)))) A2) (A4 (Ay (Bt (Zbz P w K) A3 (Hh kB)) (Ab (B2 (Cn K Pw Qf Qg Cy (Ce K Ad) (Aw (Aj (Bd Af Av Cw))))) (A4 (B2 (Cn K Pw Wk Wl Zb4 (Ce K Ad) (Aw (Zci (N:=["number","around","place"]) (σ0:=Ge 1 [2,1]) rfl (Mg rfl (by right) (by right) (by right)) (Ep K (O8 (Zcf P w K) (Hh kB) A3 (λ_ _=>rfl))) (Lf rfl (by rfl)) (λ_ _ _ _=>Hf (i:=0) Zgi rfl (Or.inl rfl)) (λ_ _ _ _=>Nz) (λ_ _ _ _=>Aj (Bd (Ae (K4 K) Av (Aj (Aw Ad))) Af Cw)))))))) (A4 (B2 (Cn K Pw Qf Qg Cy (Ce K Ad) (Aw (Dr (k:=2) K As pL Ad hr.m Dy (Dj A3 A6 Af Av))))))))),?_⟩
  have bg:=big;cases ht with
  | @mk b pp _ I _ vs _ qb hn ac hl af =>
  left;refine⟨_,rfl,L.m,C,L.dx,_,_,rfl,M.ins,O.cl,O.nf,Zbg L S.steps,_,rfl,L.fd,.ref b,rfl,?_,?_⟩
  ·rw[<- hv];refine DGet.t M.frm ?_;rw[Nn];exact hp
  left;refine .inr (.inr ⟨b,_,rfl,qb,by show ¬(HT.sIx 3 0 none=0/\HT.sIx 3 3 (some 2)=3);decide,λp1 h1=>?_⟩);rw[show Ca [V.str wd,I,.ref pp] none (some 2)=[V.str wd,I] from rfl];have U:Same H (upd H p1 (.tup [.str wd,I])):=Same.upd h1;have e1:upd H p1 (.tup [.str wd,I]) p1=some (.tup [.str wd,I]):=Ac;have Z:=U _ _ hp;have aa:=U _ _ he;have M1:=M.new U;have Y:IsN K (upd H p1 (.tup [.str wd,I])) I d:=hn.same U.t;revert U e1 Z aa M1 Y;generalize upd H p1 (.tup [.str wd,I])=H1;intro U e1 Z aa M1 Y;refine Dv (SqT.of e1) rfl ?_;refine s_gcons ?_;refine s_gname ?_;refine s_gcons ?_;refine s_gname ?_;refine s_gnil ?_;with_reducible refine s_seq ?_
  left;rw[dI (λh=>hg (V.str.inj h))];left;refine⟨_,rfl,L.m,C,L.dx,_,_,rfl,M1.ins,(Dp L S.steps).1,MS_,?_⟩;left;exact⟨1,HB,kvs,L,S,rfl,M1,h5,λH2 e2=>q _ ((U.m L).trans e2)⟩
inductive Gp (sub:List Nat->Option (Str×Dt)):MS->MS->Prop where
 |come {S:MS} {w:List Wt} {x:Wt} {wd:Str} {d:Dt} (hw:S.wait=w++[x]) (hc:x.came=false) (hs:sub x.pl=some (wd,d)) (hn:Pd wd d) (h5:wd≠"gap" -> S.steps+1<=500):Gp sub S (Gb { S with wait:=w } wd d x.pl x.ar)
 |further {S S2:MS} {w:List Wt} {x:Wt} {wd:Str} {d:Dt} (hw:S.wait=w++[x]) (hc:x.came=true) (hs:sub x.pl=some (wd,d)) (hf:Jm sub wd d x.pl x.ar { S with wait:=w } S2) (hr:x.ar.length<=9000):Gp sub S S2
structure Iy (S:MS):Prop where
 r:S.rows.length<9000
 w:S.wait.length<9000
 t:S.things.length<9000
inductive RunM (sub:List Nat->Option (Str×Dt)):Nat->MS->MS->Prop where
 |nil {S:MS} (h:S.wait=[]):RunM sub 0 S S
 |cons {n:Nat} {S S1 S2:MS} (hs:Iy S) (h1:Gp sub S S1) (h2:RunM sub n S1 S2):RunM sub (n+1) S S2
inductive RunL (sub:List Nat->Option (Str×Dt)):Nat->MS->Prop where
 |last {S:MS} {w:List Wt} {x:Wt} {wd:Str} {d:Dt} (hs:Iy S) (hw:S.wait=w++[x]) (hc:x.came=false) (hsub:sub x.pl=some (wd,d)) (hg:wd≠"gap") (h5:500<S.steps+1):RunL sub 0 S
 |cons {n:Nat} {S S1:MS} (hs:Iy S) (h1:Gp sub S S1) (h2:RunL sub n S1):RunL sub (n+1) S
inductive RunX (sub:List Nat->Option (Str×Dt)):Nat->MS->Option MS->Prop where
 |nil {S:MS} (h:S.wait=[]):RunX sub 0 S (some S)
 |last {S:MS} {w:List Wt} {x:Wt} {wd:Str} {d:Dt} (hs:Iy S) (hw:S.wait=w++[x]) (hc:x.came=false) (hsub:sub x.pl=some (wd,d)) (hg:wd≠"gap") (h5:500<S.steps+1):RunX sub 0 S none
 |cons {n:Nat} {S S1:MS} {o:Option MS} (hs:Iy S) (h1:Gp sub S S1) (h2:RunX sub n S1 o):RunX sub (n+1) S o
def RunM.x (h:RunM sub n S S'):RunX sub n S (some S'):=by
 induction h with
 |nil h=>exact .nil h
 |cons a b _ I=>exact .cons a b I
def RunL.x (h:RunL sub n S):RunX sub n S none:=by
 induction h with
 |last a b c d e f=>exact .last a b c d e f
 |cons a b _ I=>exact .cons a b I
def Zeo (K:Pi)(C TL:Addr):Sp:=λvs H Q E=>eX7 λ(HB:Hp)(kvs:List (List Ax×V))(L:Ml)(S:MS)(sub:List Nat->Option (Str×Dt))(n:Nat)(o:Option MS)=>vs=[.ref L.m]/\MAt K HB C kvs L H S/\FormsAt K H kvs sub/\RunX sub n S o/\(∀S',o=some S'->eX2 λ(th:List (Str×V))(x:Str×V)=>S'.things=th++[x]/\∀v H' t,SameM L H H'->MAt K HB C kvs (L.with t) H' { S' with things:=th }->ThAt K H' v x->Q v H')/\(o=none->∀H',Same HB H'->E (.ref TL) none H')
def Zfa:Bc ["self","place","around","parts_came"] ["self"] (A7 Ku):=by walk_at "sc"
def Zvg (F:Fun K "thing_at_the_end" "Machine.thing_at_the_end" Ku f fd)(T:Txt K mg)(O:Mc K C)(MC:Dc (Bz P w) P w K mg base 3 C "come_to" ["self","place","around"] (λvs H Q E=>Zji K C vs H Q E\/Zgu K C TL vs H Q E))(MG:Dc As P w K mg base 4 C "go_further" ["self","place","around"] (Zfu K C)):FnOk P w K mg base (Bz P w) 5 f fd ["self"] (Zeo K C TL):=by
 refine F.okx Zfa (λvs H Q E h=>?_) (λba A outer s H vs Q E hr h=>?_)
 ·obtain⟨HB,kvs,L,S,sub,n,oo,rfl,_⟩:=h;rfl
 ·obtain⟨HB,kvs,L,S,sub,n,oo,rfl,M,FA,R,qS,qN⟩:=h;refine⟨_,Ab (Zj7 PassesOwn.leaving (Zbn K (Ce K Ad) (by intro _;rfl)) (Ab (Et (Ot K Pw Ue Uf Ol (Ce K Ad)) (Lj K Zfa 1 2 3)) (A4 (Ay (Zbn K A3 (by intro _;rfl)) (A4 (B2 (Dr (k:=4) K As pB Ad hr.m Dy (Ag Af Av)))) (A4 (B2 (Dr (k:=3) K (Bz P w) pB Ad hr.m (Hu (λ_ _ _ h=>h)) (Ag Af Av))))))))
   (Ao (Ot K Pw Ue Uf Ol (Ce K Ad))),?_⟩
  have bg:=big;left;refine⟨λm aq H'=>eX5 λv1 v2 v3 S1 t=>aq=[some (.ref L.m),v1,v2,v3]/\MAt K HB C kvs (L.with t) H' S1/\RunX sub m S1 oo/\SameM L H H'/\(t=L.td\/H t=none),⟨n,none,none,none,S,L.td,rfl,M,R,SameM.refl _ _,.inl rfl⟩,?_⟩;rintro m aq H1 ⟨v1,v2,v3,S1,t,rfl,M1,R1,e1,ht⟩;obtain⟨wv,ew,aw⟩:=M1.wait;have au:=FA.same (M.t e1);left;refine⟨_,rfl,L.m,C,L.dx,_,_,rfl,M1.ins,O.cl,O.nw,Jg (L.with t) S1.steps,?_⟩;refine Zgn (SqL.of ew) ?_;cases R1 with
  |nil hw =>
   have a0:wv=[]:=R8 (by rw[aw.1,hw];rfl);subst a0;refine iteF ?_;left;obtain⟨tv,et,ak⟩:=M1.things;obtain⟨th,x,hx,q⟩:=qS _ rfl;rw[hx]at ak;obtain⟨a6,v,a9,x',rfl,ag,a3,hv⟩:=ak.last (by intro z;rw[z]at ak;have:=ak.1;simp at this);obtain⟨rfl,e2⟩:=Sy ag rfl;cases e2;refine⟨_,rfl,L.m,C,L.dx,_,_,rfl,M1.ins,O.cl,O.nt,Hg (L.with t) S1.steps,?_⟩;refine B7 (SqL.of et) ?_;refine Ms et ?_;have Y:=M1.setThings a3;have e2:SameM (L.with t) H1 (upd H1 (L.with t).td (.lst a6)):=SameM.upd (.inr (.inr (.inr rfl)));refine q v _ t (e1.trans' (L':=L.with t) e2 rfl rfl rfl ht) Y (ThAt.same (M1.t e2) _ _ hv)
  | @last _ w0 xw wd d hs hw hc ac hg h5 =>
   rw[hw]at aw;obtain⟨ae,v,a7,a5,rfl,ag,an,ap⟩:=aw.last (by intro z;rw[z]at aw;have:=aw.1;simp at this);obtain⟨rfl,e2⟩:=Sy ag rfl;cases e2;have am:(!(ae++[v]).isEmpty)=true:=by simp
   rw[am];refine iteT ?_;refine⟨λao H2=>∃m2,m2<0/\eX5 λv1 v2 v3 S1 t=>ao=[some (.ref L.m),v1,v2,v3]/\MAt K HB C kvs (L.with t) H2 S1/\RunX sub m2 S1 none/\SameM L H H2/\(t=L.td\/H t=none),λ_ _ h=>h,?_⟩;left;refine⟨_,rfl,L.m,C,L.dx,_,_,rfl,M1.ins,O.cl,O.nw,Jg (L.with t) S1.steps,?_⟩;refine B7 (SqL.of ew) ?_;refine Ms ew ?_;have Y:=M1.setWait an;have I:SameM (L.with t) H1 (upd H1 (L.with t).wd (.lst ae)):=SameM.upd (.inr (.inr (.inl rfl)));have ad:=WtAt.same (M1.a I) _ _ ap;have U:=au.same (M1.t I);revert Y I ad U;generalize upd H1 (L.with t).wd (.lst ae)=H2;intro Y I ad U;obtain⟨a,p,e,ev,rfl,qa,hp,he,ai,nA⟩:=ad;have al:SameM L H H2:=e1.trans' (L':=L.with t) I rfl rfl rfl ht;left;refine Dv qa rfl ?_;left;refine⟨xw.came,rfl,?_⟩;rw[hc];refine iteF ?_;left;obtain⟨aj,vv,ts,Z,af⟩:=U _ _ _ ac;refine⟨_,rfl,L.m,C,L.dx,_,_,rfl,Y.ins,(Dp (L.with t) S1.steps).2.2.2.1,MC,?_⟩;left;exact .inr ⟨p,e,xw.pl,ev,xw.ar,HB,kvs,L.with t,_,vv,wd,d,ts,rfl,Y,hp,he,ai,nA,Z,af,hg,h5,λH3 e3=>qN rfl _ (Y.outer e3)⟩
  | @cons m' _ S2 _ hs h1 h2 =>
   have ay:eX2 λw x=>S1.wait=w++[x]:=by
    cases h1 with
    |come hw=>exact⟨_,_,hw⟩
    |further hw=>exact⟨_,_,hw⟩
   obtain⟨wl,xw,ah⟩:=ay;rw[ah]at aw;obtain⟨ae,v,a7,a5,rfl,ag,an,ap⟩:=aw.last (by intro z;rw[z]at aw;have:=aw.1;simp at this);obtain⟨rfl,e2⟩:=Sy ag rfl;cases e2;have am:(!(ae++[v]).isEmpty)=true:=by simp
   rw[am];refine iteT ?_;refine⟨λao H2=>∃m2,m2<m'+1/\eX5 λv1 v2 v3 S1 t=>ao=[some (.ref L.m),v1,v2,v3]/\MAt K HB C kvs (L.with t) H2 S1/\RunX sub m2 S1 oo/\SameM L H H2/\(t=L.td\/H t=none),λ_ _ h=>h,?_⟩;left;refine⟨_,rfl,L.m,C,L.dx,_,_,rfl,M1.ins,O.cl,O.nw,Jg (L.with t) S1.steps,?_⟩;refine B7 (SqL.of ew) ?_;refine Ms ew ?_;have Y:=M1.setWait an;have I:SameM (L.with t) H1 (upd H1 (L.with t).wd (.lst ae)):=SameM.upd (.inr (.inr (.inl rfl)));have ad:=WtAt.same (M1.a I) _ _ ap;have U:=au.same (M1.t I);revert Y I ad U;generalize upd H1 (L.with t).wd (.lst ae)=H2;intro Y I ad U;obtain⟨a,p,e,ev,rfl,qa,hp,he,ai,nA⟩:=ad;have al:SameM L H H2:=e1.trans' (L':=L.with t) I rfl rfl rfl ht;left;refine Dv qa rfl ?_;left;have as:wl.length<9000:=by have:=hs.w;rw[ah,Pn]at this;lia
   refine⟨xw.came,rfl,?_⟩;cases h1 with
   | @come w2 x2 wd d hw hc ac hn h5 =>
    rw[ah]at hw;obtain⟨rfl,e2⟩:=Sy hw rfl;cases e2;rw[hc];refine iteF ?_;left;obtain⟨aj,vv,ts,Z,af⟩:=U _ _ _ ac;refine⟨_,rfl,L.m,C,L.dx,_,_,rfl,Y.ins,(Dp (L.with t) S1.steps).2.2.2.1,MC,?_⟩;left;refine .inl ⟨p,e,xw.pl,ev,xw.ar,HB,kvs,L.with t,_,vv,wd,d,ts,rfl,Y,hp,he,ai,nA,Z,af,hn,aj,hs.r,as,hs.t,h5,λH3 e3 M3=>?_⟩;left;exact⟨m',by lia,_,_,_,_,t,rfl,M3,h2,al.trans' (L':=L.with t) e3 rfl rfl rfl ht,ht⟩
   | @further _ w2 x2 wd d hw hc ac hf av =>
    rw[ah]at hw;obtain⟨rfl,e2⟩:=Sy hw rfl;cases e2;rw[hc];refine iteT ?_;left;obtain⟨aj,vv,ts,Z,af⟩:=U _ _ _ ac;refine⟨_,rfl,L.m,C,L.dx,_,_,rfl,Y.ins,(Dp (L.with t) S1.steps).2.2.2.2.1,MG,?_⟩;left;refine⟨p,e,xw.pl,ev,xw.ar,HB,kvs,L.with t,_,_,vv,wd,d,ts,rfl,Y,hp,he,ai,nA,Z,af,sub,U,hf,hs.r,hs.t,as,aj,av,λH3 t3 e3 M3 aa=>?_⟩;left;refine⟨m',by lia,_,_,_,_,t3,rfl,M3,h2,al.trans' (L':=L.with t) e3 rfl rfl rfl ht,?_⟩;by_cases z:t3=L.td
    ·exact .inl z
    ·refine .inr ?_;cases hH:H t3 with
     |none=>rfl
     |some o =>
      exfalso;obtain⟨a8,ax,_⟩:=Y.rows;have n1:t3≠L.m:=λy=>by rw[y,show H2 L.m=_ from Y.ins]at aa;cases aa
      have n2:¬L.A t3:=by
       rintro(y|y|y)
       ·rw[y,show H2 L.rd=_ from ax]at aa;cases aa
       ·obtain⟨bb,a4,_⟩:=Y.wait;rw[y,show H2 L.wd=_ from a4]at aa;cases aa
       ·exact z y
      rw[al _ _ n1 n2 hH]at aa;cases aa
def Zki (K:Pi)(C:Addr):Sp:=λvs H Q _=>eX14 λ(p e:Addr)(pl:List Nat)(ev:List V)(ar:List (Str×Str×V))(HB:Hp)(kvs:List (List Ax×V))(L:Ml)(S S':MS)(sub:List Nat->Option (Str×Dt))(n:Nat)(th:List (Str×V))(x:Str×V)=>vs=[.ref L.m,.ref p,.ref e]/\MAt K HB C kvs L H S/\H p=some (.tup (A9 pl))/\H e=some (.lst ev)/\Al (PrAt K H) ev ar/\¬L.A e/\FormsAt K H kvs sub/\S.wait.length<9000/\RunM sub n { S with wait:=S.wait++[⟨pl,ar,false⟩] } S'/\S'.things=th++[x] /\
 ∀v H' t,SameM L H H'->MAt K HB C kvs (L.with t) H' { S' with things:=th }->ThAt K H' v x->Q v H'
def Zgr (K:Pi)(C TL:Addr):Sp:=λvs H _ E=>∃(p e:Addr)(pl:List Nat)(ev:List V)(ar:List (Str×Str×V))(HB:Hp)(kvs:List (List Ax×V))(L:Ml)(S:MS)(sub:List Nat->Option (Str×Dt))(n:Nat),vs=[.ref L.m,.ref p,.ref e]/\MAt K HB C kvs L H S/\H p=some (.tup (A9 pl))/\H e=some (.lst ev)/\Al (PrAt K H) ev ar/\¬L.A e/\FormsAt K H kvs sub/\S.wait.length<9000/\RunL sub n { S with wait:=S.wait++[⟨pl,ar,false⟩] }/\∀H',Same HB H'->E (.ref TL) none H'
def Zc6 (K:Pi)(C TL:Addr):Sp:=λvs H Q E=>∃(p e:Addr)(pl:List Nat)(ev:List V)(ar:List (Str×Str×V))(HB:Hp)(kvs:List (List Ax×V))(L:Ml)(S:MS)(sub:List Nat->Option (Str×Dt))(n:Nat)(oo:Option MS),vs=[.ref L.m,.ref p,.ref e]/\MAt K HB C kvs L H S/\H p=some (.tup (A9 pl))/\H e=some (.lst ev)/\Al (PrAt K H) ev ar/\¬L.A e/\FormsAt K H kvs sub/\S.wait.length<9000/\RunX sub n { S with wait:=S.wait++[⟨pl,ar,false⟩] } oo/\(∀S',oo=some S'->eX2 λ(th:List (Str×V))(x:Str×V)=>S'.things=th++[x]/\∀v H' t,SameM L H H'->MAt K HB C kvs (L.with t) H' { S' with things:=th }->ThAt K H' v x->Q v H')/\(oo=none->∀H',Same HB H'->E (.ref TL) none H')
def Zvn:Bc pB pB (A7 Kq):=by walk_at "sc"
def Ze6 (F:Fun K "thing_of_form" "Machine.thing_of_form" Kq f fd)(T:Txt K mg)(O:Mc K C)(ME:Dc (Bz P w) P w K mg base 5 C "thing_at_the_end" ["self"] (Zeo K C TL)):FnOk P w K mg base (Bz P w) 6 f fd pB (Zc6 K C TL):=by
 refine F.okx Zvn (λvs H Q E h=>?_) (λad A outer s H vs Q E hr h=>?_)
 ·obtain⟨p,e,pl,ev,ar,HB,kvs,L,S,sub,n,oo,rfl,_⟩:=h;rfl
 ·obtain⟨p,e,pl,ev,ar,HB,kvs,L,S,sub,n,oo,rfl,M,hp,he,Z,nA,FA,af,R,qS,qN⟩:=h;refine⟨_,Ab (B2 (Cn K Pw Qf Qg Cy (Ce K Ad) (Aw (Aj (Bd Af Av Cw)))))
   (Ao (Zgq (k:=5) K (Bz P w) ["self"] Ad hr.m (Hu (λ_ _ _ h=>h)))),?_⟩
  have bg:=big;obtain⟨wv,ew,aw⟩:=M.wait;have ae:=aw.1;left;refine⟨_,rfl,L.m,C,L.dx,_,_,rfl,M.ins,O.cl,O.nw,Jg L S.steps,?_⟩;refine B7 (SqL.of ew) ?_;left;refine⟨Bs,λr Y=>?_⟩;obtain⟨H1,I,e1,z9⟩:=Df Y (.tup [.ref p,.ref e,.bl false]);rw[z9];left;refine Cz (I _ _ ew) (by lia) ?_;have M1:=M.new I;have M2:=M1.setWait (wv:=wv++[.ref r]) (ws:=S.wait++[⟨pl,ar,false⟩]) ((aw.mono (WtAt.same I.a)).snoc ⟨r,p,e,ev,rfl,SqT.of e1,I _ _ hp,I _ _ he,Z.mono (PrAt.same I.t),nA⟩);have ac:SameM L H1 (upd H1 L.wd (.lst (wv++[.ref r]))):=SameM.upd (.inr (.inr (.inl rfl)));have U:SameM L H (upd H1 L.wd (.lst (wv++[.ref r]))):=(I.m L).trans ac;have aa:=FA.same (M.t U);left;refine⟨_,rfl,L.m,C,L.dx,_,_,rfl,M2.ins,(Dp L S.steps).2.2.2.2.2.2.1,ME,?_⟩;left;exact⟨HB,kvs,L,_,sub,n,oo,rfl,M2,aa,R,λS' z=>let ⟨th,x,hx,q⟩:=qS S' z;⟨th,x,hx,λv H' t e' M' t'=>q v H' t (U.trans e') M' t'⟩,qN⟩
def Zqo (F:FnOk P w K mg base (Bz P w) k f fd pB (Zc6 K C TL)):FnOk P w K mg base (Bz P w) k f fd pB (λvs H Q E=>Zki K C vs H Q E\/Zgr K C TL vs H Q E):=F.imp λvs H Q E h=>by
 rcases h with h|h
 ·obtain⟨p,e,pl,Y,ar,HB,kvs,L,S,S',sub,n,th,x,rfl,M,hp,U,I,Z,FA,O,R,hx,q⟩:=h;exact⟨p,e,pl,Y,ar,HB,kvs,L,S,sub,n,_,rfl,M,hp,U,I,Z,FA,O,R.x,λS2 z=>by cases z;exact⟨th,x,hx,q⟩,λz=>nomatch z⟩
 ·obtain⟨p,e,pl,Y,ar,HB,kvs,L,S,sub,n,rfl,M,hp,U,I,Z,FA,O,R,q⟩:=h;exact⟨p,e,pl,Y,ar,HB,kvs,L,S,sub,n,_,rfl,M,hp,U,I,Z,FA,O,R.x,λS2 z=>(nomatch z),λ_=>q⟩
def Zjs (K:Pi)(C:Addr):Sp:=λvs H Q _=>eX17 λ(p o e:Addr)(pl:List Nat)(ov ev:List V)(ops:List (Str×V))(ar:List (Str×Str×V))(HB:Hp)(kvs:List (List Ax×V))(L:Ml)(S S':MS)(sub:List Nat->Option (Str×Dt))(n:Nat)(th:List (Str×V))(x:Str×V)=>vs=[.ref L.m,.ref p,.ref o,.ref e]/\MAt K HB C kvs L H S/\H p=some (.tup (A9 pl))/\H o=some (.lst ov)/\Al (ThAt K H) ov ops/\H e=some (.lst ev)/\Al (PrAt K H) ev ar/\¬L.A e/\FormsAt K H kvs sub/\S.wait.length<9000/\S.things.length+ops.length<9000/\RunM sub n { S with things:=S.things++ops,wait:=S.wait++[⟨pl,ar,true⟩] } S'/\S'.things=th++[x] /\
 ∀v H' t,SameM L H H'->MAt K HB C kvs (L.with t) H' { S' with things:=th }->ThAt K H' v x->Q v H'
def Zfp (K:Pi)(C TL:Addr):Sp:=λvs H _ E=>eX14 λ(p o e:Addr)(pl:List Nat)(ov ev:List V)(ops:List (Str×V))(ar:List (Str×Str×V))(HB:Hp)(kvs:List (List Ax×V))(L:Ml)(S:MS)(sub:List Nat->Option (Str×Dt))(n:Nat)=>vs=[.ref L.m,.ref p,.ref o,.ref e]/\MAt K HB C kvs L H S/\H p=some (.tup (A9 pl))/\H o=some (.lst ov)/\Al (ThAt K H) ov ops/\H e=some (.lst ev)/\Al (PrAt K H) ev ar/\¬L.A e/\FormsAt K H kvs sub/\S.wait.length<9000/\S.things.length+ops.length<9000/\RunL sub n { S with things:=S.things++ops,wait:=S.wait++[⟨pl,ar,true⟩] }/\∀H',Same HB H'->E (.ref TL) none H'
def Zgo (K:Pi)(C TL:Addr):Sp:=λvs H Q E=>∃(p o e:Addr)(pl:List Nat)(ov ev:List V)(ops:List (Str×V))(ar:List (Str×Str×V))(HB:Hp)(kvs:List (List Ax×V))(L:Ml)(S:MS)(sub:List Nat->Option (Str×Dt))(n:Nat)(oo:Option MS),vs=[.ref L.m,.ref p,.ref o,.ref e]/\MAt K HB C kvs L H S/\H p=some (.tup (A9 pl))/\H o=some (.lst ov)/\Al (ThAt K H) ov ops/\H e=some (.lst ev)/\Al (PrAt K H) ev ar/\¬L.A e/\FormsAt K H kvs sub/\S.wait.length<9000/\S.things.length+ops.length<9000/\RunX sub n { S with things:=S.things++ops,wait:=S.wait++[⟨pl,ar,true⟩] } oo/\(∀S',oo=some S'->eX2 λ(th:List (Str×V))(x:Str×V)=>S'.things=th++[x]/\∀v H' t,SameM L H H'->MAt K HB C kvs (L.with t) H' { S' with things:=th }->ThAt K H' v x->Q v H')/\(oo=none->∀H',Same HB H'->E (.ref TL) none H')
def Zwr:Bc pJ pJ (A7 Kt):=by walk_at "sc"
def Zvw (F:Fun K "thing_of_parts" "Machine.thing_of_parts" Kt f fd)(T:Txt K mg)(O:Mc K C)(ME:Dc (Bz P w) P w K mg base 5 C "thing_at_the_end" ["self"] (Zeo K C TL)):FnOk P w K mg base (Bz P w) 6 f fd pJ (Zgo K C TL):=by
 refine F.okx Zwr (λvs H Q E h=>?_) (λak A outer s H vs Q E hr h=>?_)
 ·obtain⟨p,o,e,pl,ov,ev,ops,ar,HB,kvs,L,S,sub,n,oo,rfl,_⟩:=h;rfl
 ·obtain⟨p,o,e,pl,ov,ev,ops,ar,HB,kvs,L,S,sub,n,oo,rfl,M,hp,ho,Y,he,af,nA,FA,an,am,R,qS,qN⟩:=h;refine⟨_,Ab (B2 (Cn K Pw Wk Wl Zb4 (Ce K Ad) (Aw Av)))
   (Ab (B2 (Cn K Pw Qf Qg Cy (Ce K Ad) (Aw (Aj (Bd Af A3 Cw))))) (Ao (Zgq (k:=5) K (Bz P w) ["self"] Ad hr.m (Hu (λ_ _ _ h=>h))))),?_⟩
  have bg:=big;obtain⟨tv,et,U⟩:=M.things;have aj:=U.1;have al:=Y.1;left;refine⟨_,rfl,L.m,C,L.dx,_,_,rfl,M.ins,O.cl,O.nt,Hg L S.steps,?_⟩;refine B7 (SqL.of et) ?_;left;refine⟨L.td,o,_,ov,rfl,rfl,et,ho,by lia,?_⟩;have M0:=M.setThings (U.append Y);have m0:SameM L H (upd H L.td (.lst (tv++ov))):=SameM.upd (.inr (.inr (.inr rfl)));revert M0 m0;generalize upd H L.td (.lst (tv++ov))=H0;intro M0 m0;have t0:=M.t m0;have ai:=(t0 p).1 _ hp;have ad:=(M.a m0).2 _ _ nA he;have Z:Al (PrAt K H0) ev ar:=af.mono (PrAt.same t0);obtain⟨wv,ew,aw⟩:=M0.wait;have ae:=aw.1;left;refine⟨_,rfl,L.m,C,L.dx,_,_,rfl,M0.ins,O.cl,O.nw,Jg L S.steps,?_⟩;refine B7 (SqL.of ew) ?_;left;refine⟨Bs,λr ac=>?_⟩;obtain⟨H1,I,e1,z9⟩:=Df ac (.tup [.ref p,.ref e,.bl true]);rw[z9];left;refine Cz (I _ _ ew) (by rw[ae];show S.wait.length+1<=_;lia) ?_;have M1:=M0.new I;have M2:=M1.setWait (wv:=wv++[.ref r]) (ws:=S.wait++[⟨pl,ar,true⟩]) ((aw.mono (WtAt.same I.a)).snoc ⟨r,p,e,ev,rfl,SqT.of e1,I _ _ ai,I _ _ ad,Z.mono (PrAt.same I.t),nA⟩);have ah:SameM L H1 (upd H1 L.wd (.lst (wv++[.ref r]))):=SameM.upd (.inr (.inr (.inl rfl)));have aa:SameM L H (upd H1 L.wd (.lst (wv++[.ref r]))):=m0.trans ((I.m L).trans ah);have ag:=FA.same (M.t aa);left;refine⟨_,rfl,L.m,C,L.dx,_,_,rfl,M2.ins,(Dp L S.steps).2.2.2.2.2.2.1,ME,?_⟩;left;exact⟨HB,kvs,L,_,sub,n,oo,rfl,M2,ag,R,λS' z=>let ⟨th,x,hx,q⟩:=qS S' z;⟨th,x,hx,λv H' t e' M' t'=>q v H' t (aa.trans e') M' t'⟩,qN⟩
def Znb (F:FnOk P w K mg base (Bz P w) k f fd pJ (Zgo K C TL)):FnOk P w K mg base (Bz P w) k f fd pJ (λvs H Q E=>Zjs K C vs H Q E\/Zfp K C TL vs H Q E):=F.imp λvs H Q E h=>by
 rcases h with h|h
 ·obtain⟨p,o,e,pl,ov,ev,ops,ar,HB,kvs,L,S,S',sub,n,th,x,rfl,M,hp,Z,I,he,O,nA,FA,Y,U,R,hx,q⟩:=h;exact⟨p,o,e,pl,ov,ev,ops,ar,HB,kvs,L,S,sub,n,_,rfl,M,hp,Z,I,he,O,nA,FA,Y,U,R.x,λS2 z=>by cases z;exact⟨th,x,hx,q⟩,λz=>nomatch z⟩
 ·obtain⟨p,o,e,pl,ov,ev,ops,ar,HB,kvs,L,S,sub,n,rfl,M,hp,Z,I,he,O,nA,FA,Y,U,R,q⟩:=h;exact⟨p,o,e,pl,ov,ev,ops,ar,HB,kvs,L,S,sub,n,_,rfl,M,hp,Z,I,he,O,nA,FA,Y,U,R.x,λS2 z=>(nomatch z),λ_=>q⟩
noncomputable def B3 (bc ops:List (Str×V)):List (Str×V):=ops.map (Bb bc)
noncomputable def Ba (bc:List (Str×V))(ar:List (Str×Str×V)):List (Str×Str×V):=ar.map λy=>(y.1,Bb bc y.2)
inductive RowG (sub:List Nat->Option (Str×Dt))(fl:List Nat)(bc:List (Str×V))(r:Rx)(S:MS):MS->Str×V->Prop where
 |fill {n:Nat} {S':MS} {th:List (Str×V)} {x:Str×V} (hp:r.pl=Ap fl) (R:RunM sub n { S with wait:=S.wait++[⟨fl,Ba bc r.ar,false⟩] } S') (hx:S'.things=th++[x]):RowG sub fl bc r S { S' with things:=th } x
 |parts {pl:List Nat} {n:Nat} {S':MS} {th:List (Str×V)} {x:Str×V} (hp:r.pl=Ap pl) (hn:r.pl≠Ap fl) (hw:(Bq r.wd).isSome=true) (R:RunM sub n { S with things:=S.things++B3 bc r.ops,wait:=S.wait++[⟨pl,Ba bc r.ar,true⟩] } S') (hx:S'.things=th++[x]):RowG sub fl bc r S { S' with things:=th } x
 |new {pl:List Nat} (hp:r.pl=Ap pl) (hn:r.pl≠Ap fl) (hw:(Bq r.wd).isSome=false):RowG sub fl bc r S { S with rows:=S.rows++[⟨r.wd,Ap pl,B3 bc r.ops,if r.wd∈WA then Ba bc r.ar else []⟩] } ("row",.int (S.rows.length:Nat))
structure N5 (n:Nat)(r:Rx):Prop where
 o:∀y∈r.ops,Mm n y
 a:∀y∈r.ar,Mm n y.2
 lo:r.ops.length<=1000
 la:r.ar.length<=2000
inductive Jy (sub:List Nat->Option (Str×Dt))(fl:List Nat)(bc:List (Str×V))(r:Rx)(S:MS):Option (MS×(Str×V))->Prop where
 |ok {S2:MS} {x:Str×V} (h:RowG sub fl bc r S S2 x):Jy sub fl bc r S (some (S2,x))
 |lateF {n:Nat} (hp:r.pl=Ap fl) (R:RunL sub n { S with wait:=S.wait++[⟨fl,Ba bc r.ar,false⟩] }):Jy sub fl bc r S none
 |lateP {pl:List Nat} {n:Nat} (hp:r.pl=Ap pl) (hn:r.pl≠Ap fl) (hw:(Bq r.wd).isSome=true) (R:RunL sub n { S with things:=S.things++B3 bc r.ops,wait:=S.wait++[⟨pl,Ba bc r.ar,true⟩] }):Jy sub fl bc r S none
def Zka (K:Pi)(C TL:Addr):Sp:=λvs H Q E=>eX13 λ(a:V)(p b:Addr)(r:Rx)(fl:List Nat)(bv:List V)(bc:List (Str×V))(HB:Hp)(kvs:List (List Ax×V))(L:Ml)(S:MS)(sub:List Nat->Option (Str×Dt))(o:Option (MS×(Str×V)))=>vs=[.ref L.m,a,.ref p,.ref b]/\MAt K HB C kvs L H S/\RwX K (λ_=>False) HB a r/\SqT K HB p (A9 fl)/\HB b=some (.lst bv)/\Al (ThAt K H) bv bc/\N5 bc.length r/\FormsAt K H kvs sub/\S.rows.length<9000/\S.wait.length<8000/\S.things.length<8000/\Jy sub fl bc r S o /\
 (∀S2 x,o=some (S2,x)->∀v H' t,SameM L H H'->MAt K HB C kvs (L.with t) H' S2->ThAt K H' v x->Q v H')/\(o=none->∀H',Same HB H'->E (.ref TL) none H')
def Zii (L:Ml)(n:Int):(L.fs n).lookup ("thing_of_parts":Str)=none:=rfl
def Zu2:(["thing","became"]:List Str).Nodup:=by right
def Zfr:(["name","thing","became"]:List Str).Nodup:=by right
def sc_thing_of_row:Bc ["machine","row","filled","became","word","place","operands","around"] ["machine","row","filled","became"] (A7 Lz):=by walk_at "sc"
def Zm0 (F:Fu K "thing_of_row" Lz f fd)(T:Txt K mg)(O:Mc K C)(kB:F4 mg "PARTS_AWAITED" (.ref ap))(hpa:Im P w K ap pk)(hpk:∀wd,(Dz pk wd).isSome=(Bq wd).isSome/\∀ns,Bq wd=some ns->∃b,Dz pk wd=some (.ref b)/\∀H,SqT K H b (ns.map V.int))(kO:A5 P w K mg base 1 "thing_now" ["thing","became"] (Zes K))(MR:Dc As P w K mg base 1 C "new_row" ["self","word","place","operands","around"] (Nr K C))(MF:Dc (Bz P w) P w K mg base 6 C "thing_of_form" ["self","place","around"] (λvs H Q E=>Zki K C vs H Q E\/Zgr K C TL vs H Q E))(MP:Dc (Bz P w) P w K mg base 6 C "thing_of_parts" ["self","place","operands","around"] (λvs H Q E=>Zjs K C vs H Q E\/Zfp K C TL vs H Q E)):FnOk P w K mg base (Bz P w) 7 f fd ["machine","row","filled","became"] (Zka K C TL):=by
 refine F.okx sc_thing_of_row (λvs H Q E h=>?_) (λa6 A outer s H vs Q E hr h=>?_)
 ·obtain⟨a,p,b,r,fl,bv,bc,HB,kvs,L,S,sub,oo,rfl,_⟩:=h;rfl
 ·obtain⟨av,p,b,r,fl,bv,bc,HB,kvs,L,S,sub,oo,rfl,M,xr,hp,hb,ao,al,FA,z1,z2,z3,G,q,qL⟩:=h;refine⟨_,Ab (Et (Eg (Fc K) Af Fz (Cv Aa)) (G0 K sc_thing_of_row 4 5))
   (Ab (Zby (i:=6) (N:=["thing","became"]) (σ0:=Ge 1 [3]) rfl (Mg rfl (by right) (by right) (by right)) (Ep K (Ai K Af Aa)) (Lf rfl (by rfl)) (λ_ _ _ _=>Hf (i:=0) Zu2 rfl (Or.inl rfl)) (λ_ _ _ _=>Nz) (λ_ _ _ _=>Az kO hr.m (Ag Ad Af)) sc_thing_of_row.nd rfl (Or.inl rfl)) (Ab (Zby (i:=7) (N:=["name","thing","became"]) (σ0:=Ge 2 [3]) rfl (Mg rfl (by right) (by right) (by right)) (Ep K (Ai K Af Aa)) (Lf rfl (by rfl)) (λ_ _ _ _=>Za3 K (n:=2) rfl (Ha (Hf (i:=0) Zfr rfl (Or.inl rfl)) (Ha (Hf (i:=1) Zfr rfl (Or.inl rfl)) Zah))) (λ_ _ _ _=>Nz) (λ_ _ _ _=>Aj (Ag Ad (Az kO hr.m (Ag Af Av)))) sc_thing_of_row.nd rfl (Or.inl rfl)) (Ab (Ay (Bt (Zku K hr.u200) (qv 5) Av) (Ao (Dr (k:=6) K (Bz P w) pB Ad hr.m (Hu (λ_ _ _ h=>h)) (Ag (qv 5) (qv 7)))) A2) (Ab (Ay (Bt (Zbz P w K) A6 (Hh kB)) (Ao (Dr (k:=6) K (Bz P w) pJ Ad hr.m (Hu (λ_ _ _ h=>h)) (Bd (qv 5) (qv 6) (qv 7)))) A2) (Ao (Dr (k:=1) K As pG Ad hr.m Dy (Dj A6 (qv 5) (qv 6) (qv 7)))))))),?_⟩
  have bg:=big;have sB:=M.base;obtain⟨⟨a,p',o',e,ov,ev,rfl,qa,_,ho,an,he,aq,_,_⟩,a2,p2,o2,e2,ea,Ag,ag⟩:=RwX.same sB.a _ _ xr;cases ea;have as:=sB _ _ hb;have lo:=al.lo;have la:=al.la;have a3:=an.1;have a4:=aq.1;left;refine .inr (.inr ⟨a,_,rfl,Ag,by show ¬(HT.sIx 4 0 none=0/\HT.sIx 4 4 (some 2)=4);decide,λk1 h1=>?_⟩);rw[show Ca [V.str r.wd,.ref p2,.ref o2,.ref e2] none (some 2)=[V.str r.wd,.ref p2] from rfl];obtain⟨H1,s1,e1,z9⟩:=Df h1 (.tup [.str r.wd,.ref p2]);rw[z9];left;refine Dv (SqT.of e1) rfl ?_;left;refine A1 (s1.tup qa) rfl ?_;refine .inl ⟨o',rfl,⟨_,SqL.of (s1 _ _ ho)⟩,λD hD=>?_⟩;refine Zbm (K:=K) (a:=o') (xs:=ov) (Pv:=λi ys aa H'=>∃kv,aa=[kv,some (.ref b)]/\Al (ThAt K H') ys ((r.ops.take i).map (Bb bc))/\Same H1 H') ⟨none,rfl,.nil,Same.upd hD⟩ (λi ys aa H' _ ⟨_,_,_,s'⟩=>SqL.of (s' _ _ (s1 _ _ ho))) ?_ ?_
  ·rintro i y ys aa H2 hy ak ⟨kv,rfl,af,s2⟩;obtain⟨xo,au,a0⟩:=an.get hy;have Z:=s1.trans s2;left;refine⟨y,b,bv,xo,bc,rfl,ThAt.same Z.t _ _ a0,SqL.of (Z _ _ as),ao.mono (ThAt.same Z.t),al.o _ (Qu au),λv tv=>?_⟩;have ay:ys.length<=1000:=by rw[af.1,Pq,Qq];lia
   refine⟨_,ak,by lia,_,Ac,?_⟩;have sA:SameT H2 (upd H2 D (.lst (ys++[v]))):=SameT.set ak;refine⟨_,rfl,?_,s2.over hD⟩;rw[Sv,au,Vl,Ql,Wu];exact(af.mono (ThAt.same sA)).snoc (ThAt.same sA _ _ tv)
  ·rintro ys aa H2 ak ⟨kv,rfl,af,s2⟩;rw[Rv (by lia)]at af;have af:Al (ThAt K H2) ys (B3 bc r.ops):=af;have Z:=s1.trans s2;left;refine A1 (Z.tup qa) rfl ?_;refine .inl ⟨e,rfl,⟨_,SqL.of (Z _ _ he)⟩,λD2 ad=>?_⟩;refine Zbm (K:=K) (a:=e) (xs:=ev) (Pv:=λi zs aa H'=>eX2 λk1 k2=>aa=[k1,k2,some (.ref b)]/\Al (PrAt K H') zs ((r.ar.take i).map λy=>(y.1,Bb bc y.2))/\Same H2 H') ⟨none,none,rfl,.nil,Same.upd ad⟩ (λi zs aa H' _ ⟨_,_,_,_,s'⟩=>SqL.of (s' _ _ (Z _ _ he))) ?_ ?_
   ·rintro i y zs aa H3 hy ae ⟨k1,k2,rfl,U,s3⟩;obtain⟨xa,aw,pa,u,rfl,qp,tu⟩:=aq.get hy;have I:=Z.trans s3;left;refine Dv (I.tup qp) rfl ?_;left;refine⟨u,b,bv,xa.2,bc,rfl,ThAt.same I.t _ _ tu,SqL.of (I _ _ as),ao.mono (ThAt.same I.t),al.a _ (Qu aw),λv tv=>?_⟩;left;refine⟨Bl,λk hk=>?_⟩;obtain⟨H4,s4,e4,z9⟩:=Df hk (.tup [.str xa.1,v]);rw[z9];have ay:zs.length<=2000:=by rw[U.1,Pq,Qq];lia
    refine⟨_,s4 _ _ ae,by lia,_,Ac,?_⟩;have sA:SameT H4 (upd H4 D2 (.lst (zs++[.ref k]))):=SameT.set (s4 _ _ ae);refine⟨_,_,rfl,?_,(s3.trans s4).over ad⟩;rw[Sv,aw,Vl,Ql,Wu];exact(U.mono (PrAt.same (s4.t.trans sA))).snoc ⟨k,v,rfl,sA.tup (SqT.of e4),ThAt.same (s4.t.trans sA) _ _ tv⟩
   ·rintro zs aa H3 ae ⟨k1,k2,rfl,U,s3⟩;rw[Rv (by lia)]at U;have U:Al (PrAt K H3) zs (Ba bc r.ar):=U;have I:=Z.trans s3;have M3:=M.new I;have am:=FA.same I.t;have ah:=s3 _ _ ak;have ai:=af.mono (ThAt.same s3.t);have aj:¬L.A D2:=by
     have M2:=M.new Z;obtain⟨rv,er,_⟩:=M2.rows;obtain⟨a5,ax,_⟩:=M2.wait;obtain⟨tv,et,_⟩:=M2.things;rintro(y|y|y)
     ·rw[y,er]at ad;cases ad
     ·rw[y,ax]at ad;cases ad
     ·rw[y,et]at ad;cases ad
    left;refine Zfz (xs:=r.pl) (ys:=Ap fl) (SqT.of (I _ _ ag)) (by rw[Fh];exact(sB.trans I).tup hp) ?_;left;cases G with
    |ok G =>
     cases G with
     | @fill n S' th x Y R hx =>
      rw[dH Y];left;have ac:H3 p2=some (.tup (A9 fl)):=by rw[<- Fh,<- Y];exact I _ _ ag
      refine⟨_,rfl,L.m,C,L.dx,_,_,rfl,M3.ins,(Dp L S.steps).2.2.2.2.2.2.2,MF,?_⟩;left;exact Or.inl ⟨p2,D2,fl,zs,Ba bc r.ar,HB,kvs,L,S,S',sub,n,th,_,rfl,M3,ac,ae,U,aj,am,by lia,R,hx,λv H' t e' M' t'=>q _ _ rfl v H' t ((I.m L).trans e') M' t'⟩
     | @parts pl n S' th x Y hn hw R hx =>
      rw[dI hn];left;have ac:H3 p2=some (.tup (A9 pl)):=by rw[<- Fh,<- Y];exact I _ _ ag
      refine⟨r.wd,ap,pk,rfl,rfl,hpa,?_⟩;rw[(hpk r.wd).1,hw];left;refine⟨_,rfl,L.m,C,L.dx,_,_,rfl,M3.ins,Zii L S.steps,MP,?_⟩;left;exact Or.inl ⟨p2,D,D2,pl,ys,zs,B3 bc r.ops,Ba bc r.ar,HB,kvs,L,S,S',sub,n,th,_,rfl,M3,ac,ah,ai,ae,U,aj,am,by lia,by unfold B3;rw[Pq];lia,R,hx,λv H' t e' M' t'=>q _ _ rfl v H' t ((I.m L).trans e') M' t'⟩
     | @new pl Y hn hw =>
      rw[dI hn];left;have ac:H3 p2=some (.tup (A9 pl)):=by rw[<- Fh,<- Y];exact I _ _ ag
      refine⟨r.wd,ap,pk,rfl,rfl,hpa,?_⟩;rw[(hpk r.wd).1,hw];left;refine⟨_,rfl,L.m,C,L.dx,_,_,rfl,M3.ins,(Dp L S.steps).2.1,MR,?_⟩;left;exact⟨r.wd,p2,D,D2,pl,ys,zs,B3 bc r.ops,Ba bc r.ar,HB,kvs,L,S,rfl,M3,ac,SqL.of ah,ai,SqL.of ae,U,by lia,λv H' e' M' t'=>q _ _ rfl v H' L.td ((I.m L).trans e') M' t'⟩
    | @lateF n Y R =>
     rw[dH Y];left;have ac:H3 p2=some (.tup (A9 fl)):=by rw[<- Fh,<- Y];exact I _ _ ag
     refine⟨_,rfl,L.m,C,L.dx,_,_,rfl,M3.ins,(Dp L S.steps).2.2.2.2.2.2.2,MF,?_⟩;left;exact Or.inr ⟨p2,D2,fl,zs,Ba bc r.ar,HB,kvs,L,S,sub,n,rfl,M3,ac,ae,U,aj,am,by lia,R,qL rfl⟩
    | @lateP pl n Y hn hw R =>
     rw[dI hn];left;have ac:H3 p2=some (.tup (A9 pl)):=by rw[<- Fh,<- Y];exact I _ _ ag
     refine⟨r.wd,ap,pk,rfl,rfl,hpa,?_⟩;rw[(hpk r.wd).1,hw];left;refine⟨_,rfl,L.m,C,L.dx,_,_,rfl,M3.ins,Zii L S.steps,MP,?_⟩;left;exact Or.inr ⟨p2,D,D2,pl,ys,zs,B3 bc r.ops,Ba bc r.ar,HB,kvs,L,S,sub,n,rfl,M3,ac,ah,ai,ae,U,aj,am,by lia,by unfold B3;rw[Pq];lia,R,qL rfl⟩
def Zkc (K:Pi):Sp:=λvs H Q _=>eX2 λ(v:V)(t:Tr)=>vs=[v]/\TrAt K H v t/\t.size<=2000/\∀(p:Addr)(rows:List V)(H':Hp),Same H H'->H p=none->H' p=some (.lst rows)->Al (RowT K H') rows (walk [] t)->Q (.ref p) H'
def Oq:Bc ["tree","told","waiting","pair","number","part"] ["tree"] (A7 Jx):=by walk_at "sc"
def PlJ (K:Pi)(H:Hp)(v:V)(t:Tr)(pt pw:Addr)(m:Nat)(σ:St)(H':Hp):Prop:=eX7 λ(v3 v4 v5:Option V)(tv wv:List V)(dn st:List (List Nat×Tr))=>σ=[some v,some (.ref pt),some (.ref pw),v3,v4,v5]/\H' pt=some (.lst tv)/\H' pw=some (.lst wv) /\
 Al (RowT K H') tv dn/\Al (RowT K H') wv st/\dn++Ix st=walk [] t/\m=F9 st/\Same H H'
def Zn7 (F:Fu K "placed_forms" Jx f fd)(T:Txt K mg):FnOk P w K mg base As 1 f fd ["tree"] (Zkc K):=by
 refine F.okq Oq (λvs H Q E h=>?_) (λb8 A outer s H vs Q E hr h=>?_)
 ·obtain⟨v,t,rfl,_⟩:=h;rfl
 ·obtain⟨v,t,rfl,ht,hz,q⟩:=h;refine⟨_,Ab (Ak 1 Oq (Bp Bm))
   (Ab (Ak 2 Oq (Bp (Aw (Aj (Ag (Aj Bm) Ad))))) (Ab (Zj7 Qj (Zbn K Av (by intro _;rfl)) (Ab (Ak 3 Oq (Ot K Pw Ue Uf Ol Av)) (Ab (B2 (Cn K Pw Qf Qg Cy Af (Aw A3))) (A4 (Dk Qj rfl (Ze7 K rfl T.reversed (Aw (Zri K (by rfl) T.list (by rfl) T.enumerate (Aw (Ai K (Ai K A3 Aa) Aa))))) (G0 K Oq 4 5) (A4 (B2 (Cn K Pw Qf Qg Cy Av (Aw (Aj (Ag (Ae (K4 K) (Ai K A3 Aa) (Aj (Aw A6))) (qv 5)))))))))))) (Ao Af))),?_⟩
  have bg:=big;left;refine⟨Bj,λpt ai=>?_⟩;left;refine⟨Bj,λp0 ba=>?_⟩;left;refine⟨Bl,λp1 ao=>?_⟩;left;refine⟨Dl,λY ah=>?_⟩;left;have s0:Same (upd H pt (.lst [])) _:=((Same.upd (o:=.tup []) ba).put (o:=.tup [.ref p0,v]) ao).put (o:=.lst [.ref p1]) ah;have s1:Same (upd (upd H pt (.lst [])) p0 (.tup [])) _:=(Same.upd (o:=.tup [.ref p0,v]) ao).put (o:=.lst [.ref p1]) ah;have s2:=Same.upd (o:=.lst [.ref p1]) ah;have sH:=(Same.upd (o:=.lst []) ai).trans s0;have al:=s0 pt _ Ac;have bb:upd (upd (upd (upd H pt (.lst [])) p0 (.tup [])) p1 (.tup [.ref p0,v])) Y (.lst [.ref p1]) Y=some (.lst [.ref p1]):=Ac;have bj:=s1 p0 _ Ac;have bu:=s2 p1 _ Ac;have ap:pt≠Y:=λz=>by rw[z]at al;rw[Ac]at al;cases al
  have an:H Y=none:=((Same.upd (o:=.lst []) ai).trans ((Same.upd (o:=.tup []) ba).put (o:=.tup [.ref p0,v]) ao)).free ah;refine⟨PlJ K H v t pt Y,⟨_,none,none,none,[],[.ref p1],[],[([],t)],rfl,al,bb,.nil,Al.nil.snoc ⟨p1,p0,v,rfl,SqT.of bu,bj,ht.same sH⟩,by simp[Ix],rfl,sH⟩,?_⟩;rintro m cb H' ⟨v3,v4,v5,tv,wv,dn,st,rfl,et,ew,aj,a0,hw,rfl,sm⟩;have b9:dn.length+F9 st=t.size:=by
   have:=congrArg Sl hw;rw[Pn,J1]at this;exact this
  have b6:tv.length=dn.length:=aj.1;left;refine Zgn (SqL.of ew) ?_;by_cases a3:wv=[]
  ·subst a3;have br:st=[]:=R8 a0.1.symm;subst br;refine iteF ?_;left;rw[Zqg,Q2]at hw;rw[hw]at aj;exact q pt tv H' sm ai et aj
  obtain⟨O,tp,I,x,rfl,rfl,bf,ay⟩:=a0.last a3;have be:(!(O++[tp]).isEmpty)=true:=by simp
  rw[be];refine iteT ?_;obtain⟨pl,tx⟩:=x;have hx:(pl,tx)∈walk [] t:=by rw[<- hw,Zem];simp
  have cc:pl.length<=2000:=by have:=Zcm [] t _ hx;simp at this;lia
  have ae:=Znk I (pl,tx);have bh:=Zrk (I++(C5 pl 0 tx.ps).reverse);refine⟨λbw H2=>∃m',m'<F9 (I++[(pl,tx)])/\PlJ K H v t pt Y m' bw H2,λ_ _ h=>h,?_⟩;left;refine B7 (SqL.of ew) ?_;refine Ms ew ?_;have t1:SameT H' (upd H' Y (.lst O)):=SameT.set ew;have aw:upd H' Y (.lst O) pt=some (.lst tv):=by rw[Ah ap];exact et
  left;refine B7 (SqL.of aw) ?_;left;refine Cz aw (by lia) ?_;have t2:SameT H' (upd (upd H' Y (.lst O)) pt (.lst (tv++[tp]))):=t1.trans (SameT.set aw);have ak:upd (upd H' Y (.lst O)) pt (.lst (tv++[tp])) pt=some (.lst (tv++[tp])):=Ac;have ag:upd (upd H' Y (.lst O)) pt (.lst (tv++[tp])) Y=some (.lst O):=by rw[Ah ap.symm,Ac]
  have av:Same H (upd (upd H' Y (.lst O)) pt (.lst (tv++[tp]))):=(sm.over an).over ai;revert t2 ak ag av;generalize upd (upd H' Y (.lst O)) pt (.lst (tv++[tp]))=H3;intro t2 ak ag av;have ad:=RowT.same t2 _ _ ay;obtain⟨a,p,u,rfl,qa,qp,hu⟩:=id ad;cases hu with
  | @mk b pp wd nv n vs ts qb hn bi hl bp =>
  left;refine A1 qa rfl ?_;left;refine A1 qb rfl ?_;left;refine⟨pp,vs,rfl,bi,λS ys H4 hS s4 b7 af ax=>?_⟩;left;refine⟨S,ys,rfl,SqL.of ax,?_⟩;have bt:Y≠S:=Dh ag hS;have ca:pt≠S:=Dh ak hS;have bn:Al (RowT K H4) O I:=bf.mono (RowT.same (t2.trans s4.t));have a5:(C5 pl 0 ts).length=ys.length:=by rw[Zfc];lia
  refine Zhd (K:=K) (a:=S) (xs:=ys) (λj am H5=>eX3 λ(v4 v5:Option V)(U:List V)=>am=[some v,some (.ref pt),some (.ref Y),some (.ref a),v4,v5]/\H5 pt=some (.lst (tv++[.ref a]))/\H5 Y=some (.lst U)/\H5 S=some (.lst ys)/\Al (RowT K H5) U (I++((C5 pl 0 ts).drop (ys.length-j)).reverse)/\SameT H4 H5/\Same H H5)
   ⟨_,_,O,rfl,s4 _ _ ak,s4 _ _ ag,ax,by rw[Uz,Sr (by lia)];simpa using bn,SameT.refl _,av.trans s4⟩ ?_ ?_ ?_
  ·rintro j am H5 _ ⟨_,_,_,_,_,_,e,_⟩;exact SqL.of e
  ·rintro i y am H5 hi hy ⟨bx,b0,U,rfl,aq,aa,a6,ac,t5,as⟩;obtain⟨tt,xw,rfl,a9,b3⟩:=af _ _ hy;have a4:=(t5 tt).1 _ b3;left;refine Dv (SqT.of a4) rfl ?_;left;refine B7 (SqL.of aa) ?_;left;have T5:SameT H3 H5:=s4.t.trans t5;refine A1 (T5.tup qa) rfl ?_;left;refine⟨Dl,λp6 h6=>?_⟩;refine Zcr (((T5.trans (SameT.new h6)) p).1 _ qp) Ac (by show(A9 pl).length+1<=sizeLine;unfold A9;rw[Pq];lia) λr H7 s7 q7=>?_;left;refine⟨Bl,λp7 h7=>?_⟩;left;have bo:Same H5 H7:=(Same.upd h6).trans s7;have Z:=bo.put (o:=.tup [.ref r,xw]) h7;have b5:U.length=I.length+((C5 pl 0 ts).drop (ys.length-i)).length:=by have:=ac.1;simp at this ⊢;lia
   have ce:(I++(C5 pl 0 ts).reverse).length=I.length+ys.length:=by rw[Pn,List.length_reverse,a5]
   have b4:(I++(C5 pl 0 ts).reverse).length<=2000:=by
    have h1:F9 (I++(C5 pl 0 (Tr.mk wd n ts).ps).reverse)<F9 (I++[(pl,Tr.mk wd n ts)]):=ae;have h2:(I++(C5 pl 0 (Tr.mk wd n ts).ps).reverse).length<=F9 (I++(C5 pl 0 (Tr.mk wd n ts).ps).reverse):=bh;have h3:(Tr.mk wd n ts).ps=ts:=rfl;rw[h3]at h1 h2;lia
   have cf:((C5 pl 0 ts).drop (ys.length-i)).length<=ys.length:=by rw[Sw];lia
   refine Cz (Z _ _ aa) (by lia) ?_;have au:=Z _ _ aa;have t9:SameT H5 (upd (upd H7 p7 (.tup [.ref r,xw])) Y (.lst (U++[.ref p7]))):=Z.t.trans (SameT.set au);obtain⟨tk,bv,bq⟩:∃tk,ts[ys.length-1-i]?=some tk/\TrAt K H3 xw tk:=by
    have hj:=(Pt.mp a9).1;have a8:ys.length-1-i<ts.length:=by lia
    exact⟨_,Pk a8,bp _ _ _ a9 (Pk a8)⟩
   have a7:(C5 pl 0 ts)[ys.length-1-i]?=some (pl++[ys.length-1-i],tk):=by
    rw[Zio,bv];simp
   refine⟨_,_,U++[.ref p7],rfl,?_,Ac,?_,?_,t5.trans t9,(as.trans Z).over an⟩
   ·rw[Ah ap];exact Z _ _ aq
   ·rw[Ah bt.symm];exact Z _ _ a6
   ·rw[Zt0 a5 hi a7,<- Qd];refine(ac.mono (RowT.same t9)).snoc ⟨p7,r,xw,rfl,(SameT.set au).tup (SqT.of Ac),?_,bq.sameT (T5.trans t9)⟩;have q9:=(((SameT.new (o:=.tup [.ref r,xw]) h7).trans (SameT.set (o:=.lst (U++[.ref p7])) au)) r).1 _ q7;have e:A9 (pl++[ys.length-1-i])=A9 pl++[.int ((ys.length-1-i:Nat):Int)]:=by unfold A9;rw[Ql];rfl
    show upd _ _ _ r=some (.tup (A9 (pl++[ys.length-1-i])));rw[e];exact q9
  ·rintro am H5 ⟨bx,b0,U,rfl,aq,aa,a6,ac,t5,as⟩;rw[Q9,List.drop_zero]at ac;refine⟨_,ae,_,_,_,tv++[.ref a],U,dn++[(pl,.mk wd n ts)],_,rfl,aq,aa,?_,ac,?_,rfl,as⟩
   ·exact(aj.mono (RowT.same (t2.trans (s4.t.trans t5)))).snoc (RowT.same (s4.t.trans t5) _ _ ad)
   ·rw[<- hw,Zem,Qd];rfl
noncomputable def Bw (t:Tr)(pl:List Nat):Option (Str×Dt):=(C6 (walk [] t) pl).map λu=>(u.wd,Gg u)
def Nv (ha:H a=some (.ins C dx fs))(o:HO):SameT H (upd H a o):=λb=>⟨λxs h=>by
 have:b≠a:=λz=>by rw[z,ha]at h;cases h
 rw[Ah this];exact h,λo u h=>by
 have:b≠a:=λz=>by rw[z,ha]at h;cases h
 rw[Ah this];exact h⟩
def Zap (K:Pi)(C:Addr):Sp:=λvs H Q _=>eX6 λ(m dx:Addr)(HB:Hp)(tv:V)(t:Tr)(n:Int)=>vs=[.ref m,tv,.int n]/\n<=500/\HB m=none/\HB dx=none/\dx≠m/\H=upd (upd HB dx (.own m)) m (.ins C dx [])/\TrAt K HB tv t/\t.size<=2000 /\
 ∀H' L kvs,L.m=m->MAt K HB C kvs L H' ⟨[],[],[],n⟩->FormsAt K H' kvs (Bw t)->Q .non H'
def Zux:Bc pW pW (A7 Kg):=by walk_at "sc"
def Nt (h:tv σ H λy H1=>ta σ H1 λx H2=>eX4 λa C dx fs=>x=.ref a/\H2 a=some (.ins C dx fs)/\Cls K C/\NoAttr K C f/\fs.length<1000/\D.nx σ (upd H2 a (.ins C dx (Aq f y fs)))):O1 K ta tv f D σ H:=h
def Zuv (F:Fun K "__init__" "Machine.__init__" Kg f fd)(T:Txt K mg)(O:Mc K C)(cK:A5 P w K mg base 1 "placed_forms" ["tree"] (Zkc K))(MS_:Dc As P w K mg base 1 C "make_steps" ["self","many"] (Zc5 K C)):FnOk P w K mg base As 2 f fd pW (Zap K C):=by
 refine F.okq Zux (λvs H Q E h=>?_) (λch A outer s H vs Q E hr h=>?_)
 ·obtain⟨m,dx,HB,tv,t,n,rfl,_⟩:=h;rfl
 ·obtain⟨m,dx,HB,tv,t,n,rfl,ce,bm,bd,bx,hH,ht,hz,q⟩:=h;refine⟨_,Ab (Ls K Ad (Ec (Zh9 K hr.u200 rfl) T.dict (Aw (Az cK hr.m (Aw Af)))))
   (Ab (Ls K Ad (Bp Bm)) (Ab (Ls K Ad (Bp Bm)) (Ab (Ls K Ad (Bp Bm)) (Ab (Ls K Ad Aa) (A4 (B2 (Dr (k:=1) K As pO Ad hr.m Dy (Aw Av)))))))),?_⟩
  have bg:=big;have sB:Same HB H:=by
   rw[hH];exact(Same.upd bd).trans (Same.upd (by rw[Ah (Px bx)];exact bm))
  have im:H m=some (.ins C dx []):=by rw[hH];exact Ac
  clear hH;left;refine Nt ?_;left;refine⟨tv,t,rfl,ht.same sB,hz,λp rows H1 s1 cf e1 bn=>?_⟩;left;obtain⟨kvs,b7,look⟩:=Zpo (K:=K) (H:=H1) rows _ bn;refine⟨p,rows,rfl,SqL.of e1,.inr ⟨kvs,b7,λfd a9=>?_⟩⟩;have s2:Same H1 (upd H1 fd (.dT (Cg [] kvs))):=Same.upd a9;have e2:upd H1 fd (.dT (Cg [] kvs)) fd=some (.dT (Cg [] kvs)):=Ac;have ak:=s1.trans s2;have FA:FormsAt K (upd H1 fd (.dT (Cg [] kvs))) (Cg [] kvs) (Bw t):=by
   intro pl wd d hs;unfold Bw at hs;obtain⟨u,hu,e⟩:=Q0.mp hs;cases e;rcases look pl with⟨_,l2⟩|⟨v,u',l1,l2,tr⟩
   ·rw[hu]at l2;cases l2
   ·rw[hu]at l2;cases l2;have hm:=Zcm [] t _ (Zro hu);simp only[Tq,Tc]at hm;refine⟨by lia,v,u.ps,by rw[Zd6];exact l1,?_⟩;rw[<- Zf1];exact tr.same s2
  have Z:fd≠m:=λz=>by rw[z,s1 _ _ im]at a9;cases a9
  revert ak e2 FA;generalize upd H1 fd (.dT (Cg [] kvs))=H2;intro e2 ak FA;generalize hkv:Cg [] kvs=kv at *
  have bp:=sB.trans ak;have bb:=ak _ _ im;refine⟨_,rfl,m,C,dx,_,rfl,bb,O.cl,O.nf,by show 0<1000;decide,?_⟩;have a0:=FA.same (Nv bb (.ins C dx (Aq "forms" (.ref fd) [])));have am:Same HB (upd H2 m (.ins C dx (Aq "forms" (.ref fd) []))):=bp.over bm;have ai:upd H2 m (.ins C dx (Aq "forms" (.ref fd) [])) m=some (.ins C dx (Aq "forms" (.ref fd) [])):=Ac;have an:upd H2 m (.ins C dx (Aq "forms" (.ref fd) [])) fd=some (.dT kv):=(Ah Z).trans e2;revert a0 am ai an;generalize upd H2 m (.ins C dx (Aq "forms" (.ref fd) []))=H3;intro a0 am ai an;left;refine Nt ?_;left;refine⟨Bj,λrd U=>?_⟩;have s4:Same H3 (upd H3 rd (.lst [])):=Same.upd U;have a3:upd H3 rd (.lst []) rd=some (.lst []):=Ac;have ad:rd≠m:=λz=>by rw[z,ai]at U;cases U
  have cg:fd≠rd:=λz=>by rw[<- z,an]at U;cases U
  have br:HB rd=none:=am.free U;revert s4 a3;generalize upd H3 rd (.lst [])=H4;intro s4 a3;have ca:=a0.same s4.t;have b8:=am.trans s4;have ba:=s4 _ _ ai;have bu:=s4 _ _ an;refine⟨_,rfl,m,C,dx,_,rfl,ba,O.cl,O.nr,by show 1<1000;decide,?_⟩;have ay:=ca.same (Nv ba (.ins C dx (Aq "rows" (.ref rd) (Aq "forms" (.ref fd) []))));have ac:Same HB (upd H4 m (.ins C dx (Aq "rows" (.ref rd) (Aq "forms" (.ref fd) [])))):=b8.over bm;have af:upd H4 m (.ins C dx (Aq "rows" (.ref rd) (Aq "forms" (.ref fd) []))) m=some (.ins C dx (Aq "rows" (.ref rd) (Aq "forms" (.ref fd) []))):=Ac;have ap:upd H4 m (.ins C dx (Aq "rows" (.ref rd) (Aq "forms" (.ref fd) []))) fd=some (.dT kv):=(Ah Z).trans bu;have ah:upd H4 m (.ins C dx (Aq "rows" (.ref rd) (Aq "forms" (.ref fd) []))) rd=some (.lst []):=(Ah ad).trans a3;revert ay ac af ap ah;generalize upd H4 m (.ins C dx (Aq "rows" (.ref rd) (Aq "forms" (.ref fd) [])))=H5;intro ay ac af ap ah;left;refine Nt ?_;left;refine⟨Bj,λwd Y=>?_⟩;have s6:Same H5 (upd H5 wd (.lst [])):=Same.upd Y;have aw:upd H5 wd (.lst []) wd=some (.lst []):=Ac;have a5:wd≠m:=λz=>by rw[z,af]at Y;cases Y
  have b6:rd≠wd:=λz=>by rw[<- z,ah]at Y;cases Y
  have bw:HB wd=none:=ac.free Y;revert s6 aw;generalize upd H5 wd (.lst [])=H6;intro s6 aw;have bo:=ay.same s6.t;have b3:=ac.trans s6;have bh:=s6 _ _ af;have bq:=s6 _ _ ap;have b9:=s6 _ _ ah;refine⟨_,rfl,m,C,dx,_,rfl,bh,O.cl,O.nw,by show 2<1000;decide,?_⟩;have a8:=bo.same (Nv bh (.ins C dx (Aq "waiting" (.ref wd) (Aq "rows" (.ref rd) (Aq "forms" (.ref fd) [])))));have ao:Same HB (upd H6 m (.ins C dx (Aq "waiting" (.ref wd) (Aq "rows" (.ref rd) (Aq "forms" (.ref fd) []))))):=b3.over bm;have al:upd H6 m (.ins C dx (Aq "waiting" (.ref wd) (Aq "rows" (.ref rd) (Aq "forms" (.ref fd) [])))) m=some (.ins C dx (Aq "waiting" (.ref wd) (Aq "rows" (.ref rd) (Aq "forms" (.ref fd) [])))):=Ac;have aq:upd H6 m (.ins C dx (Aq "waiting" (.ref wd) (Aq "rows" (.ref rd) (Aq "forms" (.ref fd) [])))) fd=some (.dT kv):=(Ah Z).trans bq;have ae:upd H6 m (.ins C dx (Aq "waiting" (.ref wd) (Aq "rows" (.ref rd) (Aq "forms" (.ref fd) [])))) rd=some (.lst []):=(Ah ad).trans b9;have aj:upd H6 m (.ins C dx (Aq "waiting" (.ref wd) (Aq "rows" (.ref rd) (Aq "forms" (.ref fd) [])))) wd=some (.lst []):=(Ah a5).trans aw;revert a8 ao al aq ae aj;generalize upd H6 m (.ins C dx (Aq "waiting" (.ref wd) (Aq "rows" (.ref rd) (Aq "forms" (.ref fd) []))))=H7;intro a8 ao al aq ae aj;left;refine Nt ?_;left;refine⟨Bj,λtd I=>?_⟩;have s8:Same H7 (upd H7 td (.lst [])):=Same.upd I;have a6:upd H7 td (.lst []) td=some (.lst []):=Ac;have bf:td≠m:=λz=>by rw[z,al]at I;cases I
  have b5:rd≠td:=λz=>by rw[<- z,ae]at I;cases I
  have bv:wd≠td:=λz=>by rw[<- z,aj]at I;cases I
  have bt:HB td=none:=ao.free I;revert s8 a6;generalize upd H7 td (.lst [])=H8;intro s8 a6;have cb:=a8.same s8.t;have bi:=ao.trans s8;have be:=s8 _ _ al;have bj:=s8 _ _ aq;have b0:=s8 _ _ ae;have b4:=s8 _ _ aj;refine⟨_,rfl,m,C,dx,_,rfl,be,O.cl,O.nt,by show 3<1000;decide,?_⟩;have a7:=cb.same (Nv be (.ins C dx (Aq "things" (.ref td) (Aq "waiting" (.ref wd) (Aq "rows" (.ref rd) (Aq "forms" (.ref fd) []))))));have a4:Same HB (upd H8 m (.ins C dx (Aq "things" (.ref td) (Aq "waiting" (.ref wd) (Aq "rows" (.ref rd) (Aq "forms" (.ref fd) [])))))):=bi.over bm;have ag:upd H8 m (.ins C dx (Aq "things" (.ref td) (Aq "waiting" (.ref wd) (Aq "rows" (.ref rd) (Aq "forms" (.ref fd) []))))) m=some (.ins C dx (Aq "things" (.ref td) (Aq "waiting" (.ref wd) (Aq "rows" (.ref rd) (Aq "forms" (.ref fd) []))))):=Ac;have as:upd H8 m (.ins C dx (Aq "things" (.ref td) (Aq "waiting" (.ref wd) (Aq "rows" (.ref rd) (Aq "forms" (.ref fd) []))))) fd=some (.dT kv):=(Ah Z).trans bj;have au:upd H8 m (.ins C dx (Aq "things" (.ref td) (Aq "waiting" (.ref wd) (Aq "rows" (.ref rd) (Aq "forms" (.ref fd) []))))) rd=some (.lst []):=(Ah ad).trans b0;have ax:upd H8 m (.ins C dx (Aq "things" (.ref td) (Aq "waiting" (.ref wd) (Aq "rows" (.ref rd) (Aq "forms" (.ref fd) []))))) wd=some (.lst []):=(Ah a5).trans b4;have av:upd H8 m (.ins C dx (Aq "things" (.ref td) (Aq "waiting" (.ref wd) (Aq "rows" (.ref rd) (Aq "forms" (.ref fd) []))))) td=some (.lst []):=(Ah bf).trans a6;revert a7 a4 ag as au ax av;generalize upd H8 m (.ins C dx (Aq "things" (.ref td) (Aq "waiting" (.ref wd) (Aq "rows" (.ref rd) (Aq "forms" (.ref fd) [])))))=H9;intro a7 a4 ag as au ax av;left;refine Nt ?_;left;refine⟨m,C,dx,_,rfl,ag,O.cl,O.ns,by show 4<1000;decide,?_⟩;obtain⟨L,hL⟩:∃L:Ml,L=⟨m,dx,fd,rd,wd,td⟩:=⟨_,rfl⟩;have M:MAt K HB C kv L (upd H9 m (.ins C dx (L.fs 0))) ⟨[],[],[],0⟩:=by
   subst hL;exact⟨a4.over bm,bm,br,bw,bt,Ac,(Ah Z).trans as,b6,b5,bv,⟨[],(Ah ad).trans au,.nil,SepR.nil⟩,⟨[],(Ah a5).trans ax,.nil⟩,⟨[],(Ah bf).trans av,.nil⟩⟩
  have aa:=a7.same (Nv ag (.ins C dx (L.fs 0)));rw[show Aq "steps" (.int 0) (Aq "things" (.ref td) (Aq "waiting" (.ref wd) (Aq "rows" (.ref rd) (Aq "forms" (.ref fd) []))))=L.fs 0 by subst hL;rfl];revert M aa;generalize upd H9 m (.ins C dx (L.fs 0))=cc;intro M aa;have hm:L.m=m:=by rw[hL]
  left;refine⟨_,rfl,m,C,L.dx,_,_,rfl,(by rw[<- hm];exact M.ins),(Dp L 0).1,MS_,?_⟩;left;refine⟨n,HB,kv,L,_,by rw[hm],M,by show(0:Int)+n<=500;lia,λH' e' M'=>?_⟩;left;have M':MAt K HB C kv L H' ⟨[],[],[],(0:Int)+n⟩:=M';rw[Rs]at M';exact q H' L kv hm M' (aa.same (M.t e'))
def Zhy (K:Pi)(TL:Addr):Sp:=λvs H Q E=>eX4 λ(tv:V)(t:Tr)(n:Nat)(oo:Option MS)=>vs=[tv]/\TrAt K H tv t/\t.size<=2000/\RunX (Bw t) n ⟨[],[⟨[],[],false⟩],[],0⟩ oo /\
 (∀S',oo=some S'->∃x,S'.things=[x]/\∀(r rd:Addr)(av:V)(rv:List V)(H':Hp),Same H H'->SqT K H' r [av,.ref rd,.int S'.steps]->ThAt K H' av x->H' rd=some (.lst rv)->Al (RwX K (λb=>b=rd\/H b≠none) H') rv S'.rows->SepR K (λb=>b=rd\/H b≠none) H' rv S'.rows->H rd=none->Q (.ref r) H') /\
 (oo=none->∀H',Same H H'->E (.ref TL) none H')
def Zd4:Bc ["tree","machine","answer"] ["tree"] (A7 Lo):=by walk_at "sc"
def Zwk (F:Fu K "run" Lo f fd)(T:Txt K mg)(O:Mc K C)(kW:Pc As P w K mg base 2 "Machine" C pW (Zap K C))(MF:Dc (Bz P w) P w K mg base 6 C "thing_of_form" ["self","place","around"] (Zc6 K C TL)):FnOk P w K mg base (Bz P w) 7 f fd ["tree"] (Zhy K TL):=by
 refine F.okx Zd4 (λvs H Q E h=>?_) (λaf A outer s H vs Q E hr h=>?_)
 ·obtain⟨tv,t,n,oo,rfl,_⟩:=h;rfl
 ·obtain⟨tv,t,n,oo,rfl,ht,hz,R,hx,q⟩:=h;refine⟨_,Ab (Ak 1 Zd4 (Zhl kW hr.m Dy (Ag Ad Aa)))
   (Ab (Ak 2 Zd4 (Dr (k:=6) K (Bz P w) pB Af hr.m (Hu (λ_ _ _ h=>h)) (Ag (Aj Bm) (Bp Bm)))) (Ao (Aj (Bd Av (Ce K Af) (Ce K Af))))),?_⟩
  left;refine⟨tv,rfl,?_⟩;intro m dx h1 h2 h3;refine⟨m,dx,H,tv,t,0,rfl,by decide,h1,h2,h3,rfl,ht,hz,λH1 L kvs hm M FA=>⟨rfl,?_⟩⟩;subst hm;left;refine⟨_,rfl,L.m,C,L.dx,_,_,rfl,M.ins,(Dp L 0).2.2.2.2.2.2.2,MF,?_⟩;left;refine⟨Bj,λp hp=>?_⟩;obtain⟨H2,s2,e2,z9⟩:=Df hp (.tup []);rw[z9];left;refine⟨Bj,λe I=>?_⟩;obtain⟨H3,s3,e3,z9⟩:=Df I (.lst []);rw[z9];have Y:=s2.trans s3;have M3:=M.new Y;have M2:=M.new s2;have nA:¬L.A e:=by
   obtain⟨rv,er,_⟩:=M2.rows;obtain⟨wv,ew,_⟩:=M2.wait;obtain⟨ag,et,_⟩:=M2.things;rintro(z|z|z)
   ·rw[z,er]at I;cases I
   ·rw[z,ew]at I;cases I
   ·rw[z,et]at I;cases I
  left;refine⟨p,e,[],[],[],H,kvs,L,_,Bw t,n,oo,rfl,M3,s3 _ _ e2,e3,.nil,nA,FA.same Y.t,by show 0<9000;decide,R,λS' hS=>?_,λhn H' s'=>q hn H' s'⟩;obtain⟨x,ad,hx⟩:=hx S' hS;refine⟨[],x,ad,λav H4 t4 e4 Z ae=>?_⟩;have sH:Same H H4:=Z.base;obtain⟨rv,er,ar,aa⟩:=Z.rows;left;refine⟨_,rfl,L.m,C,L.dx,_,_,rfl,Z.ins,O.cl,O.nr,K2 (L.with t4) S'.steps,?_⟩;left;refine⟨_,rfl,L.m,C,L.dx,_,_,rfl,Z.ins,O.cl,O.ns,K0 (L.with t4) S'.steps,?_⟩;left;refine⟨Bs,λr ac=>?_⟩;have U:Same H4 (upd H4 r (.tup [av,.ref L.rd,.int S'.steps])):=Same.upd ac;refine hx r L.rd av rv _ (sH.trans U) (SqT.of Ac) (ThAt.same U.t _ _ ae) (U _ _ er) ((ar.mono (RwX.mono λb hb _=>?_)).mono (RwX.same U.a)) ((aa.mono λb hb _=>?_).same U.a) Z.nr
  all_goals rcases hb with z|z
  all_goals first|exact .inl (.inl z)|exact .inr z
end
open K19
section
variable {P:Program}{w:World}{K:Pi}{mg:Str->Option Value}{base:Heap}
def Zit:Sp:=λvs H Q _=>∃k:Int,vs=[.int k]/\Q (.bl true) H
def Zni:Bc ["thing"] ["thing"] (A7 Js):=by walk_at "sc"
def Zuy (F:Fu K "is_whole" Js f fd)(T:Txt K mg):FnOk P w K mg base As 1 f fd ["thing"] Zit:=by
 refine F.okq Zni (λvs H Q E h=>?_) (λI A outer s H vs Q E O h=>?_)
 ·obtain⟨k,rfl,_⟩:=h;rfl
 ·obtain⟨k,rfl,q⟩:=h;refine⟨_,Ao (F6 (B4 (Cb K "int") T.isinstance (Ag Ad (Cc (v:=.ty "int") (by rfl) T.int (by right) rfl))) (Go (Zpq (B4 (Cb K "bool") T.isinstance (Ag Ad (Cc (v:=.ty "bool") (by rfl) T.bool (by right) rfl)))))),?_⟩;left;refine B9 (.int _) Zwo ?_;left;refine B9 (.int _) Zv9 ?_;left;exact q
def Zkk (K:Pi):Sp:=λvs H Q _=>eX5 λ(v:V)(w:Str)(n:Dt)(ps:List Tr)(k:Nat)=>vs=[v,.int (k:Nat)]/\TrAt K H v (.mk w n ps)/\k<ps.length/\Q (.bl true) H
def Zoj:Bc pX pX (A7 Jw):=by walk_at "sc"
def Zsx (F:Fu K "has_part" Jw f fd)(T:Txt K mg)(cZ:A5 P w K mg base 1 "is_whole" ["thing"] Zit):FnOk P w K mg base As 2 f fd pX (Zkk K):=by
 refine F.okq Zoj (λvs H Q E h=>?_) (λY A outer s H vs Q E I h=>?_)
 ·obtain⟨v,w,n,ps,k,rfl,_⟩:=h;rfl
 ·obtain⟨v,w,n,ps,k,rfl,ht,hk,q⟩:=h;refine⟨_,Ao (F6 (Az cZ I.m (Aw Af)) (Go (Zkh Zjc Ej Aa Af (B0 K T.len (Ai K Ad Aa))))),?_⟩;cases ht with
  | @mk b pp _ nv _ us _ Z hn O l U =>
  left;refine⟨_,rfl,?_⟩;left;refine Bf (λ_=>?_) (λc=>absurd (dH (by lia)) c);left;refine A1 Z rfl ?_;left;refine Ei O ?_;left;have e:decide ((k:Int)<(us.length:Int))=true:=dH (by lia);rw[e];exact q
def Zjm {α:Type}{xs:List α}{x:α}(h:xs[xs.length-1]?=some x):Cq xs (-1)=some x:=by
 have hl:=(Pt.mp h).1;unfold Cq Fv;rw[if_neg (by lia),if_pos (by lia)];have e:((-1:Int)+(xs.length:Int)).toNat=xs.length-1:=by lia
 simpa [e] using h
def Zrq {α:Type}{xs:List α}{i:Int}{x:α}(j:Nat)(hj:(j:Int)=i)(h:xs[j]?=some x):Cq xs i=some x:=by
 have hl:=(Pt.mp h).1;subst hj;unfold Cq Fv;rw[if_pos (by lia),if_pos (by lia)];simpa using h
def Zjp {pl:List Nat}{i:Nat}{v:V}(h:(A9 pl)[i]?=some v):∃k,v=.int (k:Nat)/\pl[i]?=some k:=by
 unfold A9 at h;rw[Qm]at h;cases e:pl[i]? with
 |none=>rw[e]at h;cases h
 |some x=>rw[e]at h;exact⟨x,(Qh h).symm,rfl⟩
def O3 (pl:List Nat):(A9 pl).length=pl.length:=by unfold A9;simp
def Zcd (K:Pi):Sp:=λvs H Q _=>eX4 λ(v:V)(t:Tr)(p:Addr)(pl:List Nat)=>vs=[v,.ref p]/\TrAt K H v t/\SqT K H p (A9 pl)/\Sub t pl/\pl.length<=1000 /\
 ∀(q:Addr)(ws:List V)(H':Hp),H q=none->Same H H'->H' q=some (.lst ws)->Al (TrAt K H') ws (path t pl)->Q (.ref q) H'
def Zdg:Bc ["tree","place","passed","number"] qA (A7 Kw):=by walk_at "sc"
def Zot (F:Fu K "forms_down_to" Kw f fd)(T:Txt K mg)(dA:A5 P w K mg base 2 "has_part" ["form","number"] (Zkk K)):FnOk P w K mg base As 3 f fd qA (Zcd K):=by
 refine F.okq Zdg (λvs H Q E h=>?_) (λah A outer s H vs Q E hr h=>?_)
 ·obtain⟨v,t,p,pl,rfl,_⟩:=h;rfl
 ·obtain⟨v,t,p,pl,rfl,ht,hp,hs,hl,q⟩:=h;refine⟨_,Ab (Ak 2 Zdg (Bp (Aw Ad)))
   (Ab (Dk Qj rfl (Ep K Af) (C7 3 Zdg) (Ab (Ay (C2 (Bx (Az dA hr.m (Ag (Ai K Av (Jl Jj Aa)) A3)))) (A4 Zbw) A2) (A4 (B2 (Cn K Pw Qf Qg Cy Av (Aw (Ai K (Ai K (Ai K Av (Jl Jj Aa)) Aa) A3))))))) (Ao Av)),?_⟩
  have bg:=big;left;refine⟨Dl,λq0 Z=>?_⟩;obtain⟨H1,s1,e1,z9⟩:=Df Z (.lst [v]);rw[z9];left;refine .inr (.inl ⟨p,rfl,⟨_,s1.tup hp⟩,?_⟩);have p0:(path t pl).take 1=[t]:=by
   have:=Zbq t pl;cases e:path t pl with
   |nil=>rw[e]at this;cases this
   |cons a r =>
    rw[e]at this;have h:a=t:=by simpa using this
    rw[h];rfl
  refine Zns (K:=K) (a:=p) (xs:=A9 pl) (λi U H'=>eX2 λw3 O=>U=[some v,some (.ref p),some (.ref q0),w3]/\H' q0=some (.lst O)/\Al (TrAt K H') O ((path t pl).take (i+1))/\Same H H') ⟨none,[v],rfl,e1,by rw[p0];exact Al.nil.snoc (ht.same s1),s1⟩ ?_ ?_ ?_
  ·rintro i U H' _ ⟨_,_,_,_,_,sm⟩;exact sm.tup hp
  ·rintro i x U H' hx ⟨w3,O,rfl,Y,al,sm⟩;obtain⟨k,rfl,hk⟩:=Zjp hx;obtain⟨w',n',ps,u,a1,a2,a3⟩:=Zd0 hs i k hk;have hi:=(Pt.mp hk).1;have ai:=Zal hs;have ag:O.length=i+1:=by rw[al.1,Qq];lia
   have af:((path t pl).take (i+1))[i]?=some (.mk w' n' ps):=by rw[List.getElem?_take,if_pos (by lia)];exact a1
   obtain⟨vi,ae,ad⟩:=al.get' af;have I:Cq O (-1)=some vi:=Zjm (by rw[ag];exact ae);cases ad with
   | @mk b pp _ nv _ us _ qb hn qp l ac =>
   have aa:k<us.length:=by rw[l];exact(Pt.mp a2).1
   left;refine Br (SqL.of Y) I ?_;left;refine⟨_,w',n',ps,k,rfl,.mk qb hn qp l ac,by lia,?_⟩;left;refine B7 (SqL.of Y) ?_;left;refine Br (SqL.of Y) I ?_;left;refine A1 qb rfl ?_;left;refine A1 qp (Zrq k rfl (Pk aa)) ?_;left;refine Cz Y (by lia) ?_;left;have t3:SameT H' (upd H' q0 (.lst (O++[us[k]]))):=SameT.set Y;refine⟨_,O++[us[k]],rfl,Ac,?_,sm.over Z⟩;have e3:(path t pl).take (i+1+1)=(path t pl).take (i+1)++[u]:=by rw[Sv,a3];rfl
   rw[e3];exact(al.mono λ_ _ z=>z.sameT t3).snoc ((ac k _ u (Pk aa) a2).sameT t3)
  ·rintro U H' ⟨w3,O,rfl,Y,al,sm⟩;rw[O3,Rv (by rw[Zal hs];lia)]at al;left;exact q q0 O H' Z sm Y al
def Zir (K:Pi):Sp:=λvs H Q _=>eX7 λ(v u:V)(w:Str)(n:Dt)(ps:List Tr)(tu:Tr)(k:Nat)=>vs=[v,.int (k:Nat),u]/\TrAt K H v (.mk w n ps)/\TrAt K H u tu/\k<ps.length/\ps.length<=1000 /\
 ∀(v':V)(H':Hp),Same H H'->TrAt K H' v' (.mk w n (ps.set k tu))->Q v' H'
def Zlp {α:Type}{xs:List α}{k:Nat}{x:α}(h:k<xs.length):xs.take k++[x]++xs.drop (k+1)=xs.set k x:=by
 rw[List.set_eq_take_append_cons_drop,if_pos h,Qd];rfl
def Zkg:Bc ["form","number","part","parts"] ["form","number","part"] (A7 Lg):=by walk_at "sc"
def Zt1 (F:Fu K "with_part" Lg f fd)(T:Txt K mg):FnOk P w K mg base As 1 f fd ["form","number","part"] (Zir K):=by
 refine F.okq Zkg (λvs H Q E h=>?_) (λaa A outer s H vs Q E hr h=>?_)
 ·obtain⟨v,u,w,n,ps,tu,k,rfl,_⟩:=h;rfl
 ·obtain⟨v,u,w,n,ps,tu,k,rfl,ht,hu,hk,hl,q⟩:=h;refine⟨_,Ab (Ak 3 Zkg (Ai K Ad Aa))
   (Ao (Aj (Bd (Ai K Ad Aa) (Ai K Ad Aa) (Ae (B5 K) (Ae (B5 K) (Eg (Zil K) A3 Fz (Cv Af)) (Aj (Aw Av))) (Eg (Zil K) A3 (Cv (Ae (B5 K) Af Aa)) Fz))))),?_⟩
  have bg:=big;cases ht with
  | @mk b pp _ nv _ us _ U hn qp l Y =>
  left;refine A1 U rfl ?_;left;refine A1 U rfl ?_;left;refine A1 U rfl ?_;left;refine Zh4 qp λr1 H1 s1 Z=>?_;rw[Zms]at Z;left;refine⟨Dl,λp2 h2=>?_⟩;have s2:=Same.upd (o:=.tup [u]) h2;refine Zjx (s2.tup Z) (SqT.of Ac) (by rw[Qq];show _+1<=sizeLine;lia) λr3 H3 s3 q3=>?_;have I:=s1.trans (s2.trans s3);left;refine Zh4 (I.tup qp) λr4 H4 s4 q4=>?_;have ek:(k:Int)+1=((k+1:Nat):Int):=by lia
  rw[ek,Zel]at q4;refine Zjx (s4.tup q3) q4 (by rw[Pn,Qq,Sw];show _+1+_<=sizeLine;lia) λr5 H5 s5 q5=>?_;rw[Zlp (by lia)]at q5;left;refine⟨Bs,λp6 h6=>?_⟩;have s6:=Same.upd (o:=.tup [.str w,nv,.ref r5]) h6;have O:=I.trans (s4.trans (s5.trans s6));refine q (.ref p6) _ O (.mk (SqT.of Ac) (hn.same O.t) (s6.tup q5) (by rw[To,To];exact l) λj x y g1 g2=>?_);by_cases e:k=j
  ·subst e;rw[Sa (by lia)]at g1 g2;cases g1;cases g2;exact hu.same O
  ·rw[Ss e]at g1 g2;exact(Y j x y g1 g2).same O
def Zhk (K:Pi):Sp:=λvs H Q _=>eX6 λ(v u:V)(t tu:Tr)(p:Addr)(pl:List Nat)=>vs=[v,.ref p,u]/\TrAt K H v t/\SqT K H p (A9 pl)/\Sub t pl/\pl.length<=1000/\t.size<=1000/\TrAt K H u tu /\
 ∀(v':V)(H':Hp),Same H H'->TrAt K H' v' (withAt t pl tu)->Q v' H'
def Ztq (s:Sub t pl):∀u∈path t pl,u.size<=t.size:=by
 induction s with
 |nil t=>intro u hu;cases t;rw[path,P8]at hu;rw[hu];exact Pm _
 |cons I _ O =>
  intro u hu;rw[N8 I]at hu;rcases Ps.mp hu with rfl|hu
  ·exact Pm _
  ·have:=O u hu;have:=Li I;rw[Tr.size];lia
def Zad:Bc ["tree","place","form","made","number","above"] ["tree","place","form"] (A7 K9):=by walk_at "sc"
def Zne (F:Fu K "with_at" K9 f fd)(T:Txt K mg)(kM:A5 P w K mg base 3 "forms_down_to" ["tree","place"] (Zcd K))(cW:A5 P w K mg base 1 "with_part" ["form","number","part"] (Zir K)):FnOk P w K mg base As 4 f fd ["tree","place","form"] (Zhk K):=by
 refine F.okq Zad (λvs H Q E h=>?_) (λak A outer s H vs Q E hr h=>?_)
 ·obtain⟨v,u,t,tu,p,pl,rfl,_⟩:=h;rfl
 ·obtain⟨v,u,t,tu,p,pl,rfl,ht,hp,hs,hl,hz,hu,q⟩:=h;refine⟨_,Ab (Ak 3 Zad Av)
   (Ab (Dk Qj rfl (Ze7 K rfl T.reversed (Aw (Zow K (by rfl) T.list (by rfl) T.zip (Ag Af (Az kM hr.m (Ag Ad Af)))))) (G0 K Zad 4 5) (A4 (Ak 3 Zad (Az cW hr.m (Bd (qv 5) A6 A3))))) (Ao A3)),?_⟩
  have ah:=Zal hs;left;refine⟨v,t,p,pl,rfl,ht,hp,hs,hl,λq1 ws H1 am s1 e1 al=>?_⟩;left;refine⟨p,q1,_,ws,rfl,s1.tup hp,SqL.of e1,λS zs H2 hS s2 Y O ac=>?_⟩;have Y:zs.length=pl.length:=by rw[Y,O3,al.1,ah];lia
  left;refine⟨S,zs,rfl,SqL.of ac,?_⟩;have ad:=s1.trans s2;have Z:(path t pl)[pl.length]?=some ((path t pl)[pl.length]'(by lia)):=Pk (by lia);refine Zhd (K:=K) (a:=S) (xs:=zs) (λj U H'=>eX4 λw4 w5 m tm=>U=[some v,some (.ref p),some u,some m,w4,w5]/\(path t pl)[pl.length-j]?=some tm/\TrAt K H' m (withAt tm (pl.drop (pl.length-j)) tu)/\Same H2 H') ⟨none,none,u,_,rfl,Z,by rw[Uz,Sr (Pm _),Zo4];exact hu.same ad,Same.refl _⟩ ?_ ?_ ?_
  ·rintro j U H' _ ⟨_,_,_,_,_,_,_,sm⟩;exact SqL.of (sm _ _ ac)
  ·rintro j z U H' hj ai ⟨w4,w5,m,tm,rfl,I,hm,sm⟩;obtain⟨tt,x,y,rfl,hx,hy,aj⟩:=O _ _ ai;obtain⟨k,rfl,hk⟩:=Zjp hx;obtain⟨w',n',ps,u',a1,a2,a3⟩:=Zd0 hs _ k hk;rw[Y]at hk a1 a3 hy hj;obtain⟨ty,aa,af⟩:=al.get hy;rw[a1]at aa;cases aa;have e2:pl.length-1-j+1=pl.length-j:=by lia
   rw[e2,I]at a3;cases a3;have ae:ps.length<=1000:=by
    have:=Ztq hs _ (Qu a1);rw[Tr.size]at this;have:=Zan ps;lia
   left;refine Dv (SqT.of (sm _ _ aj)) rfl ?_;left;refine⟨y,m,w',n',ps,_,k,rfl,af.same (s2.trans sm),hm,(Pt.mp a2).1,ae,λv' H3 s3 ag=>?_⟩;left;have e3:pl.length-(j+1)=pl.length-1-j:=by lia
   refine⟨_,_,v',_,rfl,by rw[e3];exact a1,?_,sm.trans s3⟩;rw[e3,Zvq hs _ k w' n' ps tm hk a1 (by rw[e2];exact I),e2];exact ag
  ·rintro U H' ⟨w4,w5,m,tm,rfl,I,hm,sm⟩;rw[Y,Q9]at I hm;rw[Zbq]at I;cases I;left;exact q m H' (ad.trans sm) hm
def Zg1 (K:Pi):Sp:=λvs H Q _=>eX5 λ(v:V)(t:Tr)(p:Addr)(pl:List Nat)(tx:Tr)=>vs=[v,.ref p]/\TrAt K H v t/\SqT K H p (A9 pl)/\Sub t pl/\pl.length<=1000/\(path t pl)[pl.length]?=some tx /\
 ∀(u:V)(H':Hp),Same H H'->TrAt K H' u tx->Q u H'
def Zw5:Bc qA qA (A7 Nf):=by walk_at "sc"
def Zpi (F:Fu K "form_at" Nf f fd)(T:Txt K mg)(kM:A5 P w K mg base 3 "forms_down_to" ["tree","place"] (Zcd K)):FnOk P w K mg base As 4 f fd qA (Zg1 K):=by
 refine F.okq Zw5 (λvs H Q E h=>?_) (λac A outer s H vs Q E hr h=>?_)
 ·obtain⟨v,t,p,pl,tx,rfl,_⟩:=h;rfl
 ·obtain⟨v,t,p,pl,tx,rfl,ht,hp,Y,hl,hx,q⟩:=h;refine⟨_,Ao (Ai K (Az kM hr.m (Ag Ad Af)) (Jl Jj Aa)),?_⟩;have U:=Zal Y;left;refine⟨v,t,p,pl,rfl,ht,hp,Y,hl,λq1 ws H1 aa s1 e1 Z=>?_⟩;obtain⟨u,hu,O⟩:=Z.get' hx;have I:ws.length-1=pl.length:=by rw[Z.1,U];lia
  left;refine Br (SqL.of e1) (Zjm (by rw[I];exact hu)) ?_;exact q u H1 s1 O
def Zfq (K:Pi):Sp:=λvs H Q _=>eX3 λ(v:V)(d:Dt)(ts:List Tr)=>vs=[v]/\TrAt K H v (.mk "gap" d ts)/\Q .non H
def Zme:Bc ["form"] ["form"] (A7 Lv):=by walk_at "sc"
def Zt9 (F:Fu K "refuse_no_gap" Lv f fd)(T:Txt K mg):FnOk P w K mg base As 1 f fd ["form"] (Zfq K):=by
 refine F.okq Zme (λvs H Q E h=>?_) (λU A outer s H vs Q E I h=>?_)
 ·obtain⟨v,d,ts,rfl,_⟩:=h;rfl
 ·obtain⟨v,d,ts,rfl,Z,q⟩:=h;refine⟨_,A4 (Ay (Bt (Ft K I.u200) (Ai K Ad Aa) Am) (A4 Zbw) A2),?_⟩;cases Z with
  | @mk b pp _ nv _ us _ Y hn qp l O =>
  left;refine A1 Y rfl ?_;left;rw[dH (Eq.refl _)];left;exact q
open K19 in
inductive Gs (sub:List Nat->Option (Str×Dt))(fl:List Nat):List Rx->List (Str×V)->MS->Option (List (Str×V)×MS)->Prop where
 |nil {bc:List (Str×V)} {S:MS}:Gs sub fl [] bc S (some (bc,S))
 |cons {r:Rx} {rs:List Rx} {bc:List (Str×V)} {S S1:MS} {x:Str×V} {o:Option (List (Str×V)×MS)} (hs:S.rows.length<9000) (ht:S.things.length<8000) (ok:N5 bc.length r) (h1:RowG sub fl bc r S S1 x) (h2:Gs sub fl rs (bc++[x]) S1 o):Gs sub fl (r::rs) bc S o
 |late {r:Rx} {rs:List Rx} {bc:List (Str×V)} {S:MS} (hs:S.rows.length<9000) (ht:S.things.length<8000) (ok:N5 bc.length r) (h1:Jy sub fl bc r S none):Gs sub fl (r::rs) bc S none
def RunM.wait (h:RunM sub n S S'):S'.wait=[]:=by
 induction h with
 |nil h=>exact h
 |cons _ _ _ I=>exact I
def RowG.wait (h:RowG sub fl bc r S S' x)(hw:S.wait=[]):S'.wait=[]:=by
 cases h with
 |fill _ R _=>exact R.wait
 |parts _ _ _ R _=>exact R.wait
 |new _ _ _=>exact hw
def Ks (H:Hp)(b:Addr)(o o':HO):upd (upd H b o) b o'=upd H b o':=by
 funext c;by_cases e:c=b
 ·rw[e,Ac,Ac]
 ·rw[Ah e,Ah e,Ah e]
def _root_.L2.MAt.re (M:MAt K HB C kvs L H S)(hb:H b=none\/∃ys,HB b=some (.lst ys))(hw:S.wait=[]):MAt K (upd HB b (.lst xs)) C kvs L (upd H b (.lst xs)) S:=by
 obtain⟨rv,Z,ar,sp⟩:=M.rows;obtain⟨wv,Y,aw⟩:=M.wait;obtain⟨tv,et,I⟩:=M.things;have O:wv=[]:=R8 (by rw[aw.1,hw];rfl);subst O;have n1:L.m≠b:=by
  rintro rfl;rcases hb with h|⟨ys,h⟩
  ·rw[M.ins]at h;cases h
  ·rw[M.nm]at h;cases h
 have n2:L.rd≠b:=by
  rintro rfl;rcases hb with h|⟨ys,h⟩
  ·rw[Z]at h;cases h
  ·rw[M.nr]at h;cases h
 have n3:L.wd≠b:=by
  rintro rfl;rcases hb with h|⟨ys,h⟩
  ·rw[Y]at h;cases h
  ·rw[M.nw]at h;cases h
 have n4:L.td≠b:=by
  rintro rfl;rcases hb with h|⟨ys,h⟩
  ·rw[et]at h;cases h
  ·rw[M.nt]at h;cases h
 have n5:L.fd≠b:=by
  rintro rfl;rcases hb with h|⟨ys,h⟩
  ·rw[M.frm]at h;cases h
  ·have:=M.frm;rw[M.base _ _ h]at this;cases this
 have U:SameA (λc=>L.A c\/upd HB b (.lst xs) c≠none) H (upd H b (.lst xs)):=by
  rcases hb with h|⟨ys,h⟩
  ·exact(Same.upd h).a
  ·exact SameA.set (M.base _ _ h) (.inr (by rw[Ac];simp))
 have mo:∀c,(L.A c\/upd HB b (.lst xs) c≠none)->H c≠none->(L.A c\/HB c≠none):=by
  intro c hc hn;rcases hc with z|z
  ·exact .inl z
  ·refine .inr ?_;by_cases e:c=b
   ·rcases hb with h|⟨ys,h⟩
    ·rw[e,h]at hn;exact absurd rfl hn
    ·rw[e,h];simp
   ·rw[Ah e]at z;exact z
 refine⟨λc o h=>?_,(Ah n1).trans M.nm,(Ah n2).trans M.nr,(Ah n3).trans M.nw,(Ah n4).trans M.nt,(Ah n1).trans M.ins,(Ah n5).trans M.frm,M.rw,M.rt,M.wt,⟨rv,(Ah n2).trans Z,(ar.mono (RwX.mono mo)).mono (RwX.same U),(sp.mono mo).same U⟩,⟨[],(Ah n3).trans Y,by rw[hw];exact .nil⟩,⟨tv,(Ah n4).trans et,I.mono (ThAt.same U.1)⟩⟩;by_cases e:c=b
 ·rw[e]at h ⊢;rw[Ac]at h ⊢;exact h
 ·rw[Ah e]at h ⊢;exact M.base _ _ h
open K19 in
def Oc (K:Pi)(TL:Addr):Sp:=λvs H Q E=>∃(tv fv av:V)(t tf:Tr)(p q0 rd:Addr)(fl:List Nat)(d:Dt)(gs:List Tr)(n:Int)(rv:List V)(rs:List Rx)(xa:Str×V)(oo:Option (List (Str×V)×MS)),vs=[tv,.ref q0,.ref p,fv]/\TrAt K H tv t/\t.size<=1000/\SqT K H p (A9 fl)/\Sub t fl/\fl.length<=1000/\(path t fl)[fl.length]?=some (.mk "gap" d gs)/\TrAt K H fv tf/\(withAt t fl tf).size<=2000/\SqT K H q0 [av,.ref rd,.int n]/\n<=500/\H rd=some (.lst rv)/\Al (RwX K (λb=>b=rd) H) rv rs/\rs.length<=9000/\ThAt K H av xa/\Gs (Bw (withAt t fl tf)) fl rs [] ⟨[],[],[],n⟩ oo /\
 (∀bc S',oo=some (bc,S')->Mm bc.length xa/\∀(r' rd':Addr)(av':V)(rv':List V)(H':Hp),Same H H'->SqT K H' r' [av',.ref rd',.int S'.steps]->ThAt K H' av' (Bb bc xa)->H' rd'=some (.lst rv')->Al (RwX K (λb=>b=rd'\/H b≠none) H') rv' S'.rows->SepR K (λb=>b=rd'\/H b≠none) H' rv' S'.rows->H rd'=none->Q (.ref r') H')/\(oo=none->∀H',Same H H'->E (.ref TL) none H')
def N7:Bc ["tree","record","place","form","answer","rows","steps","machine","became","row"] qD (A7 Le):=by walk_at "sc"
open K19 in
def Zta (F:Fu K "go_on" Le f fd)(T:Txt K mg)(O:Mc K C)(cH:A5 P w K mg base 1 "refuse_no_gap" ["form"] (Zfq K))(dD:A5 P w K mg base 4 "form_at" ["tree","place"] (Zg1 K))(dC:A5 P w K mg base 4 "with_at" ["tree","place","form"] (Zhk K))(kO:A5 P w K mg base 1 "thing_now" ["thing","became"] (Zes K))(cL:Ki P w K mg base 7 "thing_of_row" ["machine","row","filled","became"] (Zka K C TL))(kW:Pc As P w K mg base 2 "Machine" C pW (Zap K C)):FnOk P w K mg base (Bz P w) 8 f fd qD (Oc K TL):=by
 refine F.okx N7 (λvs H Q E h=>?_) (λbh A outer s H vs Q E hr h=>?_)
 ·obtain⟨tv,fv,av,t,tf,p,q0,rd,fl,d,gs,n,rv,rs,xa,oo,rfl,_⟩:=h;rfl
 ·obtain⟨tv,fv,av,t,tf,p,q0,rd,fl,d,gs,n,rv,rs,xa,oo,rfl,ht,hz,hp,hs,hl,hg,hf,a9,hq,hn,af,as,be,bb,G,q,qL⟩:=h;refine⟨_,Ab (B2 (Az cH hr.m (Aw (Az dD hr.m (Ag Ad Av)))))
   (Ab (Et Af (Lj K N7 4 5 6)) (Ab (Ak 7 N7 (Zhl kW hr.m Dy (Ag (Az dC hr.m (Bd Ad Av A3)) (qv 6)))) (Ab (Ak 8 N7 (Bp Bm)) (Ab (Dk PassesOwn.leaving rfl (Ep K (qv 5)) (C7 9 N7) (A4 (B2 (Cn K Pw Qf Qg Cy (qv 8) (Aw (Zqe cL hr.m (Hu (λ_ _ _ h=>h)) (Dj (qv 7) (qv 9) Av (qv 8)))))))) (Ao (Aj (Bd (Az kO hr.m (Ag A6 (qv 8))) (Ce K (qv 7)) (Ce K (qv 7))))))))),?_⟩
  have bg:=big;left;refine⟨tv,t,p,fl,_,rfl,ht,hp,hs,hl,hg,λu H1 s1 tu=>?_⟩;left;refine⟨u,d,gs,rfl,tu,?_⟩;left;refine Dv (s1.tup hq) rfl ?_;left;unfold tNew;left;refine⟨tv,fv,t,tf,p,fl,rfl,ht.same s1,s1.tup hp,hs,hl,hz,hf.same s1,λv' H2 s2 a3=>?_⟩;have U:=s1.trans s2;left;intro m dx h1 h2 h3;refine⟨m,dx,H2,v',_,n,rfl,hn,h1,h2,h3,rfl,a3,a9,λH3 L kvs hm M FA=>⟨rfl,?_⟩⟩;subst hm;left;refine⟨Bj,λb hb=>?_⟩;have M0:=M.re (xs:=[]) (.inl hb) rfl;have Y:H2 b=none:=by
   cases h:H2 b with
   |none=>rfl
   |some o=>rw[M.base _ _ h]at hb;cases hb
  have sB:Same H2 (upd H2 b (.lst [])):=Same.upd Y;have a6:=FA.same (Same.upd (o:=.lst []) hb).t;have a0:rd≠b:=λz=>by rw[<- z,U _ _ af]at Y;cases Y
  have ax:=U.tup hp;have aa:=as.mono (RwX.same U.a);have aa:Al (RwX K (λ_=>False) H2) rv rs:=aa.mono (RwX.mono λb hb _=>hb.elim);have aq:∀xs,Al (RwX K (λ_=>False) (upd H2 b (.lst xs))) rv rs:=λxs=>aa.mono (RwX.same (Same.upd Y).a);left;refine .inl ⟨rd,rfl,⟨_,SqL.of (((M.base.trans (Same.upd hb))) _ _ (U _ _ af))⟩,?_⟩;refine Ji (K:=K) (a:=rd) (xs:=rv) (λi ae H'=>eX5 λv9 bv I Si t'=>ae=[some tv,some (.ref q0),some (.ref p),some fv,some av,some (.ref rd),some (.int n),some (.ref L.m),some (.ref b),v9]/\MAt K (upd H2 b (.lst bv)) C kvs (L.with t') H' Si/\Al (ThAt K H') bv I/\FormsAt K H' kvs (Bw (withAt t fl tf))/\Si.wait=[]/\I.length=i/\Gs (Bw (withAt t fl tf)) fl (rs.drop i) I Si oo) ⟨none,[],[],_,L.td,rfl,M0,.nil,a6,rfl,rfl,G⟩ ?_ ?_ ?_
  ·rintro i ae H' _ ⟨_,bv,_,_,_,_,M',_⟩;exact SqL.of (M'.base _ _ ((Ah a0).trans (U _ _ af)))
  ·rintro i y ae H4 hy ⟨v9,bv,I,Si,t',rfl,Mi,Z,ag,ai,au,Gi⟩;obtain⟨r,ah,a7⟩:=(aq bv).get hy;have ak:=(Pt.mp ah).1;have dr:rs.drop i=r::rs.drop (i+1):=by
    rw[So ak]
    congr 1
    rw[Pk ak]at ah;exact Qh ah
   rw[dr]at Gi;have bf:=Z.1;have ex:∃o,Jy (Bw (withAt t fl tf)) fl I r Si o/\Si.rows.length<9000/\Si.things.length<8000/\N5 I.length r/\(o=none->oo=none)/\∀S1 x,o=some (S1,x)->S1.wait=[]/\Gs (Bw (withAt t fl tf)) fl (rs.drop (i+1)) (I++[x]) S1 oo:=by
    cases Gi with
    | @cons _ _ _ _ S1 x _ ad ac ok G1 G2 =>
     refine⟨_,.ok G1,ad,ac,ok,⟨λz=>?_,λS2 x2 e=>?_⟩⟩
     ·cases z
     ·cases e;exact⟨G1.wait ai,G2⟩
    |late ad ac ok R1 =>
     refine⟨_,R1,ad,ac,ok,⟨λ_=>rfl,λS2 x2 e=>?_⟩⟩;cases e
   obtain⟨o,G1,ad,ac,ok,oN,oS⟩:=ex;left;refine B7 (SqL.of (Mi.base _ _ Ac)) ?_;left;refine⟨y,p,b,r,fl,bv,I,_,kvs,L.with t',Si,_,o,rfl,Mi,a7,(Same.upd Y).tup ax,Ac,Z,ok,ag,ad,by rw[ai];decide,ac,G1,λS1 x eo v H5 t5 e5 M5 aj=>?_,λeo H' e'=>qL (oN eo) H' (U.trans ((Same.upd Y).trans e'))⟩;obtain⟨al,G2⟩:=oS _ _ eo;left;refine Cz (M5.base _ _ Ac) (by lia) ?_;have M6:=M5.re (b:=b) (xs:=bv++[v]) (.inr ⟨bv,Ac⟩) al;rw[Ks]at M6;have ao:SameT H5 (upd H5 b (.lst (bv++[v]))):=SameT.set (M5.base _ _ Ac);have an:=(Mi.t e5).trans ao;refine⟨_,bv++[v],I++[x],S1,t5,rfl,M6,(Z.mono (ThAt.same an)).snoc (ThAt.same ao _ _ aj),ag.same an,al,by rw[Pn,au];rfl,G2⟩
  ·rintro ae H4 ⟨v9,bv,I,Si,t',rfl,Mi,Z,ag,ai,au,Gi⟩;rw[Sr (by rw[as.1];exact Pm _)]at Gi;cases Gi;obtain⟨ba,q⟩:=q _ _ rfl;have aw:Same H2 H4:=(Same.upd Y).trans Mi.base;have ap:=U.trans aw;left;refine⟨av,b,bv,xa,_,rfl,ThAt.same ap.t _ _ bb,SqL.of (Mi.base _ _ Ac),Z,ba,λv5 aj=>?_⟩;obtain⟨ay,a4,a5,am⟩:=Mi.rows;left;refine⟨_,rfl,L.m,C,L.dx,_,_,rfl,Mi.ins,O.cl,O.nr,K2 (L.with t') _,?_⟩;left;refine⟨_,rfl,L.m,C,L.dx,_,_,rfl,Mi.ins,O.cl,O.ns,K0 (L.with t') _,?_⟩;left;refine⟨Bs,λr' a8=>?_⟩;have s5:Same H4 (upd H4 r' (.tup [v5,.ref L.rd,.int Si.steps])):=Same.upd a8;have mo:∀c,(c=L.rd\/H c≠none)->H4 c≠none->((L.with t').A c\/upd H2 b (.lst bv) c≠none):=by
    intro c hc _;rcases hc with z|z
    ·exact .inl (.inl z)
    ·refine .inr ?_;cases h:H c with
     |none=>exact absurd h z
     |some o=>rw[(U.trans (Same.upd Y)) _ _ h];simp
   refine q r' L.rd v5 ay _ (ap.trans s5) (SqT.of Ac) (ThAt.same s5.t _ _ aj) (s5 _ _ a4) ((a5.mono (RwX.mono mo)).mono (RwX.same s5.a)) ((am.mono mo).same s5.a) ?_;cases h:H L.rd with
   |none=>rfl
   |some o=>have:=(U.trans (Same.upd (o:=.lst bv) Y)) _ _ h;rw[show upd H2 b (.lst bv) L.rd=none from Mi.nr]at this;cases this
end
noncomputable abbrev Ar:=List (Str×Str×V)
noncomputable def Cr (wd:Str):Int:=if wd="gap" then 0 else 1
noncomputable def C8 (l:List Int):List Nat:=l.map Int.toNat
def Fg (pl:List Nat):C8 (Ap pl)=pl:=by
 unfold C8 Ap;rw[U0];exact(Ui λ_ _=>by simp).trans (List.map_id _)
noncomputable def TWO:List Str:=["plus","minus","less","call"]
noncomputable def D5 (wd:Str)(pl:List Nat)(rs:List Rx)(x y:Str×V):(Str×V)×List Rx :=
 if wd∈Iw/\x.1="num"/\y.1="num" then (E2 wd (En x.2) (En y.2),rs) else ((("row":Str),.int (rs.length:Nat)),rs++[⟨wd,Ap pl,[x,y],[]⟩])
noncomputable def Ny (sub:List Nat->Option (Str×Dt))(rs:List Rx)(x y:Str×V):Option (List Nat×Ar):=match x.2 with
 |.int k=>(rs[k.toNat]?).bind λr=>(sub (C8 r.pl)).map λf=>(C8 r.pl++[0],r.ar++Cj (Da f.1 f.2 0) (if r.wd="rec" then [x,y] else [y]))
 |_=>none
noncomputable def Ct (wd:Str)(d:Dt)(pl:List Nat)(ar:Ar)(rs:List Rx):(Str×V)×List Rx:=((Dd ⟨rs,[],[],0⟩ wd (Ey d) pl ar).1,(Dd ⟨rs,[],[],0⟩ wd (Ey d) pl ar).2.rows)
noncomputable abbrev Er:=(Str×V)×List Rx×Int
def TOk (n:Nat)(x:Str×V):Prop:=(x.1="num" /\ ∃i,x.2=.int i)\/(x.1="truth" /\ ∃b,x.2=.bl b)\/(x.1="row" /\ ∃k:Nat,x.2=.int (k:Nat)/\k<n)
def AOk (n:Nat)(ar:Ar):Prop:=∀y∈ar,TOk n y.2
def TOk.up (h:TOk n x)(e:n<=m):TOk m x:=by
 rcases h with h|h|⟨h,k,h1,h2⟩
 ·exact .inl h
 ·exact .inr (.inl h)
 ·exact .inr (.inr ⟨h,k,h1,by lia⟩)
def AOk.up (h:AOk n ar)(e:n<=m):AOk m ar:=λy I=>(h y I).up e
structure Shp (sub:List Nat->Option (Str×Dt))(r:Rx):Prop where
 s:∃d,sub (C8 r.pl)=some (r.wd,d)
 p:r.pl=Ap (C8 r.pl)
 t:r.wd∈TWO->eX2 λx y=>r.ops=[x,y]
 i:r.wd="if" -> ∃x,r.ops=[x]
 l:r.wd≠"let"
def Shp.mk1 (hs:sub pl=some (wd,d))(t:wd∈TWO->eX2 λx y=>ops=[x,y])(i:wd="if" -> ∃x,ops=[x])(l:wd≠"let"):Shp sub ⟨wd,Ap pl,ops,ar⟩:=⟨⟨d,by show sub (C8 (Ap pl))=_;rw[Fg];exact hs⟩,by show Ap pl=Ap (C8 (Ap pl));rw[Fg],t,i,l⟩
def RsOk (sub:List Nat->Option (Str×Dt))(rs:List Rx)(st:Int):Prop:=∀(k:Nat)(r:Rx),rs[k]?=some r->(AOk k r.ar/\∀x∈r.ops,TOk k x)/\(r.pl.length<=5000/\r.ops.length<=2/\(r.ar.length:Int)<=2*st+200)/\(r.wd∈(["fn","rec"]:List Str)->(r.ar.length:Int)+2<=2*st+200)/\Shp sub r
def RLt (rs:List Rx):Prop:=∀(k:Nat)(r:Rx),rs[k]?=some r->AOk k r.ar/\∀x∈r.ops,TOk k x
structure SubOk (sub:List Nat->Option (Str×Dt)):Prop where
 ln:∀{pl:List Nat}{x:Str×Dt},sub pl=some x->pl.length<=5000
 nt:∀{pl:List Nat}{wd:Str}{d:Dt},sub pl=some (wd,d)->(wd="num" -> ∃i,d=.flat (.int i))/\(wd="truth" -> ∃b,d=.flat (.bl b))/\(wd="name" -> ∃z,d=.flat (.str z))/\Gf wd d
 p0:∀{pl:List Nat}{wd:Str}{d:Dt},sub pl=some (wd,d)->wd∈(["plus","minus","less","call","let","if","fn","rec"]:List Str)->∃x,sub (pl++[0])=some x
 p1:∀{pl:List Nat}{wd:Str}{d:Dt},sub pl=some (wd,d)->wd∈(["plus","minus","less","call","let","if"]:List Str)->∃x,sub (pl++[1])=some x
 p2:∀{pl:List Nat}{wd:Str}{d:Dt},sub pl=some (wd,d)->wd="if" -> ∃x,sub (pl++[2])=some x
structure EOk (sub:List Nat->Option (Str×Dt))(ar:Ar)(rs:List Rx)(st:Int):Prop where
 a:AOk rs.length ar
 l:(ar.length:Int)<=2*st+200
 r:RsOk sub rs st
 z:0<=st
def RsOk.up (h:RsOk sub rs st)(e:st<=st'):RsOk sub rs st':=λk r O=>by
 obtain⟨h1,h0,h2,I⟩:=h k r O;exact⟨h1,⟨h0.1,h0.2.1,by have:=h0.2.2;lia⟩,λhf=>by have:=h2 hf;lia,I⟩
def RsOk.snoc (h:RsOk sub rs st)(h1:AOk rs.length r.ar)(h9:∀x∈r.ops,TOk rs.length x)(h0:r.pl.length<=5000/\r.ops.length<=2/\(r.ar.length:Int)<=2*st+200)(h2:r.wd∈(["fn","rec"]:List Str)->(r.ar.length:Int)+2<=2*st+200)(h3:Shp sub r):RsOk sub (rs++[r]) st:=λk x I=>by
 by_cases e:k<rs.length
 ·rw[Qk e]at I;exact h k x I
 ·rw[Qt (by lia)]at I;have:k-rs.length=0:=by
   by_cases z:k-rs.length=0
   ·exact z
   ·rw[List.getElem?_eq_none (by simp;lia)]at I;cases I
  rw[this]at I;cases I;have:k=rs.length:=by lia
  subst this;exact⟨⟨h1,h9⟩,h0,h2,h3⟩
def RsOk.cut (h:RsOk sub (rs++m) st):RsOk sub rs st:=λk r I=>h k r ((Qk (Pt.mp I).1).trans I)
structure Fy (sub:List Nat->Option (Str×Dt))(rs:List Rx)(st:Int)(x:Str×V)(q:List Rx)(st':Int):Prop where
 s:st<=st'
 t:TOk q.length x
 r:RsOk sub q st'
 l:rs.length<=q.length
 m:(q.length:Int)<=rs.length+4*(st'-st)+1
def Zqj (h:Di ar z=some y):∃s,(s,y)∈ar:=by
 unfold Di at h;obtain⟨x,I,rfl⟩:=Q0.mp h;exact⟨x.1,W4.mp (List.mem_of_find?_eq_some I)⟩
def Zr5 (h:y∈Cj ns xs):y.2∈xs:=(Vv (show(y.1,y.2)∈List.zip ns xs from h)).2
def AOk.zip (h:AOk n ar)(hx:∀x∈xs,TOk n x):AOk n (ar++Cj ns xs):=λy I=>by
 rcases Q5.mp I with I|I
 ·exact h y I
 ·exact hx _ (Zr5 I)
def Zif (ns:List Str)(xs:List (Str×V)):(Cj ns xs).length<=xs.length:=by unfold Cj;rw[List.length_zip];lia
def Zsf (n:Nat):TOk (n+1) (("row":Str),.int (n:Nat)):=.inr (.inr ⟨rfl,n,rfl,by lia⟩)
def EOk.up (h:EOk sub ar rs st):EOk sub ar rs (st+1):=⟨h.a,by have:=h.l;lia,h.r.up (by lia),by have:=h.z;lia⟩
def EOk.on {sub:List Nat->Option (Str×Dt)}{ar:Ar}{rs r:List Rx}{st st':Int}{x:Str×V}(h:EOk sub ar rs st)(t:Fy sub rs st x r st'):EOk sub ar r st':=⟨h.a.up t.l,by have:=h.l;have:=t.s;lia,t.r,by have:=h.z;have:=t.s;lia⟩
def EOk.put (h:EOk sub ar rs st)(hx:TOk rs.length x)(hl:(ar.length:Int)+1<=2*st+200)(ns:List Str):EOk sub (ar++Cj ns [x]) rs st :=
 ⟨h.a.zip (λy I=>by rw[P8.mp I];exact hx),by have:=Zif ns [x];rw[Pn];rw[Pz]at this;lia,h.r,h.z⟩
def Oa (h:C4 rs x=true)(hx:TOk rs.length x):eX2 λ(k:Nat)(r:Rx)=>x=(("row":Str),V.int (k:Nat))/\rs[k]?=some r/\r.wd∈(["fn","rec"]:List Str):=by
 obtain⟨w,v⟩:=x;unfold C4 at h;split at h
 ·rename_i Y k e;injection e with e1 e2;subst e1 e2;rw[R3]at h;obtain⟨h1,h2⟩:=h;have h1:=dJ h1;subst h1;rcases hx with⟨z,_⟩|⟨z,_⟩|⟨_,I,e,U⟩
  ·exact absurd (show("row":Str)="num" from z) (by right)
  ·exact absurd (show("row":Str)="truth" from z) (by right)
  ·have e:V.int k=.int (I:Nat):=e;injection e with e;subst e;rw[Qz]at h2;have O:rs[I]?=some rs[I]:=Pk U;rw[O]at h2;exact⟨I,_,rfl,O,dJ h2⟩
 ·cases h
def Om {sub:List Nat->Option (Str×Dt)}{rs:List Rx}{st:Int}{k:Nat}{r:Rx}{y:Str×V}(hr:rs[k]?=some r)(hf:r.wd∈(["fn","rec"]:List Str))(R:RsOk sub rs st):∃d,sub (C8 r.pl)=some (r.wd,d)/\r.pl=Ap (C8 r.pl)/\Ny sub rs (("row":Str),V.int (k:Nat)) y=some (C8 r.pl++[0],r.ar++Cj (Da r.wd d 0) (if r.wd="rec" then [(("row":Str),V.int (k:Nat)),y] else [y])):=by
 obtain⟨_,_,_,H⟩:=R k r hr;obtain⟨d,h5⟩:=H.s;refine⟨d,h5,H.p,?_⟩;show(rs[((k:Nat):Int).toNat]?).bind _=_;rw[Qz,hr,Rn,h5];rfl
def Zba {sub:List Nat->Option (Str×Dt)}{ar:Ar}{rs:List Rx}{st:Int}{k:Nat}{r:Rx}{y:Str×V}{d:Dt}(E:EOk sub ar rs st)(hr:rs[k]?=some r)(hf:r.wd∈(["fn","rec"]:List Str))(hy:TOk rs.length y):EOk sub (r.ar++Cj (Da r.wd d 0) (if r.wd="rec" then [(("row":Str),V.int (k:Nat)),y] else [y])) rs st:=by
 obtain⟨⟨h1,_⟩,_,h2,_⟩:=E.r k r hr;have Y:=h2 hf;have O:=(Pt.mp hr).1;have h1:=h1.up (Ux O);have U:TOk rs.length (("row":Str),V.int (k:Nat)):=.inr (.inr ⟨rfl,k,rfl,(Pt.mp hr).1⟩);refine⟨h1.zip λx I=>?_,?_,E.r,E.z⟩
 ·split at I
  ·simp only[Ps,P0,or_false]at I;rcases I with rfl|rfl
   ·exact U
   ·exact hy
  ·rw[P8.mp I];exact hy
 ·rw[Pn];have:(Cj (Da r.wd d 0) (if r.wd="rec" then [(("row":Str),V.int (k:Nat)),y] else [y])).length<=2:=by
   refine P9 (Zif _ _) ?_;split <;> simp
  lia
def Zab (hR:RsOk sub R st)(h:st<=st')(ha:AOk R.length r.ar)(ho:∀x∈r.ops,TOk R.length x)(lp:r.pl.length<=5000)(lo:r.ops.length<=2)(la:(r.ar.length:Int)<=2*st'+200)(lf:r.wd∈(["fn","rec"]:List Str)->(r.ar.length:Int)+2<=2*st'+200)(sh:Shp sub r):Fy sub R st (("row":Str),.int (R.length:Nat)) (R++[r]) st':=by
 have hl:(R++[r]).length=R.length+1:=by simp
 exact⟨h,by rw[hl];exact Zsf _,(hR.up h).snoc ha ho ⟨lp,lo,la⟩ lf sh,by lia,by lia⟩
def Pg (pl:List Nat):(Ap pl).length=pl.length:=by unfold Ap;rw[Pq]
def Zru (S:SubOk sub)(hs:sub pl=some (wd,d))(hw:wd∈TWO)(h0:0<=st)(R:RsOk sub rs st)(ho:∀z∈[x,y],TOk rs.length z):Fy sub rs st (D5 wd pl rs x y).1 (D5 wd pl rs x y).2 st:=by
 unfold D5;by_cases h:wd∈Iw/\x.1="num"/\y.1="num"
 ·rw[if_pos h];show Fy sub rs st (E2 wd (En x.2) (En y.2)) rs st;refine⟨Qs _,?_,R,Pm _,by lia⟩;unfold E2;split
  ·exact .inl ⟨rfl,_,rfl⟩
  split
  ·exact .inl ⟨rfl,_,rfl⟩
  ·exact .inr (.inl ⟨rfl,_,rfl⟩)
 ·rw[if_neg h];have no:∀{z:Str},¬z∈TWO->wd=z->False:=λh e=>h (by rw[<- e];exact hw);refine Zab R (Qs _) (λy I=>nomatch I) ho (by rw[Pg];exact S.ln hs) (Pm _) (by show(0:Int)<=2*st+200;lia) (λhf=>?_) (.mk1 hs (λ_=>⟨_,_,rfl⟩) (λe=>(no (by right) e).elim) (λe=>no (by right) e));exfalso;have hf:wd∈(["fn","rec"]:List Str):=hf;simp only[Ps,P0,or_false]at hf;rcases hf with e|e
  ·exact no (by right) e
  ·exact no (by right) e
def Zda (h:wd∈(["num","truth"]:List Str)):Ct wd d pl ar rs=((wd,Ey d),rs):=by
 unfold Ct Dd;rw[if_pos h]
def Zdu (hd:d=.flat (.str z))(h:Di ar z=some y):Ct "name" d pl ar rs=(y,rs):=by
 subst hd;unfold Ct Dd;rw[if_neg (by right)];simp only[Ey,if_true,h]
def Zbb (h:¬wd∈(["num","truth"]:List Str))(h2:wd="name" -> ∀z,d=.flat (.str z)->Di ar z=none)(h3:wd="name" -> ∃z,d=.flat (.str z)):Ct wd d pl ar rs=((("row":Str),V.int (rs.length:Nat)),rs++[⟨wd,Ap pl,[],if wd∈WA then ar else []⟩]):=by
 unfold Ct Dd;rw[if_neg h];by_cases hn:wd="name"
 ·obtain⟨z,rfl⟩:=h3 hn;simp only[Ey,if_pos hn,h2 hn z rfl]
 ·cases Ey d with
  |str z=>simp only[if_neg hn]
  |_=>rfl
def Zkv {wd:Str}{d:Dt}(n3:wd="name" -> ∃z,d=.flat (.str z))(ar:Ar):wd∈(["num","truth"]:List Str)\/(eX2 λz y=>wd="name"/\d=.flat (.str z)/\Di ar z=some y)\/(¬wd∈(["num","truth"]:List Str)/\∀z,wd="name" -> d=.flat (.str z)->Di ar z=none):=by
 by_cases h1:wd∈(["num","truth"]:List Str)
 ·exact .inl h1
 by_cases h2:eX2 λz y=>wd="name"/\d=.flat (.str z)/\Di ar z=some y
 ·exact .inr (.inl h2)
 refine .inr (.inr ⟨h1,λz I O=>?_⟩);cases hl:Di ar z with
 |none=>rfl
 |some y=>exact absurd ⟨z,y,I,O,hl⟩ h2
def Ob (wd:Str):0<=Cr wd/\Cr wd<=1:=by unfold Cr;split <;> decide
def Zoe (S:SubOk sub)(hs:sub pl=some (wd,d))(g2:¬wd∈TWO)(g3:¬wd="let")(g4:¬wd="if")(E:EOk sub ar rs st):Fy sub rs st (Ct wd d pl ar rs).1 (Ct wd d pl ar rs).2 (st+Cr wd):=by
 have aa:=Ob wd;have hl:=E.l;have h0:=E.z;obtain⟨n1,n2,U,_⟩:=S.nt hs;have I:∀{t:Str×V},TOk rs.length t->Fy sub rs st t rs (st+Cr wd):=λht=>⟨by lia,ht,E.r.up (by lia),Pm _,by lia⟩;rcases Zkv U ar with h1|⟨z,y,rfl,e2,Y⟩|⟨h1,h2⟩
 ·rw[Zda h1];refine I ?_;simp only[Ps,P0,or_false]at h1;rcases h1 with h|h
  ·obtain⟨i,rfl⟩:=n1 h;exact .inl ⟨h,i,rfl⟩
  ·obtain⟨i,rfl⟩:=n2 h;exact .inr (.inl ⟨h,i,rfl⟩)
 ·obtain⟨s,Z⟩:=Zqj Y;rw[Zdu e2 Y];exact I (E.a _ Z)
 ·rw[Zbb h1 (λe z hz=>h2 z e hz) U];have O:AOk rs.length (if wd∈WA then ar else [])/\((if wd∈WA then ar else []).length:Int)<=ar.length:=by
   split
   ·exact⟨E.a,Qs _⟩
   ·exact⟨(λy hy=>nomatch hy),by simp⟩
  refine Zab E.r (by lia) O.1 (λx hx=>nomatch hx) (by rw[Pg];exact S.ln hs) (Qo _) (by show((if wd∈WA then ar else []).length:Int)<=2*(st+Cr wd)+200;have:=O.2;lia) (λhf=>?_) (.mk1 hs (λe=>absurd e g2) (λe=>absurd e g4) g3);have hf:wd∈(["fn","rec"]:List Str):=hf;have ac:Cr wd=1:=by
   simp only[Ps,P0,or_false]at hf;unfold Cr;rw[if_neg];rcases hf with rfl|rfl <;> right
  have:=O.2;show((if wd∈WA then ar else []).length:Int)+2<=2*(st+Cr wd)+200;lia
def Zdo (h:wd∈TWO\/wd="let"\/wd="if"):Cr wd=1:=by
 unfold Cr;rw[if_neg];intro e;subst e;revert h;right
def Zcj (h:wd∈TWO):Bq wd=some [1,0]/\wd≠"gap":=⟨by unfold Bq;exact if_pos h,λe=>by subst e;revert h;right⟩
def Zs7 {wd:Str}(h:wd="let"\/wd="if"):Bq wd=some [0]/\wd≠"gap":=by rcases h with rfl|rfl <;> exact⟨by right,by right⟩
def Zei (h1:¬wd∈TWO)(h2:¬wd="let")(h3:¬wd="if"):Bq wd=none:=by
 unfold Bq;unfold TWO at h1;rw[if_neg h1,if_neg];simp only[Ps,P0,or_false,not_or];exact⟨h3,h2⟩
def Zpy (h:wd∈TWO):Gb ⟨rs,w,th,st⟩ wd d pl ar=⟨rs,(w++[⟨pl,ar,true⟩]++[⟨pl++[1],ar,false⟩])++[⟨pl++[0],ar,false⟩],th,st+1⟩:=by
 obtain⟨h1,h2⟩:=Zcj h;unfold Gb;simp only[h1,if_neg h2];simp
def Zja {wd:Str}{d:Dt}{pl:List Nat}{ar:Ar}{rs:List Rx}{w:List Wt}{th:List (Str×V)}{st:Int}(h:wd="let"\/wd="if"):Gb ⟨rs,w,th,st⟩ wd d pl ar=⟨rs,(w++[⟨pl,ar,true⟩])++[⟨pl++[0],ar,false⟩],th,st+1⟩:=by
 obtain⟨h1,h2⟩:=Zs7 h;unfold Gb;simp only[h1,if_neg h2];simp
def Zpp (S:MS)(wd:Str)(d:Dt)(pl:List Nat)(ar:Ar):Dd S wd (Ey d) pl ar=((Ct wd d pl ar S.rows).1,{ S with rows:=(Ct wd d pl ar S.rows).2 }):=by
 unfold Ct Dd;by_cases h1:wd∈(["num","truth"]:List Str)
 ·simp only[if_pos h1]
 ·simp only[if_neg h1];split <;> rfl
def Zpg (h:Bq wd=none):Gb ⟨rs,w,th,st⟩ wd d pl ar=⟨(Ct wd d pl ar rs).2,w,th++[(Ct wd d pl ar rs).1],st+Cr wd⟩:=by
 unfold Gb;simp only[h,Zpp];by_cases g:wd="gap"
 ·simp only[if_pos g,Cr,Ra]
 ·simp only[if_neg g,Cr]
def TOk.row (h:TOk rs.length x):Of rs x:=λe=>by
 rcases h with⟨h,_⟩|⟨h,_⟩|⟨_,k,h1,h2⟩
 ·rw[e]at h;exact absurd h (by right)
 ·rw[e]at h;exact absurd h (by right)
 ·exact⟨k,h1,h2⟩
def TOk.num (h:TOk n x):Zcp x:=λe=>by
 rcases h with⟨_,h⟩|⟨h,_⟩|⟨h,_⟩
 ·exact h
 ·rw[e]at h;exact absurd h (by right)
 ·rw[e]at h;exact absurd h (by right)
structure Sm (rs:List Rx)(w:List Wt)(th:List (Str×V))(st:Int):Prop where
 r:(rs.length:Int)+4*(500-st)<=5000
 w:(w.length:Int)+3*(500-st)<=5000
 t:(th.length:Int)+2*(500-st)<=5000
 s:st<=500
def Sm.small {rs:List Rx}{w:List Wt}{th:List (Str×V)}{st:Int}(h:Sm rs w th st)(x:Wt):Iy ⟨rs,w++[x],th,st⟩:=by
 have:=h.r;have:=h.w;have:=h.t;have:=h.s;exact⟨by show rs.length<9000;lia,by show(w++[x]).length<9000;rw[Pn,Pz];lia,by show th.length<9000;lia⟩
def Goes (sub:List Nat->Option (Str×Dt))(S S':MS):Prop:=∀m r,RunX sub m S' r->∃m',RunX sub m' S r
def Goes.step (hs:Iy S)(h:Gp sub S S'):Goes sub S S':=λm r R=>⟨m+1,.cons hs h R⟩
def Goes.trans (h:Goes sub S S')(h':Goes sub S' S2):Goes sub S S2:=λm r R=>by
 obtain⟨m1,R1⟩:=h' m r R;exact h m1 r R1
def SubOk.note (S:SubOk sub)(h:sub pl=some (wd,d)):Pd wd d:=by
 obtain⟨n1,n2,O,_⟩:=S.nt h;refine⟨λI=>?_,O⟩;simp only[Ps,P0,or_false]at I;rcases I with e|e
 ·obtain⟨i,rfl⟩:=n1 e;exact⟨_,rfl⟩
 ·obtain⟨i,rfl⟩:=n2 e;exact⟨_,rfl⟩
def Zp4:He ⟨rs,w,th++[x]++[y],st⟩ wd pl th x y=⟨(D5 wd pl rs x y).2,w,th++[(D5 wd pl rs x y).1],st⟩:=by
 unfold He D5;split <;> rfl
def Zsh:(E2 wd i j).1≠"row":=by
 unfold E2;split
 ·show("num":Str)≠"row";right
 split
 ·show("num":Str)≠"row";right
 ·show("truth":Str)≠"row";right
inductive Jb
 |fm (pl:List Nat) (ar:Ar)
 |fu (wd:Str) (pl:List Nat) (ar:Ar) (ops:List (Str×V))
inductive Xj (sub:List Nat->Option (Str×Dt)):Jb->List Rx->Str×V->List Rx->Int->Prop
 |two {pl:List Nat} {ar:Ar} {rs r1 r2 r3:List Rx} {wd:Str} {d:Dt} {a b x:Str×V} {k1 k2 k3:Int} (hs:sub pl=some (wd,d)) (hw:wd∈TWO) (ha:Xj sub (.fm (pl++[0]) ar) rs a r1 k1) (hb:Xj sub (.fm (pl++[1]) ar) r1 b r2 k2) (hf:Xj sub (.fu wd pl ar [a,b]) r2 x r3 k3):Xj sub (.fm pl ar) rs x r3 (1+(k1+(k2+k3)))
 |lets {pl:List Nat} {ar:Ar} {rs r1 r2:List Rx} {d:Dt} {a b:Str×V} {k1 k2:Int} (hs:sub pl=some (("let":Str),d)) (ha:Xj sub (.fm (pl++[0]) ar) rs a r1 k1) (hb:Xj sub (.fm (pl++[1]) (ar++Cj (Da "let" d 1) [a])) r1 b r2 k2):Xj sub (.fm pl ar) rs b r2 (1+(k1+k2))
 |ifs {pl:List Nat} {ar:Ar} {rs r1 r2:List Rx} {d:Dt} {a x:Str×V} {k1 k2:Int} (hs:sub pl=some (("if":Str),d)) (ha:Xj sub (.fm (pl++[0]) ar) rs a r1 k1) (hf:Xj sub (.fu "if" pl ar [a]) r1 x r2 k2):Xj sub (.fm pl ar) rs x r2 (1+(k1+k2))
 |leaf {pl:List Nat} {ar:Ar} {rs:List Rx} {wd:Str} {d:Dt} (hs:sub pl=some (wd,d)) (h2:¬wd∈TWO) (h3:¬wd="let") (h4:¬wd="if"):Xj sub (.fm pl ar) rs (Ct wd d pl ar rs).1 (Ct wd d pl ar rs).2 (Cr wd)
 |call {pl:List Nat} {ar:Ar} {rs r:List Rx} {a b x:Str×V} {k:Int} {c:List Nat×Ar} (hf:C4 rs a=true) (hc:Ny sub rs a b=some c) (he:Xj sub (.fm c.1 c.2) rs x r k):Xj sub (.fu "call" pl ar [a,b]) rs x r k
 |join {pl:List Nat} {ar:Ar} {rs:List Rx} {wd:Str} {a b:Str×V} (hw:wd∈TWO) (hf:¬(wd="call"/\C4 rs a=true)):Xj sub (.fu wd pl ar [a,b]) rs (D5 wd pl rs a b).1 (D5 wd pl rs a b).2 0
 |ifT {pl:List Nat} {ar:Ar} {rs r:List Rx} {a x:Str×V} {k:Int} (ht:a.1="truth") (hb:Xj sub (.fm (pl++[if a.2=.bl true then 1 else 2]) ar) rs x r k):Xj sub (.fu "if" pl ar [a]) rs x r k
 |ifN {pl:List Nat} {ar:Ar} {rs:List Rx} {a:Str×V} (ht:¬a.1="truth"):Xj sub (.fu "if" pl ar [a]) rs (("row":Str),.int (rs.length:Nat)) (rs++[⟨"if",Ap pl,[a],ar⟩]) 0
noncomputable abbrev Ex (sub:List Nat->Option (Str×Dt))(pl:List Nat)(ar:Ar):=Xj sub (.fm pl ar)
noncomputable abbrev Fx (sub:List Nat->Option (Str×Dt))(wd:Str)(pl:List Nat)(ar:Ar)(ops:List (Str×V)):=Xj sub (.fu wd pl ar ops)
section
variable {sub:List Nat->Option (Str×Dt)}{pl:List Nat}{ar:Ar}{rs r:List Rx}{x a b:Str×V}{k:Int}{wd:Str}{d:Dt}{j:Jb}
def C1 (h:Xj sub j rs x r k):0<=k:=by
 induction h with
 |leaf I _ _ _=>exact(Ob _).1
 |_=>lia
def Zr3 (wd:Str)(pl:List Nat)(rs:List Rx)(x y:Str×V):∃m,(D5 wd pl rs x y).2=rs++m:=by
 unfold D5;split
 ·exact⟨[],by simp⟩
 ·exact⟨_,rfl⟩
def Zuk (wd:Str)(d:Dt)(pl:List Nat)(ar:Ar)(rs:List Rx):∃m,(Ct wd d pl ar rs).2=rs++m:=by
 unfold Ct Dd;split
 ·exact⟨[],by simp⟩
 split
 ·exact⟨[],by simp⟩
 ·exact⟨_,rfl⟩
def Fw (h:Xj sub j rs x r k):∃m,r=rs++m:=by
 induction h with
 |two _ _ _ _ _ i1 i2 I =>
  obtain⟨_,rfl⟩:=i1;obtain⟨_,rfl⟩:=i2;obtain⟨_,rfl⟩:=I;exact⟨_,by rw[Qd,Qd]⟩
 |lets _ _ _ i1 i2 =>
  obtain⟨_,rfl⟩:=i1;obtain⟨_,rfl⟩:=i2;exact⟨_,by rw[Qd]⟩
 |ifs _ _ _ i1 i2 =>
  obtain⟨_,rfl⟩:=i1;obtain⟨_,rfl⟩:=i2;exact⟨_,by rw[Qd]⟩
 |leaf=>exact Zuk _ _ _ _ _
 |call _ _ _ i=>exact i
 |join=>exact Zr3 _ _ _ _ _
 |ifT _ _ i=>exact i
 |ifN=>exact⟨_,rfl⟩
def Ox (hs:sub pl=some (wd,d))(h:Ex sub pl ar rs x r k):(wd∈TWO/\∃k',(eX4 λa r1 k1 k2=>Ex sub (pl++[0]) ar rs a r1 k1/\(eX4 λb r2 k3 k4=>Ex sub (pl++[1]) ar r1 b r2 k3/\Fx sub wd pl ar [a,b] r2 x r k4/\k2=k3+k4)/\k'=k1+k2)/\k=1+k')\/(wd="let" /\ ∃k',(eX4 λa r1 k1 k2=>Ex sub (pl++[0]) ar rs a r1 k1/\Ex sub (pl++[1]) (ar++Cj (Da "let" d 1) [a]) r1 x r k2/\k'=k1+k2)/\k=1+k')\/(wd="if" /\ ∃k',(eX4 λa r1 k1 k2=>Ex sub (pl++[0]) ar rs a r1 k1/\Fx sub "if" pl ar [a] r1 x r k2/\k'=k1+k2)/\k=1+k')\/((¬wd∈TWO/\¬wd="let"/\¬wd="if")/\x=(Ct wd d pl ar rs).1/\r=(Ct wd d pl ar rs).2/\k=Cr wd):=by
 cases h with
 |two I Y O hb hf=>cases hs.symm.trans I;exact .inl ⟨Y,_,⟨_,_,_,_,O,⟨_,_,_,_,hb,hf,rfl⟩,rfl⟩,rfl⟩
 |lets I O hb=>cases hs.symm.trans I;exact .inr (.inl ⟨rfl,_,⟨_,_,_,_,O,hb,rfl⟩,rfl⟩)
 |ifs I O hf=>cases hs.symm.trans I;exact .inr (.inr (.inl ⟨rfl,_,⟨_,_,_,_,O,hf,rfl⟩,rfl⟩))
 |leaf I h2 U Z=>cases hs.symm.trans I;exact .inr (.inr (.inr ⟨⟨h2,U,Z⟩,rfl,rfl,rfl⟩))
def two_no (h:wd∈TWO):¬wd="let"/\¬wd="if"/\wd≠"gap":=⟨λe=>by subst e;revert h;right,λe=>by subst e;revert h;right,λe=>by subst e;revert h;right⟩
def two_iff (hs:sub pl=some (wd,d))(hw:wd∈TWO):Ex sub pl ar rs x r k↔∃k',(eX4 λa r1 k1 k2=>Ex sub (pl++[0]) ar rs a r1 k1/\(eX4 λb r2 k3 k4=>Ex sub (pl++[1]) ar r1 b r2 k3/\Fx sub wd pl ar [a,b] r2 x r k4/\k2=k3+k4)/\k'=k1+k2)/\k=1+k':=by
 refine⟨λh=>?_,?_⟩
 ·rcases Ox hs h with h|h|h|h
  ·exact h.2
  ·exact absurd h.1 (two_no hw).1
  ·exact absurd h.1 (two_no hw).2.1
  ·exact absurd hw h.1.1
 ·rintro⟨_,⟨a,r1,k1,k2,I,⟨b,r2,k3,k4,hb,hf,rfl⟩,rfl⟩,rfl⟩;exact .two hs hw I hb hf
def Zeh (hs:sub pl=some (("let":Str),d)):Ex sub pl ar rs x r k↔∃k',(eX4 λa r1 k1 k2=>Ex sub (pl++[0]) ar rs a r1 k1/\Ex sub (pl++[1]) (ar++Cj (Da "let" d 1) [a]) r1 x r k2/\k'=k1+k2)/\k=1+k':=by
 refine⟨λh=>?_,?_⟩
 ·rcases Ox hs h with h|h|h|h
  ·exact absurd rfl (two_no h.1).1
  ·exact h.2
  ·exact absurd h.1 (by right)
  ·exact absurd rfl h.1.2.1
 ·rintro⟨_,⟨a,r1,k1,k2,I,hb,rfl⟩,rfl⟩;exact .lets hs I hb
def Zeg (hs:sub pl=some (("if":Str),d)):Ex sub pl ar rs x r k↔∃k',(eX4 λa r1 k1 k2=>Ex sub (pl++[0]) ar rs a r1 k1/\Fx sub "if" pl ar [a] r1 x r k2/\k'=k1+k2)/\k=1+k':=by
 refine⟨λh=>?_,?_⟩
 ·rcases Ox hs h with h|h|h|h
  ·exact absurd rfl (two_no h.1).2.1
  ·exact absurd h.1 (by right)
  ·exact h.2
  ·exact absurd rfl h.1.2.2
 ·rintro⟨_,⟨a,r1,k1,k2,I,hf,rfl⟩,rfl⟩;exact .ifs hs I hf
def Zgv (hs:sub pl=some (wd,d))(h2:¬wd∈TWO)(h3:¬wd="let")(h4:¬wd="if")(h:Ex sub pl ar rs x r k):x=(Ct wd d pl ar rs).1/\r=(Ct wd d pl ar rs).2/\k=Cr wd:=by
 rcases Ox hs h with h|h|h|h
 ·exact absurd h.1 h2
 ·exact absurd h.1 h3
 ·exact absurd h.1 h4
 ·exact h.2
def Zdf (h:wd="call"/\C4 rs a=true)(hc:Ny sub rs a b=some c):Fx sub wd pl ar [a,b] rs x r k↔Ex sub c.1 c.2 rs x r k:=by
 obtain⟨rfl,h⟩:=h;refine⟨λg=>?_,λg=>.call h hc g⟩;cases g with
 |call _ I O=>cases hc.symm.trans I;exact O
 |join _ hf=>exact absurd ⟨rfl,h⟩ hf
def Zi3 (hw:wd∈TWO)(hf:¬(wd="call"/\C4 rs a=true)):Fx sub wd pl ar [a,b] rs x r k↔x=(D5 wd pl rs a b).1/\r=(D5 wd pl rs a b).2/\k=0:=by
 refine⟨λg=>?_,?_⟩
 ·cases g with
  |call h _ _=>exact absurd ⟨rfl,h⟩ hf
  |join=>exact⟨rfl,rfl,rfl⟩
 ·rintro⟨rfl,rfl,rfl⟩;exact .join hw hf
def Zdb (ht:a.1="truth"):Fx sub "if" pl ar [a] rs x r k↔Ex sub (pl++[if a.2=.bl true then 1 else 2]) ar rs x r k:=by
 refine⟨λg=>?_,.ifT ht⟩;cases g with
 |ifT _ h=>exact h
 |ifN h=>exact absurd ht h
def fu_N (ht:¬a.1="truth"):Fx sub "if" pl ar [a] rs x r k↔x=(("row":Str),.int (rs.length:Nat))/\r=rs++[⟨"if",Ap pl,[a],ar⟩]/\k=0:=by
 refine⟨λg=>?_,?_⟩
 ·cases g with
  |ifT h _=>exact absurd h ht
  |ifN=>exact⟨rfl,rfl,rfl⟩
 ·rintro⟨rfl,rfl,rfl⟩;exact .ifN ht
def Zae (h:Xj sub j rs x r k):∀{x':Str×V}{r':List Rx}{k':Int},Xj sub j rs x' r' k'->x=x'/\r=r'/\k=k':=by
 induction h with
 |two I U _ _ _ i1 i2 i3 =>
  intro _ _ _ h;obtain⟨_,⟨a,Z,k1,k2,O,⟨b,r2,k3,k4,hb,hf,rfl⟩,rfl⟩,rfl⟩:=(two_iff I U).mp h;obtain⟨rfl,rfl,rfl⟩:=i1 O;obtain⟨rfl,rfl,rfl⟩:=i2 hb;obtain⟨rfl,rfl,rfl⟩:=i3 hf;exact⟨rfl,rfl,rfl⟩
 |lets I _ _ i1 i2 =>
  intro _ _ _ h;obtain⟨_,⟨a,Z,k1,k2,O,hb,rfl⟩,rfl⟩:=(Zeh I).mp h;obtain⟨rfl,rfl,rfl⟩:=i1 O;obtain⟨rfl,rfl,rfl⟩:=i2 hb;exact⟨rfl,rfl,rfl⟩
 |ifs I _ _ i1 i2 =>
  intro _ _ _ h;obtain⟨_,⟨a,Z,k1,k2,O,hb,rfl⟩,rfl⟩:=(Zeg I).mp h;obtain⟨rfl,rfl,rfl⟩:=i1 O;obtain⟨rfl,rfl,rfl⟩:=i2 hb;exact⟨rfl,rfl,rfl⟩
 |leaf I h2 h3 h4 =>
  intro _ _ _ h;obtain⟨rfl,rfl,rfl⟩:=Zgv I h2 h3 h4 h;exact⟨rfl,rfl,rfl⟩
 |call hf hc _ i=>exact λh=>i ((Zdf ⟨rfl,hf⟩ hc).mp h)
 |join U hf =>
  intro _ _ _ h;obtain⟨rfl,rfl,rfl⟩:=(Zi3 U hf).mp h;exact⟨rfl,rfl,rfl⟩
 |ifT Y _ i=>exact λh=>i ((Zdb Y).mp h)
 |ifN Y =>
  intro _ _ _ h;obtain⟨rfl,rfl,rfl⟩:=(fu_N Y).mp h;exact⟨rfl,rfl,rfl⟩
def Gc (sub:List Nat->Option (Str×Dt))(j:Jb)(rs:List Rx)(st:Int):Prop:=match j with
 |.fm _ ar=>EOk sub ar rs st
 |.fu wd pl ar ops=>EOk sub ar rs st/\(∀x∈ops,TOk rs.length x)/\∃d,sub pl=some (wd,d)
def two_mem (ha:TOk n a)(hb:TOk n b):∀x∈[a,b],TOk n x:=λx I=>by
 simp only[Ps,P0,or_false]at I;rcases I with rfl|rfl
 ·exact ha
 ·exact hb
def Zaf (ha:TOk n a):∀x∈[a],TOk n x:=λx I=>by rw[P8.mp I];exact ha
def Fq (S:SubOk sub)(h:Xj sub j rs x r k):∀{st:Int},Gc sub j rs st->Fy sub rs st x r (st+k):=by
 induction h with
 | @two pl ar rs r1 r2 r3 wd d a b x k1 k2 k3 I U _ _ _ i1 i2 i3 =>
  intro st E;have E:EOk sub ar rs st:=E;have ta:=i1 E.up;have Ea:=E.up.on ta;have tb:=i2 Ea;have tc:=i3 ⟨Ea.on tb,two_mem (ta.t.up tb.l) tb.t,d,I⟩;have:=ta.s;have:=tb.s;have:=tc.s;have:=ta.l;have:=tb.l;have:=tc.l;have:=ta.m;have:=tb.m;have:=tc.m;rw[show st+(1+(k1+(k2+k3)))=st+1+k1+k2+k3 by lia];exact⟨by lia,tc.t,tc.r,by lia,by lia⟩
 | @lets pl ar rs r1 r2 d a b k1 k2 I _ _ i1 i2 =>
  intro st E;have E:EOk sub ar rs st:=E;have ta:=i1 E.up;have tb:=i2 ((E.up.on ta).put ta.t (by have:=E.l;have:=ta.s;lia) _);have:=ta.s;have:=tb.s;have:=ta.l;have:=tb.l;have:=ta.m;have:=tb.m;rw[show st+(1+(k1+k2))=st+1+k1+k2 by lia];exact⟨by lia,tb.t,tb.r,by lia,by lia⟩
 | @ifs pl ar rs r1 r2 d a x k1 k2 I _ _ i1 i2 =>
  intro st E;have E:EOk sub ar rs st:=E;have ta:=i1 E.up;have tb:=i2 ⟨E.up.on ta,Zaf ta.t,d,I⟩;have:=ta.s;have:=tb.s;have:=ta.l;have:=tb.l;have:=ta.m;have:=tb.m;rw[show st+(1+(k1+k2))=st+1+k1+k2 by lia];exact⟨by lia,tb.t,tb.r,by lia,by lia⟩
 |leaf I h2 h3 h4=>exact λE=>Zoe S I h2 h3 h4 E
 | @call pl ar rs r a b x k c hf hc _ i =>
  intro st E;obtain⟨E,O,_⟩:=E;obtain⟨m,q,rfl,Z,U⟩:=Oa hf (O a (by simp));obtain⟨d',_,_,Y⟩:=Om (y:=b) Z U E.r;cases hc.symm.trans Y;exact i (Zba E Z U (O b (by simp)))
 |join U hf =>
  intro st E;obtain⟨E,O,d,I⟩:=E;rw[Ra];exact Zru S I U E.z E.r O
 |ifT _ _ i=>exact λE=>i E.1
 |ifN ht =>
  intro st E;obtain⟨E,O,d,I⟩:=E;rw[Ra];exact Zab E.r (Qs _) E.a O (by rw[Pg];exact S.ln I) (by show 1<=2;decide) E.l (λhf=>absurd (show("if":Str)∈(["fn","rec"]:List Str) from hf) (by right)) (.mk1 I (λe=>absurd e (by right)) (λ_=>⟨_,rfl⟩) (by right))
end
def Cu {t:TS}{X:St->Hp->Prop}{rt:VK}{bk ct:St->Hp->Prop}{σ:St}{H:Hp}(R:St->Hp->Prop)(h2:∀σ' H',R σ' H'->X σ' H')(h1:∀Y:St->Hp->Prop,(∀σ' H',R σ' H'->Y σ' H')->t ⟨Y,rt,bk,ct⟩ σ H):t ⟨X,rt,bk,ct⟩ σ H:=h1 X h2
def PrW (K:Pi)(H:Hp)(v:V)(x:Str×Str):Prop:=∃a,v=.ref a/\SqT K H a [.str x.1,.str x.2]
def PrW.same (s:SameT H H')(v:V)(x:Str×Str)(h:PrW K H v x):PrW K H' v x:=let ⟨a,e,q⟩:=h;⟨a,e,s.tup q⟩
def BdAt (K:Pi)(H:Hp)(b:Addr)(n:Nat):Prop:=eX2 λbs zs=>H b=some (.lst bs)/\Al (PrW K H) bs zs/\bs.length<=n
def BdAt.same (h:BdAt K H b n)(s:Same H H'):BdAt K H' b n:=let ⟨bs,zs,e,al,l⟩:=h;⟨bs,zs,s _ _ e,al.mono (PrW.same s.t),l⟩
noncomputable def G5 (w:Str):Option Nat:=if w∈(["gap","odd","num","truth","name"]:List Str) then some 0 else if w∈(["plus","minus","less","call","let"]:List Str) then some 2 else if w∈(["fn","rec"]:List Str) then some 1 else if w="if" then some 3 else none
structure Dg (w:Str)(n:Dt)(k:Nat):Prop where
 p:G5 w=some k
 i:w="num" -> ∃i,n=.flat (.int i)
 t:w="truth" -> ∃b,n=.flat (.bl b)
 z:w="name" -> ∃z,n=.flat (.str z)
 b:Gf w n
inductive Tf:Tr->Prop
 |mk {w:Str} {n:Dt} {ps:List Tr} (h:Dg w n ps.length) (hs:∀t,t∈ps->Tf t):Tf (.mk w n ps)
def bk {wd:Str}{d:Dt}(h:wd≠"fn"/\wd≠"let"/\wd≠"rec"):Gf wd d:=⟨λz=>z.elim (λz=>absurd z h.1) (λz=>absurd z h.2.1),λz=>absurd z h.2.2⟩
def Ic (hp:G5 wd=some k)(h:wd≠"num"/\wd≠"truth"/\wd≠"name")(hb:Gf wd d):Dg wd d k:=⟨hp,λz=>absurd z h.1,λz=>absurd z h.2.1,λz=>absurd z h.2.2,hb⟩
def Zic:Dg "gap" (.flat .non) 0:=Ic (by right) (by right) (bk (by right))
def Zf2:Dg "odd" (.flat v) 0:=Ic (by right) (by right) (bk (by right))
def Zfl:Dg "num" (.flat (.int i)) 0:=⟨by right,λ_=>⟨i,rfl⟩,λz=>absurd z (by right),λz=>absurd z (by right),bk (by right)⟩
def Zhw:Dg "truth" (.flat (.bl b)) 0:=⟨by right,λz=>absurd z (by right),λ_=>⟨b,rfl⟩,λz=>absurd z (by right),bk (by right)⟩
def O9:Dg "name" (.flat (.str x)) 0:=⟨by right,λz=>absurd z (by right),λz=>absurd z (by right),λ_=>⟨x,rfl⟩,bk (by right)⟩
def w_fn:Dg "fn" (.flat (.str x)) 1:=Ic (by right) (by right) ⟨λ_=>⟨x,rfl⟩,λz=>absurd z (by right)⟩
def Zvy:Dg "let" (.flat (.str x)) 2:=Ic (by right) (by right) ⟨λ_=>⟨x,rfl⟩,λz=>absurd z (by right)⟩
def Zih:Dg "rec" (.tup [.flat (.str y),.flat (.str x)]) 1:=Ic (by right) (by right) ⟨λz=>absurd z (by right),λ_=>⟨y,x,rfl⟩⟩
def w_if:Dg "if" (.flat .non) 3:=Ic (by right) (by right) (bk (by right))
def Ze0 (h:wd∈TWO):Dg wd (.flat .non) 2:=by
 unfold TWO at h;simp only[Ps,P0,or_false]at h;rcases h with rfl|rfl|rfl|rfl <;> exact Ic (by right) (by right) (bk (by right))
def Za7 (h:Dg wd (.flat nv) 0):Tf (.mk wd (.flat nv) []):=.mk h (λt I=>nomatch I)
def SameR (r:Addr)(H H':Hp):Prop:=∀b o,b≠r->H b=some o->H' b=some o
structure FR (a:Addr)(H H':Hp):Prop where
 r:SameR a H H'
 e:∃cs:List Int,H' a=some (.lst (cs.map V.int))/\cs.length<=63
def FR.trans (x:FR a H H1)(y:FR a H1 H2):FR a H H2:=⟨λb o n h=>y.r b o n (x.r b o n h),y.e⟩
def FR.put (x:FR a H H1)(s:Same H1 H2):FR a H H2:=⟨λb o n h=>s b o (x.r b o n h),let ⟨cs,e,l⟩:=x.e;⟨cs,s _ _ e,l⟩⟩
structure FS (K:Pi)(H:Hp)(a ar pn:Addr)(ts:List Str)(m:Nat):Prop where
 e:∃cs:List Int,H a=some (.lst (cs.map V.int))/\cs.length<=63
 bd:BdAt K H ar m
 na:ar≠a
 hp:H pn=some (.lst (ts.map V.str))
 np:pn≠a
 lt:ts.length=5
def FR.refl (S:FS K H a ar pn ts m):FR a H H:=⟨λ_ _ _ h=>h,S.e⟩
def FR.t (x:FR a H H')(h:∃cs:List Int,H a=some (.lst (cs.map V.int))/\cs.length<=63):SameT H H':=λb=>by
 obtain⟨cs,e,_⟩:=h;exact⟨λxs hb=>x.r b _ (λz=>by rw[z,e]at hb;cases hb) hb,λo u hb=>x.r b _ (λz=>by rw[z,e]at hb;cases hb) hb⟩
def FS.step (S:FS K H a ar pn ts m)(x:FR a H H'):FS K H' a ar pn ts m:=by
 obtain⟨bs,zs,b1,b2,I⟩:=S.bd;exact⟨x.e,⟨bs,zs,x.r _ _ S.na b1,b2.mono (PrW.same (x.t S.e)),I⟩,S.na,x.r _ _ S.np S.hp,S.np,S.lt⟩
def FS.nm (S:FS K H a ar pn ts m)(h0:0<=i)(h1:i<5):∃x:Str,Cq (ts.map V.str) i=some (.str x):=by
 obtain⟨v,hv,I⟩:=Ma (xs:=ts.map V.str) h0 (by rw[Pq,S.lt];exact h1);obtain⟨x,_,rfl⟩:=Rr.mp I;exact⟨x,hv⟩
def FS.more (S:FS K H a ar pn ts m)(b1:H ar=some (.lst bs))(b2:Al (PrW K H) bs zs)(b3:bs.length<=m)(al:Al (PrW K H) ms ws)(lm:ms.length=k)(hp:H p=none):FS K (upd H p (.lst (bs++ms))) a p pn ts (m+k):=by
 have s:Same H (upd H p (.lst (bs++ms))):=Same.upd hp;obtain⟨I,e,l⟩:=S.e;exact⟨⟨I,s _ _ e,l⟩,⟨bs++ms,zs++ws,Ac,(b2.append al).mono (PrW.same s.t),by rw[Pn];lia⟩,(λz=>by rw[z,e]at hp;cases hp),s _ _ S.hp,S.np,S.lt⟩
def Ho (K:Pi)(n:Nat):Sp:=λvs H Q _=>eX7 λ(a ar pn:Addr)(ts:List Str)(m room:Nat)(so:Str)=>vs=[.ref a,.ref ar,.ref pn,.int (room:Nat),.str so]/\FS K H a ar pn ts m/\m+2*room<=500/\1<=room/\room<=n/\∀v t H',FR a H H'->TrAt K H' v t->Tf t->t.size+1<=3*room->Q v H'
def Zd3 (h1:H b=some (.tup [.str wd,nv,.ref p]))(hn:IsN K H nv n)(h2:H p=some (.tup us))(al:Al (TrAt K H) us ts):TrAt K H (.ref b) (.mk wd n ts):=.mk (SqT.of h1) hn (SqT.of h2) al.1 λj v t I O=>al.2 j v t I O
def laid (r:FR a H0 H)(hn:IsN K H nv n)(al:Al (TrAt K H) us ts)(h1:H p=none)(h2:upd H p (.tup us) b=none):FR a H0 (upd (upd H p (.tup us)) b (.tup [.str wd,nv,.ref p]))/\TrAt K (upd (upd H p (.tup us)) b (.tup [.str wd,nv,.ref p])) (.ref b) (.mk wd n ts):=by
 have O:=Same.upd (o:=.tup us) h1;have I:=Same.upd (o:=.tup [.str wd,nv,.ref p]) h2;have s:=O.trans I;exact⟨r.put s,Zd3 Ac (hn.same s.t) (I _ _ Ac) (al.mono λv t h=>h.same s)⟩
def tf_1 (hb:Dg wd n 1)(h1:Tf t1):Tf (.mk wd n [t1]):=.mk hb λt h=>by rw[P8.mp h];exact h1
def Zai (hb:Dg wd n 2)(h1:Tf t1)(h2:Tf t2):Tf (.mk wd n [t1,t2]):=.mk hb λt h=>by
 rcases Ps.mp h with rfl|h
 ·exact h1
 ·rw[P8.mp h];exact h2
def tf_3 (hb:Dg wd n 3)(h1:Tf t1)(h2:Tf t2)(h3:Tf t3):Tf (.mk wd n [t1,t2,t3]):=.mk hb λt h=>by
 rcases Ps.mp h with rfl|h
 ·exact h1
 ·rcases Ps.mp h with rfl|h
  ·exact h2
  ·rw[P8.mp h];exact h3
def sz_1:(Tr.mk wd n [t1]).size=1+t1.size:=by simp[Tr.size,Bv]
def Zce:(Tr.mk wd n [t1,t2]).size=1+(t1.size+t2.size):=by simp[Tr.size,Bv]
def sz_3:(Tr.mk wd n [t1,t2,t3]).size=1+(t1.size+(t2.size+t3.size)):=by simp[Tr.size,Bv]
mutual
theorem Za6:∀(pl:List Nat)(t:Tr)(x:List Nat×Tr),x∈walk pl t->∃q,x.1=pl++q
 |pl,.mk w n ps,x,h=>by
  rw[walk]at h;rcases Ps.mp h with rfl|h
  ·exact⟨[],by simp⟩
  ·exact Zk6 pl 0 ps x h
theorem Zk6:∀(pl:List Nat)(i:Nat)(ts:List Tr)(x:List Nat×Tr),x∈Bo pl i ts->∃q,x.1=pl++q
 |_,_,[],x,h=>by rw[Bo]at h;exact nomatch h
 |pl,i,t::r,x,h=>by
  rw[Bo]at h;rcases Q5.mp h with h|h
  ·obtain⟨q,e⟩:=Za6 (pl++[i]) t x h;exact⟨[i]++q,by rw[e,Qd]⟩
  ·exact Zk6 pl (i+1) r x h
end
def Zjb (x:List Nat×Tr)(l:List (List Nat×Tr))(pl:List Nat):C6 (x::l) pl=(C6 l pl).or (if x.1=pl then some x.2 else none):=by
 unfold C6;rw[W1,List.find?_append];cases h:l.reverse.find? λx=>decide (x.1=pl) with
 |some y=>simp
 |none =>
  by_cases e:x.1=pl
  ·simp[e]
  ·simp[e]
def Zgl (h:∀x∈ws,x.1≠pl):C6 ws pl=none:=by
 unfold C6;rw[List.find?_eq_none.mpr]
 ·rfl
 ·intro x I;rw[decide_eq_true_iff];exact h x (W4.mp I)
noncomputable def B1:Tr->List Nat->Option Tr
 |t,[]=>some t
 |.mk _ _ ts,i::r=>match ts[i]? with
  |some t=>B1 t r
  |none=>none
termination_by structural _ pl=>pl
def Fd (t:Tr):B1 t []=some t:=by rw[B1]
def Em (w:Str)(n:Dt)(ts:List Tr)(i:Nat)(r:List Nat):B1 (.mk w n ts) (i::r)=(ts[i]?).bind λt=>B1 t r:=by
 rw[B1];cases ts[i]? <;> rfl
def Zve (a b:List (List Nat×Tr))(pl:List Nat):C6 (a++b) pl=(C6 b pl).or (C6 a pl):=by
 unfold C6;rw[Tj,List.find?_append];cases b.reverse.find? λx=>decide (x.1=pl) <;> simp
theorem Zbj:∀(pl:List Nat)(i:Nat)(ts:List Tr)(x:List Nat×Tr),x∈Bo pl i ts->eX2 λk q=>i<=k/\x.1=pl++k::q
 |_,_,[],x,h=>by rw[Bo]at h;exact nomatch h
 |pl,i,t::r,x,h=>by
  rw[Bo]at h;rcases Q5.mp h with h|h
  ·obtain⟨q,e⟩:=Za6 (pl++[i]) t x h;exact⟨i,q,Pm _,by rw[e,Qd];rfl⟩
  ·obtain⟨k,q,I,e⟩:=Zbj pl (i+1) r x h;exact⟨k,q,by lia,e⟩
mutual
theorem Zgx:∀(p:List Nat)(t:Tr)(q:List Nat),C6 (walk p t) (p++q)=B1 t q
 |p,.mk w n ps,[]=>by
  rw[walk,Zjb,Zgl,Fd,if_pos (by simp)]
  ·rfl
  ·intro x I;obtain⟨k,q,_,e⟩:=Zbj p 0 ps x I;rw[e];intro z;have:=congrArg Sl z;simp at this
 |p,.mk w n ps,k::r=>by
  rw[walk,Zjb,Zjn p 0 ps k r,if_pos (Qo _),Em,if_neg (λz=>by have:=congrArg Sl z;simp at this),Option.or_none,Uz]
theorem Zjn:∀(p:List Nat)(i:Nat)(ts:List Tr)(k:Nat)(r:List Nat),C6 (Bo p i ts) (p++k::r)=if i<=k then (ts[k-i]?).bind (λt=>B1 t r) else none
 |p,i,[],k,r=>by
  rw[Bo];split <;> simp[C6]
 |p,i,t::ts,k,r=>by
  rw[Bo,Zve,Zjn p (i+1) ts k r];by_cases O:k=i
  ·subst O;rw[if_neg (by lia),if_pos (Pm _),Q9,Option.none_or];have:=Zgx (p++[k]) t r;rw[Qd]at this;rw[show p++k::r=p++([k]++r) from rfl,this];rfl
  ·have e:C6 (walk (p++[i]) t) (p++k::r)=none:=Zgl λx U z=>by
    obtain⟨q,e⟩:=Za6 _ _ _ U;rw[e,Qd]at z;have:=Rc z;simp at this;exact O this.1.symm
   rw[e,Option.or_none];by_cases I:i<=k
   ·rw[if_pos (by lia),if_pos I,show k-i=(k-(i+1))+1 by lia];rfl
   ·rw[if_neg (by lia),if_neg I]
end
def Jf (t:Tr)(pl:List Nat):Bw t pl=(B1 t pl).map λu=>(u.wd,Gg u):=by
 unfold Bw;rw[<- Zgx [] t pl];rfl
def Zso (t:Tr)(p q:List Nat):B1 t (p++q)=(B1 t p).bind λu=>B1 u q:=by
 induction p generalizing t with
 |nil=>rw[Q6,Fd];rfl
 |cons i r I =>
  cases t with
  |mk w n ts =>
   rw[Sx,Em,Em];cases ts[i]? with
   |none=>rfl
   |some u=>exact I u
def Jt:∀{pl:List Nat},Tf t->B1 t pl=some u->Tf u/\pl.length+u.size<=t.size:=by
 intro pl
 induction pl generalizing t with
 |nil=>intro h e;rw[Fd]at e;cases e;exact⟨h,by simp⟩
 |cons i r U =>
  intro h e;cases t with
  |mk w n ts =>
   rw[Em]at e;obtain⟨x,I,e⟩:=Option.bind_eq_some_iff.mp e;cases h with
   |mk Y O =>
    obtain⟨h1,h2⟩:=U (O x (Qu I)) e;have:=Li I;rw[Tr.size,Qc];exact⟨h1,by lia⟩
def Mh (h:Bw t pl=some x):∃u,B1 t pl=some u/\x=(u.wd,Gg u):=by
 rw[Jf]at h;obtain⟨u,h1,h2⟩:=Q0.mp h;exact⟨u,h1,h2.symm⟩
def Zcw (h:B1 t pl=some u)(hj:j<u.ps.length):∃x,Bw t (pl++[j])=some x:=by
 rw[Jf,Zso,h,Rn];cases u with
 |mk w n ts =>
  have hj:j<ts.length:=hj;rw[Em,Pk hj,Rn,Fd];exact⟨_,rfl⟩
def Lu (h:Tf u):Dg u.wd (Gg u) u.ps.length:=by cases h with|mk hw _=>exact hw
def Zdi (h:Dg w n k):(w∈(["plus","minus","less","call","let"]:List Str)->k=2)/\(w="if" -> k=3)/\(w∈(["fn","rec"]:List Str)->k=1):=by
 have hp:=h.p;refine⟨λI=>?_,λI=>?_,λI=>?_⟩
 ·simp only[Ps,P0,or_false]at I;rcases I with rfl|rfl|rfl|rfl|rfl <;> (rw[show G5 _=some 2 by right]at hp;exact(Qh hp).symm)
 ·subst I;rw[show G5 "if"=some 3 by right]at hp;exact(Qh hp).symm
 ·simp only[Ps,P0,or_false]at I;rcases I with rfl|rfl <;> (rw[show G5 _=some 1 by right]at hp;exact(Qh hp).symm)
def Zbi (h:Tf t)(hz:t.size<=5000):SubOk (Bw t):=by
 refine⟨λI=>?_,λI=>?_,λ{pl wd d} I U=>?_,λ{pl wd d} I U=>?_,λ{pl wd d} I U=>?_⟩
 ·obtain⟨u,h1,_⟩:=Mh I;have:=(Jt h h1).2;lia
 ·obtain⟨u,h1,e⟩:=Mh I;have Y:=Lu (Jt h h1).1;cases e;exact⟨Y.i,Y.t,Y.z,Y.b⟩
 ·obtain⟨u,h1,e⟩:=Mh I;obtain⟨p1,p2,O⟩:=Zdi (Lu (Jt h h1).1);cases e;refine Zcw h1 ?_;simp only[Ps,P0,or_false]at U p1 O;rcases U with e|e|e|e|e|e|e|e
  all_goals first|(have:=p2 e;lia)|(have:=O (.inl e);lia)|(have:=O (.inr e);lia)|(have:=p1 (.inl e);lia)|(have:=p1 (.inr (.inl e));lia)|(have:=p1 (.inr (.inr (.inl e)));lia)|(have:=p1 (.inr (.inr (.inr (.inl e))));lia)|(have:=p1 (.inr (.inr (.inr (.inr e))));lia)
 ·obtain⟨u,h1,e⟩:=Mh I;obtain⟨p1,p2,O⟩:=Zdi (Lu (Jt h h1).1);cases e;refine Zcw h1 ?_;simp only[Ps,P0,or_false]at U p1 O;rcases U with e|e|e|e|e|e
  all_goals first|(have:=p2 e;lia)|(have:=O (.inl e);lia)|(have:=O (.inr e);lia)|(have:=p1 (.inl e);lia)|(have:=p1 (.inr (.inl e));lia)|(have:=p1 (.inr (.inr (.inl e)));lia)|(have:=p1 (.inr (.inr (.inr (.inl e))));lia)|(have:=p1 (.inr (.inr (.inr (.inr e))));lia)
 ·obtain⟨u,h1,e⟩:=Mh I;obtain⟨p1,p2,O⟩:=Zdi (Lu (Jt h h1).1);cases e;refine Zcw h1 ?_;have:=p2 U;lia
def Ci (sub:List Nat->Option (Str×Dt))(p:List (List Int))(bc:List (Str×V))(R:List Rx)(r:Rx)(x:Str×V)(R1:List Rx)(k:Int):Prop :=
 if r.pl∈p then Ex sub (C8 r.pl) (Ba bc r.ar) R x R1 k else if (Bq r.wd).isSome=true then Fx sub r.wd (C8 r.pl) (Ba bc r.ar) (B3 bc r.ops) R x R1 k
 else x=(("row":Str),.int (R.length:Nat))/\R1=R++[⟨r.wd,r.pl,B3 bc r.ops,if r.wd∈WA then Ba bc r.ar else []⟩]/\k=0
inductive Gx (sub:List Nat->Option (Str×Dt))(p:List (List Int)):List Rx->List (Str×V)->List Rx->List (Str×V)->List Rx->Int->Prop
 |nil {bc:List (Str×V)} {R:List Rx}:Gx sub p [] bc R bc R 0
 |cons {bc bc':List (Str×V)} {R R1 R':List Rx} {r:Rx} {l:List Rx} {x:Str×V} {k1 k2:Int} (h:Ci sub p bc R r x R1 k1) (t:Gx sub p l (bc++[x]) R1 bc' R' k2):Gx sub p (r::l) bc R bc' R' (k1+k2)
section
variable {sub:List Nat->Option (Str×Dt)}{p:List (List Int)}
def Ow (h:Ci sub p bc R r x R1 k):(∃m,R1=R++m)/\0<=k:=by
 unfold Ci at h;split at h
 ·exact⟨Fw h,C1 h⟩
 split at h
 ·exact⟨Fw h,C1 h⟩
 ·obtain⟨_,rfl,rfl⟩:=h;exact⟨⟨_,rfl⟩,by lia⟩
def Zi6 {bc:List (Str×V)}{R R1 R2:List Rx}{r:Rx}{x y:Str×V}{k j:Int}(h:Ci sub p bc R r x R1 k)(h':Ci sub p bc R r y R2 j):x=y/\R1=R2/\k=j:=by
 unfold Ci at h h';split at h
 ·rename_i I;rw[if_pos I]at h';exact Zae h h'
 rename_i I;rw[if_neg I]at h';split at h
 ·rename_i hd;rw[if_pos hd]at h';exact Zae h h'
 ·rename_i hd;rw[if_neg hd]at h';exact⟨h.1.trans h'.1.symm,h.2.1.trans h'.2.1.symm,h.2.2.trans h'.2.2.symm⟩
def Jk (h:Gx sub p l bc R bc' R' k):0<=k/\(∃m,R'=R++m)/\∃g,bc'=bc++g/\g.length=l.length:=by
 induction h with
 |nil=>exact⟨by lia,⟨[],by simp⟩,[],by simp,rfl⟩
 |cons h _ I =>
  obtain⟨⟨m,rfl⟩,h0⟩:=Ow h;obtain⟨h1,⟨O,rfl⟩,g,rfl,hg⟩:=I;exact⟨by lia,⟨_,by rw[Qd]⟩,_,by rw[Qd],by simp[hg]⟩
def Zp8 {l:List Rx}{bc b1 b2:List (Str×V)}{R R1 R2:List Rx}{k j:Int}(h:Gx sub p l bc R b1 R1 k)(h':Gx sub p l bc R b2 R2 j):b1=b2/\R1=R2/\k=j:=by
 induction h generalizing b2 R2 j with
 |nil=>cases h';exact⟨rfl,rfl,rfl⟩
 |cons h _ I =>
  cases h' with
  |cons g t =>
   obtain⟨rfl,rfl,rfl⟩:=Zi6 h g;obtain⟨rfl,rfl,rfl⟩:=I t;exact⟨rfl,rfl,rfl⟩
def Zg5 {l m:List Rx}{bc b1 b2:List (Str×V)}{R R1 R2:List Rx}{k j:Int}(h:Gx sub p l bc R b1 R1 k)(h':Gx sub p m b1 R1 b2 R2 j):Gx sub p (l++m) bc R b2 R2 (k+j):=by
 induction h with
 |nil=>rw[Rs];exact h'
 |cons h _ I =>
  have:=Gx.cons h (I h');rw[Tb];exact this
theorem Zch:∀{l m:List Rx}{bc b2:List (Str×V)}{R R2:List Rx}{k:Int},Gx sub p (l++m) bc R b2 R2 k->eX4 λb1 R1 k1 k2=>Gx sub p l bc R b1 R1 k1/\Gx sub p m b1 R1 b2 R2 k2/\k=k1+k2
 |[],_,_,_,_,_,_,h=>⟨_,_,0,_,.nil,h,by lia⟩
 |_::l,m,_,_,_,_,_,h=>by
  cases h with
  |cons h t =>
   obtain⟨b1,R1,k1,k2,g1,g2,rfl⟩:=Zch t;exact⟨b1,R1,_,k2,.cons h g1,g2,by lia⟩
def Zvh (h:Ci sub p bc R r x R1 k):Gx sub p [r] bc R (bc++[x]) R1 k:=by
 have:=Gx.cons h .nil;rw[Ra]at this;exact this
end
def Ee {bc:List (Str×V)}{x:Str×V}(h:x.1≠"row"):Bb bc x=x:=by unfold Bb;rw[if_neg h]
def Km (h:bc[i]?=some y):Bb bc (("row":Str),V.int (i:Nat))=y:=by
 unfold Bb;rw[if_pos rfl];show(bc[((i:Nat):Int).toNat]?).getD _=y;rw[Qz,h];rfl
def Ze9 (h:TOk bc.length x):Bb (bc++g) x=Bb bc x:=by
 rcases h with⟨h,_⟩|⟨h,_⟩|⟨h,k,e,I⟩
 ·rw[Ee (by rw[h];right),Ee (by rw[h];right)]
 ·rw[Ee (by rw[h];right),Ee (by rw[h];right)]
 ·have ex:x=(("row":Str),V.int (k:Nat)):=by rw[<- h,<- e]
  rw[ex,Km (Pk I),Km ((Qk I).trans (Pk I))]
def Zez (h:AOk bc.length ar):Ba (bc++g) ar=Ba bc ar:=by
 unfold Ba;exact Ui λy I=>by rw[Ze9 (h y I)]
theorem Zar:∀(ns:List Str)(xs:List (Str×V)),Ba bc (Cj ns xs)=Cj ns (xs.map (Bb bc))
 |[],xs=>by unfold Ba Cj;simp
 |_::_,[]=>by unfold Ba Cj;simp
 |a::ns,x::xs=>by
  have:=Zar (bc:=bc) ns xs;unfold Ba Cj at this ⊢;rw[Qr,List.zip_cons_cons,List.zip_cons_cons,Qr,this]
def Zb3 (l m:Ar):Ba bc (l++m)=Ba bc l++Ba bc m:=by unfold Ba;rw[Ql]
def Zhn:Di (Ba bc ar) z=(Di ar z).map (Bb bc):=by
 unfold Di Ba;rw[<- List.map_reverse,List.find?_map,Option.map_map,Option.map_map];rfl
structure Inv (rs:List Rx)(bc:List (Str×V))(R:List Rx):Prop where
 len:bc.length=rs.length
 fn:∀(i:Nat)(r:Rx),rs[i]?=some r->r.wd∈(["fn","rec"]:List Str)->eX2 λ(m:Nat)(r':Rx)=>bc[i]?=some (("row":Str),V.int (m:Nat))/\R[m]?=some r'/\r'.wd=r.wd/\r'.pl=r.pl/\r'.ar=Ba bc r.ar
structure Fil (sub sub':List Nat->Option (Str×Dt))(p:List Nat):Prop where
 g:∃d,sub p=some (("gap":Str),d)
 o:∀pl x,sub pl=some x->pl≠p->sub' pl=some x
def Fil.ne (F:Fil sub sub' p)(hs:sub pl=some (wd,d))(hw:wd≠"gap"):pl≠p:=λe=>by
 obtain⟨I,h⟩:=F.g;rw[e,h]at hs;injection hs with hs;injection hs with h1 _;exact hw h1.symm
def Zej (h:Ap a=Ap b):a=b:=by rw[<- Fg a,h,Fg]
def Zv3 (F:Fil sub sub' p)(I:Inv rs bc R)(hl:RsOk sub (rs++[r]) st)(h:Ci sub' [Ap p] bc R r x R1 k):Inv (rs++[r]) (bc++[x]) R1:=by
 obtain⟨⟨m,hm⟩,_⟩:=Ow h;refine⟨by rw[Pn,Pn,I.len];rfl,λi q U hf=>?_⟩;obtain⟨⟨hA,_⟩,_,_,H⟩:=hl i q U;by_cases hi:i<rs.length
 ·have O:=U;rw[Qk hi]at O;obtain⟨j,r',h1,h2,h3,h4,h5⟩:=I.fn i q O hf;refine⟨j,r',by rw[Qk (by rw[I.len];exact hi)];exact h1,?_,h3,h4,?_⟩
  ·rw[hm];exact(Qk (Pt.mp h2).1).trans h2
  ·rw[h5,Zez (hA.up (by rw[I.len];lia))]
 ·have Y:i=rs.length:=by
   have:=(Pt.mp U).1;rw[Pn,Pz]at this;lia
  subst Y;have O:=U;rw[Qt (Pm _),Q9]at O;cases O;obtain⟨d,e2⟩:=H.s;have Z:r.wd≠"gap"/\(Bq r.wd).isSome=false/\r.wd∈WA:=by
   simp only[Ps,P0,or_false]at hf;rcases hf with e|e <;> rw[e] <;> exact⟨by right,by right,by right⟩
  have hp:¬r.pl∈[Ap p]:=λe=>F.ne e2 Z.1 (by rw[P8.mp e,Fg]);unfold Ci at h;rw[if_neg hp,if_neg (by rw[Z.2.1];decide)]at h;obtain⟨rfl,rfl,rfl⟩:=h;refine⟨R.length,⟨r.wd,r.pl,B3 bc r.ops,if r.wd∈WA then Ba bc r.ar else []⟩,by rw[<- I.len,Qt (Pm _),Q9];rfl,by rw[Qt (Pm _),Q9];rfl,rfl,rfl,?_⟩;show(if r.wd∈WA then Ba bc r.ar else [])=_;rw[if_pos Z.2.2,Zez (by rw[I.len];exact hA)]
theorem Kj (F:Fil sub sub' p):∀{l rs R R':List Rx}{bc bc':List (Str×V)}{k:Int},Inv rs bc R->RsOk sub (rs++l) st->Gx sub' [Ap p] l bc R bc' R' k->Inv (rs++l) bc' R'
 |[],rs,R,R',bc,bc',k,I,_,h=>by
  cases h;rw[Q2];exact I
 |r::l,rs,R,R',bc,bc',k,I,hl,h=>by
  cases h with
  |cons h t =>
   have e:rs++r::l=rs++[r]++l:=by rw[Qd];rfl
   rw[e]at hl ⊢;exact Kj F (Zv3 F I hl.cut h) hl t
def Ii (g:Gx sub p l b R b1 R1 k):(∀{ar:Ar},AOk b.length ar->Ba b1 ar=Ba b ar)/\∀{x:Str×V},TOk b.length x->Bb b1 x=Bb b x:=by
 obtain⟨_,_,q,rfl,_⟩:=Jk g;exact⟨Zez,Ze9⟩
def Sm2 (sub:List Nat->Option (Str×Dt))(p:List (List Int))(X:List Rx->Str×V->List Rx->Int->Prop)(x:Str×V)(c:Int)(m:List Rx)(bc:List (Str×V))(R:List Rx):Prop :=
 (∀bc' R' k,Gx sub p m bc R bc' R' k->X R (Bb bc' x) R' (c+k))/\(∀y R' k,X R y R' k->eX2 λbc' k'=>Gx sub p m bc R bc' R' k'/\y=Bb bc' x/\k=c+k')
section
variable {sub:List Nat->Option (Str×Dt)}{p:List (List Int)}{bc:List (Str×V)}{R:List Rx}
def Sm2.bind {X:List Rx->Str×V->List Rx->Int->Prop}{Y:Str×V->List Rx->Str×V->List Rx->Int->Prop}{a x:Str×V}{c1 c2:Int}{m1 m2:List Rx}(h1:Sm2 sub p X a c1 m1 bc R)(h2:∀b1 R1 k1,Gx sub p m1 bc R b1 R1 k1->Sm2 sub p (Y (Bb b1 a)) x c2 m2 b1 R1):Sm2 sub p (λR y R' k=>eX4 λa' R1 k1 k2=>X R a' R1 k1/\Y a' R1 y R' k2/\k=k1+k2) x (c1+c2) (m1++m2) bc R:=by
 constructor
 ·intro Z R' k g;obtain⟨b1,R1,k1,k2,g1,g2,rfl⟩:=Zch g;exact⟨_,R1,_,_,h1.1 _ _ _ g1,(h2 _ _ _ g1).1 _ _ _ g2,by lia⟩
 ·rintro y R' k ⟨a',R1,k1,k2,e1,I,rfl⟩;obtain⟨b1,U,g1,rfl,rfl⟩:=h1.2 _ _ _ e1;obtain⟨b2,O,g2,rfl,rfl⟩:=(h2 _ _ _ g1).2 _ _ _ I;exact⟨b2,U+O,Zg5 g1 g2,rfl,by lia⟩
def Sm2.one (h:Sm2 sub p X x c m bc R)(e:∀y R' k,Y R y R' k↔∃k',X R y R' k'/\k=1+k')(hc:c'=1+c)(hm:m'=m):Sm2 sub p Y x c' m' bc R:=by
 subst hc hm;constructor
 ·intro O R' k g;exact(e _ _ _).mpr ⟨_,h.1 _ _ _ g,by lia⟩
 ·intro y R' k I;obtain⟨k',U,rfl⟩:=(e _ _ _).mp I;obtain⟨b,j,g,rfl,rfl⟩:=h.2 _ _ _ U;exact⟨b,j,g,rfl,by lia⟩
def Sm2.none (h:X R (Bb bc x) R c)(det:∀y R' k,X R y R' k->y=Bb bc x/\R'=R/\k=c):Sm2 sub p X x c [] bc R:=by
 constructor
 ·intro O R' k g;cases g;rw[Ra];exact h
 ·intro y R' k I;obtain⟨rfl,rfl,rfl⟩:=det _ _ _ I;exact⟨bc,0,.nil,rfl,by lia⟩
def Sm2.row (hn:bc.length=n)(e:∀y R' k,X R y R' (c+k)↔Ci sub p bc R r y R' k):Sm2 sub p X (("row":Str),V.int (n:Nat)) c [r] bc R:=by
 have nw:∀x,Bb (bc++[x]) (("row":Str),V.int (n:Nat))=x:=λx=>Km (by rw[<- hn,Qt (Pm _),Q9];rfl);constructor
 ·intro O R' k g;cases g with
  |cons h t =>
   cases t;rw[nw,Ra];exact(e _ _ _).mpr h
 ·intro y R' k I;have I:X R y R' (c+(k-c)):=by rw[show c+(k-c)=k by lia];exact I
  exact⟨_,k-c,Zvh ((e _ _ _).mp I),(nw y).symm,by lia⟩
end
def Sm2.iff (h:Sm2 sub p X x c m bc R)(e:∀y R' k,Y R y R' k↔X R y R' k):Sm2 sub p Y x c m bc R:=⟨λO R' k g=>(e _ _ _).mpr (h.1 _ _ _ g),λy R' k I=>h.2 _ _ _ ((e _ _ _).mp I)⟩
def Zdr {sub':List Nat->Option (Str×Dt)}{rs R:List Rx}{bc:List (Str×V)}(I:Inv rs bc R){k:Nat}{r:Rx}{d:Dt}(hr:rs[k]?=some r)(hf:r.wd∈(["fn","rec"]:List Str))(hs:sub' (C8 r.pl)=some (r.wd,d))(y:Str×V):C4 R (Bb bc (("row":Str),V.int (k:Nat)))=true/\Ny sub' R (Bb bc (("row":Str),V.int (k:Nat))) y=some (C8 r.pl++[0],Ba bc r.ar++Cj (Da r.wd d 0) (if r.wd="rec" then [Bb bc (("row":Str),V.int (k:Nat)),y] else [y])):=by
 obtain⟨m,Y,h1,h2,O,U,h5⟩:=I.fn k r hr hf;rw[Km h1];constructor
 ·unfold C4;simp only[Qz];rw[h2];simp only;rw[O,dH hf];rfl
 ·unfold Ny;simp only[Qz];rw[h2];simp only[Rn];rw[U,hs,O,h5];rfl
def two_gap (h:wd∈TWO):wd≠"gap"/\(Bq wd).isSome=true:=⟨(Zcj h).2,by rw[(Zcj h).1];rfl⟩
noncomputable def Dw (b:List (Str×V)):Jb->Jb
 |.fm pl ar=>.fm pl (Ba b ar)
 |.fu wd pl ar ops=>.fu wd pl (Ba b ar) (B3 b ops)
def Zj0 {b:List (Str×V)}{k:Nat}{r:Rx}{d:Dt}{y:Str×V}:Ba b (r.ar++Cj (Da r.wd d 0) (if r.wd="rec" then [(("row":Str),V.int (k:Nat)),y] else [y]))=Ba b r.ar++Cj (Da r.wd d 0) (if r.wd="rec" then [Bb b (("row":Str),V.int (k:Nat)),Bb b y] else [Bb b y]):=by
 rw[Zb3,Zar];split <;> rfl
section
variable {sub sub':List Nat->Option (Str×Dt)}{p:List Nat}(S:SubOk sub)(F:Fil sub sub' p)
include S F
def sim {j:Jb}{rs r:List Rx}{x:Str×V}{k:Int}(h:Xj sub j rs x r k):∀{st:Int},Gc sub j rs st->∀{b:List (Str×V)}{R:List Rx},Inv rs b R->∀{m:List Rx},r=rs++m->Sm2 sub' [Ap p] (Xj sub' (Dw b j)) x k m b R:=by
 induction h with
 | @two pl ar rs r1 r2 r3 wd d u v x k1 k2 k3 U hw ha hb hf i1 i2 i3 =>
  intro st E b R I m O;have E:EOk sub ar rs st:=E;have ta:=Fq S ha E.up;have Ea:=E.up.on ta;have tb:=Fq S hb Ea;have Eb:=Ea.on tb;obtain⟨m1,rfl⟩:=Fw ha;obtain⟨m2,rfl⟩:=Fw hb;obtain⟨m3,rfl⟩:=Fw hf;rw[Qd,Qd]at O;cases Rc O;have Z:=F.o _ _ U (F.ne U (two_gap hw).1);have hA:AOk b.length ar:=by rw[I.len];exact E.a
  refine((i1 E.up I rfl).bind (Y:=λa' R y R' k=>eX4 λb' R2 k3 k4=>Ex sub' (pl++[1]) (Ba b ar) R b' R2 k3/\Fx sub' wd pl (Ba b ar) [a',b'] R2 y R' k4/\k=k3+k4) λb1 R1 _ g1=>?_).one (λy R' k=>two_iff Z hw) rfl rfl;have Ia:=Kj F I Ea.r g1;have s2:=i2 Ea Ia rfl;dsimp only[Dw]at s2;rw[(Ii g1).1 hA]at s2;refine s2.bind (Y:=λb'=>Fx sub' wd pl (Ba b ar) [Bb b1 u,b']) λb2 R2 _ g2=>?_;have s3:=i3 ⟨Eb,two_mem (ta.t.up tb.l) tb.t,d,U⟩ (Kj F Ia Eb.r g2) rfl;dsimp only[Dw,B3,R6]at s3;rw[(Ii g2).1 (by rw[Ia.len];exact Ea.a),(Ii g1).1 hA]at s3;rw[(Ii g2).2 (by rw[Ia.len];exact ta.t)]at s3;exact s3
 | @lets pl ar rs r1 r2 d u x k1 k2 U ha hb i1 i2 =>
  intro st E b R I m O;have E:EOk sub ar rs st:=E;have ta:=Fq S ha E.up;have Ea:=E.up.on ta;obtain⟨m1,rfl⟩:=Fw ha;obtain⟨m2,rfl⟩:=Fw hb;rw[Qd]at O;cases Rc O;have Z:=F.o _ _ U (F.ne U (by right));refine((i1 E.up I rfl).bind (Y:=λa'=>Ex sub' (pl++[1]) (Ba b ar++Cj (Da "let" d 1) [a'])) λb1 R1 _ g1=>?_).one (λy R' k=>Zeh Z) rfl rfl;have s2:=i2 (Ea.put ta.t (by have:=E.l;have:=ta.s;lia) _) (Kj F I Ea.r g1) rfl;dsimp only[Dw]at s2;rw[Zb3,(Ii g1).1 (by rw[I.len];exact E.a),Zar]at s2;exact s2
 | @ifs pl ar rs r1 r2 d u x k1 k2 U ha hf i1 i2 =>
  intro st E b R I m O;have E:EOk sub ar rs st:=E;have ta:=Fq S ha E.up;have Ea:=E.up.on ta;obtain⟨m1,rfl⟩:=Fw ha;obtain⟨m2,rfl⟩:=Fw hf;rw[Qd]at O;cases Rc O;have Z:=F.o _ _ U (F.ne U (by right));refine((i1 E.up I rfl).bind (Y:=λa'=>Fx sub' "if" pl (Ba b ar) [a']) λb1 R1 _ g1=>?_).one (λy R' k=>Zeg Z) rfl rfl;have s2:=i2 ⟨Ea,Zaf ta.t,d,U⟩ (Kj F I Ea.r g1) rfl;dsimp only[Dw,B3,R6]at s2;rw[(Ii g1).1 (by rw[I.len];exact E.a)]at s2;exact s2
 | @leaf pl ar rs wd d U h2 h3 h4 =>
  intro st E b R I m O;by_cases hp:pl=p
  ·subst hp;obtain⟨d',hg⟩:=F.g;cases U.symm.trans hg;rw[Zbb (by right) (λe=>absurd e (by right)) (λe=>absurd e (by right))]at O ⊢;cases Rc O;refine Sm2.row I.len λy R' k=>?_;unfold Ci;rw[if_pos (P8.mpr rfl),Fg,show Cr "gap"=0 by right,Rs,if_pos (show("gap":Str)∈WA by right)];exact Iff.rfl
  have Z:=F.o _ _ U hp;have lf:∀{y R' k},Xj sub' (Dw b (.fm pl ar)) R y R' k↔y=(Ct wd d pl (Ba b ar) R).1/\R'=(Ct wd d pl (Ba b ar) R).2/\k=Cr wd:=λ{y R' k}=>⟨Zgv Z h2 h3 h4,by rintro⟨rfl,rfl,rfl⟩;exact .leaf Z h2 h3 h4⟩;have nn:∀{y z:Str×V},Ct wd d pl ar rs=(y,rs)->Ct wd d pl (Ba b ar) R=(z,R)->Bb b y=z->Sm2 sub' [Ap p] (Xj sub' (Dw b (.fm pl ar))) (Ct wd d pl ar rs).1 (Cr wd) m b R:=λ{y z} e1 e2 e3=>by
   rw[e1]at O ⊢;have O:m=[]:=by simpa using O
   subst O;refine Sm2.none (lf.mpr ?_) λy' R' k hy=>?_
   ·rw[e2,e3];exact⟨rfl,rfl,rfl⟩
   ·have hy:=lf.mp hy;rw[e2]at hy;rw[e3];exact hy
  obtain⟨_,_,n3,_⟩:=S.nt U;rcases Zkv n3 ar with g1|⟨z,y,rfl,e2,e3⟩|⟨g1,l1⟩
  ·refine nn (Zda g1) (Zda g1) (Ee λe=>?_);have e:wd="row":=e;rw[e]at g1;revert g1;right
  ·exact nn (Zdu e2 e3) (Zdu e2 (by rw[Zhn,e3];rfl)) rfl
  ·rw[Zbb g1 (λe z hz=>l1 z e hz) n3]at O ⊢;cases Rc O;refine Sm2.row I.len λy R' k=>?_;rw[lf,Zbb g1 (λe z hz=>by rw[Zhn,l1 z e hz];rfl) n3];unfold Ci;rw[if_neg (λe=>hp (Zej (P8.mp e))),if_neg (show ¬(Bq wd).isSome=true by rw[Zei h2 h3 h4];decide)];have ew:(if wd∈WA then Ba b (if wd∈WA then ar else []) else [])=if wd∈WA then Ba b ar else []:=by split <;> rfl
   show _↔y=_/\R'=R++[Rx.mk wd (Ap pl) [] (if wd∈WA then Ba b (if wd∈WA then ar else []) else [])]/\k=0;rw[ew,show Cr wd+k=Cr wd↔k=0 by lia]
 | @call pl ar rs r u v x k c hf hc he i =>
  intro st E b R I m O;obtain⟨E,ho,_⟩:=E;obtain⟨n,q,rfl,hr,hw⟩:=Oa hf (ho u (by simp));obtain⟨d',aa,_,ac⟩:=Om (y:=v) hr hw E.r;cases hc.symm.trans ac;obtain⟨f1,f2⟩:=Zdr I hr hw (F.o _ _ aa (F.ne aa λe=>by rw[e]at hw;revert hw;right)) (Bb b v);refine(i (Zba E hr hw (ho v (by simp))) I O).iff λy R' k'=>?_;dsimp only[Dw,B3,R6];rw[Zj0];exact Zdf ⟨rfl,f1⟩ f2
 | @join pl ar rs wd u v hw hf =>
  intro st E b R I m O;obtain⟨E,ho,d,U⟩:=E;dsimp only[Dw,B3,R6];by_cases h4:wd∈Iw/\u.1="num"/\v.1="num"
  ·have ej:∀q,D5 wd pl q u v=(E2 wd (En u.2) (En v.2),q):=λq=>by unfold D5;rw[if_pos h4]
   rw[ej]at O ⊢;have O:m=[]:=by simpa using O
   subst O;rw[Ee (bc:=b) (x:=u) (by rw[h4.2.1];right),Ee (bc:=b) (x:=v) (by rw[h4.2.2];right)];have ef:=λ{y R' k}=>Zi3 (sub:=sub') (pl:=pl) (ar:=Ba b ar) (rs:=R) (a:=u) (b:=v) (x:=y) (r:=R') (k:=k) hw (λz=>by rw[z.1]at h4;exact absurd h4.1 (by right));rw[ej]at ef;have nr:Bb b (E2 wd (En u.2) (En v.2))=E2 wd (En u.2) (En v.2):=Ee Zsh;refine Sm2.none (ef.mpr ⟨nr,rfl,rfl⟩) λy R' k hy=>?_;show y=Bb b (E2 wd (En u.2) (En v.2))/\_;rw[nr];exact ef.mp hy
  ·have ej:D5 wd pl rs u v=((("row":Str),V.int (rs.length:Nat)),rs++[⟨wd,Ap pl,[u,v],[]⟩]):=by unfold D5;rw[if_neg h4]
   rw[ej]at O ⊢;cases Rc O;refine Sm2.row I.len λy R' k=>?_;unfold Ci;rw[if_neg (λe=>F.ne U (two_gap hw).1 (Zej (P8.mp e))),if_pos (two_gap hw).2,Fg,Rs];have na:∀a1 a2:Ar,Fx sub' wd pl a1 ([u,v].map (Bb b)) R y R' k->Fx sub' wd pl a2 ([u,v].map (Bb b)) R y R' k:=λa1 a2 h=>by
    dsimp only[R6]at h ⊢;cases h with
    |call h1 h2 h3=>exact .call h1 h2 h3
    |join h1 h2=>exact .join h1 h2
   exact⟨na _ _,na _ _⟩
 | @ifT pl ar rs r u x k ht _ i =>
  intro st E b R I m O;refine(i E.1 I O).iff λy R' k=>?_;dsimp only[Dw,B3,R6];rw[Ee (bc:=b) (x:=u) (by rw[ht];right)];exact Zdb ht
 | @ifN pl ar rs u ht =>
  intro st E b R I m O;obtain⟨E,ho,d,U⟩:=E;cases Rc O;refine Sm2.row I.len λy R' k=>?_;unfold Ci;rw[if_neg (λe=>F.ne U (by right) (Zej (P8.mp e))),if_pos (show(Bq "if").isSome=true by right),Fg,Rs];exact Iff.rfl
end
def SHP (wd:Str)(ops:List (Str×V)):Prop:=(wd∈TWO/\eX2 λx y=>ops=[x,y])\/wd="if" /\ ∃x,ops=[x]
def Jd (sub:List Nat->Option (Str×Dt))(j:Jb):Prop:=match j with
 |.fm pl _=>(sub pl).isSome=true
 |.fu wd _ _ ops=>SHP wd ops
def two_ps (h:wd∈TWO):wd∈(["plus","minus","less","call","let","if","fn","rec"]:List Str)/\wd∈(["plus","minus","less","call","let","if"]:List Str):=by
 unfold TWO at h;simp only[Ps,P0,or_false]at h;rcases h with rfl|rfl|rfl|rfl <;> exact⟨by right,by right⟩
def E5 {α:Type}{o:Option α}(h:∃x,o=some x):o.isSome=true:=by obtain⟨x,rfl⟩:=h;rfl
def SubOk.b (S:SubOk sub)(hs:sub pl=some (("if":Str),d))(v:V):(sub (pl++[if v=.bl true then 1 else 2])).isSome=true:=by
 split
 ·exact E5 (S.p1 hs (by right))
 ·exact E5 (S.p2 hs rfl)
def SubOk.f (S:SubOk sub)(hs:sub pl=some (wd,d))(hw:wd∈(["fn","rec"]:List Str)):(sub (pl++[0])).isSome=true:=by
 refine E5 (S.p0 hs ?_);simp only[Ps,P0,or_false]at hw;rcases hw with h|h <;> rw[h] <;> right
section
variable {sub sub':List Nat->Option (Str×Dt)}{p:List Nat}(S:SubOk sub)(F:Fil sub sub' p)
include S F
def Zaq {j:Jb}{rs r R R':List Rx}{st k k':Int}{x y:Str×V}{b:List (Str×V)}(E:Gc sub j rs st)(I:Inv rs b R)(h:Xj sub j rs x r k)(h':Xj sub' (Dw b j) R y R' k'):Fy sub rs st x r (st+k)/\∃b1,Inv r b1 R'/\y=Bb b1 x/\(∀{ar:Ar},AOk rs.length ar->Ba b1 ar=Ba b ar)/\∀{z:Str×V},TOk rs.length z->Bb b1 z=Bb b z:=by
 have t:=Fq S h E;obtain⟨m,rfl⟩:=Fw h;obtain⟨b1,k1,g,e,_⟩:=(sim S F h E I rfl).2 _ _ _ h';refine⟨t,b1,Kj F I t.r g,e,?_⟩;rw[<- I.len];exact Ii g
def old {j':Jb}{R R1:List Rx}{y:Str×V}{k':Int}(h:Xj sub' j' R y R1 k'):∀{j:Jb}{rs:List Rx}{st:Int}{b:List (Str×V)},j'=Dw b j->Gc sub j rs st->Jd sub j->Inv rs b R->eX3 λx r k=>Xj sub j rs x r k/\k<=k':=by
 have ac:∀{pl ar rs}{k':Int},pl=p->0<=k'->eX3 λx r k=>Xj sub (.fm pl ar) rs x r k/\k<=k':=λe h0=>by
  subst e;obtain⟨d,hg⟩:=F.g;exact⟨_,_,_,.leaf hg (by right) (by right) (by right),by rw[show Cr "gap"=0 by right];exact h0⟩
 have ad:∀{pl:List Nat}{x},pl≠p->(sub pl).isSome=true->sub' pl=some x->sub pl=some x:=λh1 h2 h3=>by
  obtain⟨y,hy⟩:=Sq.mp h2;rw[hy,<- h3,F.o _ _ hy h1]
 induction h with
 | @two pl Y R r1 r2 r3 wd d a b' y k1 k2 k3 O U ha hb hf i1 i2 i3 =>
  intro j rs st b e E D I;have n1:=C1 ha;have n2:=C1 hb;have n3:=C1 hf;cases j with
  |fu=>cases e
  |fm Z ar =>
  cases e;have E:EOk sub ar rs st:=E;by_cases hp:pl=p
  ·exact ac hp (by lia)
  have O:=ad hp D O;obtain⟨u,q1,c1,xa,l1⟩:=i1 (j:=.fm (pl++[0]) ar) rfl E.up (E5 (S.p0 O (two_ps U).1)) I;obtain⟨ta,b1,Ia,rfl,e1,_⟩:=Zaq S F (j:=.fm (pl++[0]) ar) E.up I xa ha;have Ea:=E.up.on ta;rw[<- e1 E.a]at hb;obtain⟨v,q2,c2,xb,l2⟩:=i2 (j:=.fm (pl++[1]) ar) (b:=b1) (by dsimp only[Dw];rw[e1 E.a]) Ea (E5 (S.p1 O (two_ps U).2)) Ia;obtain⟨tb,b2,Ib,rfl,e2,e3⟩:=Zaq S F (j:=.fm (pl++[1]) ar) Ea Ia xb hb;obtain⟨x,q3,c3,xc,l3⟩:=i3 (j:=.fu wd pl ar [u,v]) (b:=b2) (by dsimp only[Dw,B3,R6];rw[e2 Ea.a,e1 E.a,e3 ta.t]) ⟨Ea.on tb,two_mem (ta.t.up tb.l) tb.t,d,O⟩ (.inl ⟨U,_,_,rfl⟩) Ib;exact⟨x,q3,_,.two O U xa xb xc,by lia⟩
 | @lets pl Y R r1 r2 d a y k1 k2 O ha hb i1 i2 =>
  intro j rs st b e E D I;have n1:=C1 ha;have n2:=C1 hb;cases j with
  |fu=>cases e
  |fm Z ar =>
  cases e;have E:EOk sub ar rs st:=E;by_cases hp:pl=p
  ·exact ac hp (by lia)
  have O:=ad hp D O;obtain⟨u,q1,c1,xa,l1⟩:=i1 (j:=.fm (pl++[0]) ar) rfl E.up (E5 (S.p0 O (by right))) I;obtain⟨ta,b1,Ia,rfl,e1,_⟩:=Zaq S F (j:=.fm (pl++[0]) ar) E.up I xa ha;obtain⟨v,q2,c2,xb,l2⟩:=i2 (j:=.fm (pl++[1]) (ar++Cj (Da "let" d 1) [u])) (b:=b1) (by dsimp only[Dw];rw[Zb3,e1 E.a,Zar];rfl) ((E.up.on ta).put ta.t (by have:=E.l;have:=ta.s;lia) _) (E5 (S.p1 O (by right))) Ia;exact⟨v,q2,_,.lets O xa xb,by lia⟩
 | @ifs pl Y R r1 r2 d a y k1 k2 O ha hf i1 i2 =>
  intro j rs st b e E D I;have n1:=C1 ha;have n2:=C1 hf;cases j with
  |fu=>cases e
  |fm Z ar =>
  cases e;have E:EOk sub ar rs st:=E;by_cases hp:pl=p
  ·exact ac hp (by lia)
  have O:=ad hp D O;obtain⟨u,q1,c1,xa,l1⟩:=i1 (j:=.fm (pl++[0]) ar) rfl E.up (E5 (S.p0 O (by right))) I;obtain⟨ta,b1,Ia,rfl,e1,_⟩:=Zaq S F (j:=.fm (pl++[0]) ar) E.up I xa ha;obtain⟨v,q2,c2,xb,l2⟩:=i2 (j:=.fu "if" pl ar [u]) (b:=b1) (by dsimp only[Dw,B3,R6];rw[e1 E.a]) ⟨E.up.on ta,Zaf ta.t,d,O⟩ (.inr ⟨rfl,_,rfl⟩) Ia;exact⟨v,q2,_,.ifs O xa xb,by lia⟩
 | @leaf pl Y R wd d O h2 h3 h4 =>
  intro j rs st b e E D I;cases j with
  |fu=>cases e
  |fm Z ar =>
  cases e;by_cases hp:pl=p
  ·exact ac hp (Ob _).1
  exact⟨_,_,_,.leaf (ad hp D O) h2 h3 h4,Qs _⟩
 | @call pl Y R r a b' y k c hf hc he i =>
  intro j rs st b e E D I;cases j with
  |fm=>cases e
  |fu wd Z ar ops =>
  obtain⟨U,u,v,rfl⟩|⟨rfl,u,rfl⟩:=D
  ·cases e;obtain⟨E,ho,d,O⟩:=E;by_cases h3:C4 rs u=true
   ·obtain⟨n,q,rfl,hr,U⟩:=Oa h3 (ho u (by simp));obtain⟨d',aa,_,ae⟩:=Om (y:=v) hr U E.r;obtain⟨f1,f2⟩:=Zdr I hr U (F.o _ _ aa (F.ne aa λe=>by rw[e]at U;revert U;right)) (Bb b v);cases hc.symm.trans f2;obtain⟨x,r,k,hx,hk⟩:=i (j:=.fm _ _) (by dsimp only[Dw];rw[Zj0]) (Zba E hr U (ho v (by simp))) (S.f aa U) I;exact⟨x,r,k,.call h3 ae hx,hk⟩
   ·exact⟨_,_,0,.join U (λz=>h3 z.2),C1 he⟩
  ·cases e
 | @join pl Y R af a b' U hf =>
  intro j rs st b e E D I;cases j with
  |fm=>cases e
  |fu wd Z ar ops =>
  obtain⟨U,u,v,rfl⟩|⟨rfl,u,rfl⟩:=D
  ·cases e;obtain⟨E,ho,d,O⟩:=E;refine⟨_,_,0,.join U λz=>hf ⟨z.1,?_⟩,Qs _⟩;obtain⟨n,q,rfl,hr,U⟩:=Oa z.2 (ho u (by simp));obtain⟨d',aa,_,_⟩:=Om (y:=v) hr U E.r;exact(Zdr I hr U (F.o _ _ aa (F.ne aa λe=>by rw[e]at U;revert U;right)) (Bb b v)).1
  ·cases e
 | @ifT pl Y R r a y k ht he i =>
  intro j rs st b e E D I;cases j with
  |fm=>cases e
  |fu wd Z ar ops =>
  obtain⟨U,u,v,rfl⟩|⟨rfl,u,rfl⟩:=D
  ·cases e
  ·cases e;obtain⟨E,ho,d,O⟩:=E;by_cases h5:u.1="truth"
   ·rw[Ee (bc:=b) (x:=u) (by rw[h5];right)]at i;obtain⟨x,r,k,hx,hk⟩:=i (j:=.fm _ ar) rfl E (S.b O _) I;exact⟨x,r,k,.ifT h5 hx,hk⟩
   ·exact⟨_,_,0,.ifN h5,C1 he⟩
 | @ifN pl Y R a ht =>
  intro j rs st b e E D I;cases j with
  |fm=>cases e
  |fu wd Z ar ops =>
  obtain⟨U,u,v,rfl⟩|⟨rfl,u,rfl⟩:=D
  ·cases e
  ·cases e;by_cases h5:u.1="truth"
   ·rw[Ee (bc:=b) (x:=u) (by rw[h5];right)]at ht;exact absurd h5 ht
   ·exact⟨_,_,0,.ifN h5,Qs _⟩
end
def G7:Inv [] [] []:=⟨rfl,λi r h=>by simp at h⟩
def RunX.m (h:RunX sub n S o):∀S',o=some S'->RunM sub n S S':=by
 induction h with
 |nil h=>intro S' e;cases e;exact .nil h
 |last=>intro S' e;cases e
 |cons a b _ I=>exact λS' e=>.cons a b (I S' e)
def RunX.l (h:RunX sub n S o):o=none->RunL sub n S:=by
 induction h with
 |nil h=>intro e;cases e
 |last a b c d e f=>intro _;exact .last a b c d e f
 |cons a b _ I=>exact λe=>.cons a b (I e)
def Ends (sub:List Nat->Option (Str×Dt))(w:List Wt)(th:List (Str×V))(R:List Rx)(st:Int)(S:MS)(X:List Rx->Str×V->List Rx->Int->Prop):Prop :=
 (eX3 λx R1 k=>X R x R1 k/\st+k<=500/\Goes sub S ⟨R1,w,th++[x],st+k⟩)\/((∃m,RunX sub m S none)/\∀x R1 k,X R x R1 k->500<st+k)
section
variable {sub:List Nat->Option (Str×Dt)}{w w1:List Wt}{th th1:List (Str×V)}{R:List Rx}{st:Int}{S1 S2:MS}
def Ends.go (h:Ends sub w th R st S2 X)(g:Goes sub S1 S2)(e:∀x R1 k,Y R x R1 k↔X R x R1 k):Ends sub w th R st S1 Y:=by
 rcases h with⟨x,R1,k,h1,h2,I⟩|⟨⟨m,h1⟩,h2⟩
 ·exact .inl ⟨x,R1,k,(e _ _ _).mpr h1,h2,g.trans I⟩
 ·exact .inr ⟨g _ _ h1,λx R1 k h=>h2 x R1 k ((e _ _ _).mp h)⟩
def Ends.one (h:Ends sub w th R (st+1) S2 X)(g:Goes sub S1 S2)(e:∀x R1 k,Y R x R1 k↔∃k',X R x R1 k'/\k=1+k'):Ends sub w th R st S1 Y:=by
 rcases h with⟨x,R1,k,h1,h2,I⟩|⟨⟨m,h1⟩,h2⟩
 ·refine .inl ⟨x,R1,1+k,(e _ _ _).mpr ⟨_,h1,rfl⟩,by lia,?_⟩;rw[<- Tb];exact g.trans I
 ·refine .inr ⟨g _ _ h1,λx R1 k h=>?_⟩;obtain⟨k',h',rfl⟩:=(e _ _ _).mp h;have:=h2 _ _ _ h';lia
def Ends.bind {j:Jb}{Y:Str×V->List Rx->Str×V->List Rx->Int->Prop}(h:Ends sub w1 th1 R st S1 (Xj sub j))(nn:∀a R1 y R' k,Y a R1 y R' k->0<=k)(h2:∀a R1 k1,Xj sub j R a R1 k1->st+k1<=500->Ends sub w th R1 (st+k1) ⟨R1,w1,th1++[a],st+k1⟩ (Y a)):Ends sub w th R st S1 (λR y R' k=>eX4 λa' R1 k1 k2=>Xj sub j R a' R1 k1/\Y a' R1 y R' k2/\k=k1+k2):=by
 rcases h with⟨a,R1,k1,e1,l1,g1⟩|⟨r1,n1⟩
 ·rcases h2 a R1 k1 e1 l1 with⟨x,R2,k2,O,l2,g2⟩|⟨⟨m,r2⟩,n2⟩
  ·refine .inl ⟨x,R2,_,⟨a,R1,k1,k2,e1,O,rfl⟩,by lia,?_⟩;rw[<- Tb];exact g1.trans g2
  ·refine .inr ⟨g1 _ _ r2,?_⟩;rintro x R' k ⟨a',Z,U,k2,I,O,rfl⟩;obtain⟨rfl,rfl,rfl⟩:=Zae e1 I;have:=n2 _ _ _ O;lia
 ·refine .inr ⟨r1,?_⟩;rintro x R' k ⟨a',Z,U,k2,I,O,rfl⟩;have:=n1 _ _ _ I;have:=nn _ _ _ _ _ O;lia
end
def Zl3 (hs:sub pl=some (wd,d))(h:Ex sub pl ar rs x r k):Cr wd<=k:=by
 have:=(Ob wd).2;rcases Ox hs h with⟨_,O,⟨a,U,k1,k2,I,⟨b,Z,k3,Y,hb,hf,rfl⟩,rfl⟩,rfl⟩|⟨_,O,⟨a,U,k1,k2,I,hb,rfl⟩,rfl⟩|⟨_,O,⟨a,U,k1,k2,I,hb,rfl⟩,rfl⟩|⟨_,_,_,rfl⟩
 ·have:=C1 I;have:=C1 hb;have:=C1 hf;lia
 ·have:=C1 I;have:=C1 hb;lia
 ·have:=C1 I;have:=C1 hb;lia
 ·exact Qs _
noncomputable def Jb.s (j:Jb)(R:List Rx)(w:List Wt)(th:List (Str×V))(st:Int):MS:=match j with
 |.fm pl ar=>⟨R,w++[⟨pl,ar,false⟩],th,st⟩
 |.fu _ pl ar ops=>⟨R,w++[⟨pl,ar,true⟩],th++ops,st⟩
noncomputable def Jb.w (j:Jb):Int:=match j with
 |.fm _ _=>1002
 |.fu _ _ _ _=>1003
theorem run {sub:List Nat->Option (Str×Dt)}(S:SubOk sub):∀(n:Nat){j:Jb}{R:List Rx}{st:Int},j.w<=2*st+n->Gc sub j R st->Jd sub j->∀{w:List Wt}{th:List (Str×V)},Sm R w th st->Ends sub w th R st (j.s R w th st) (Xj sub j)
 |0,j,R,st,hn,_,_,w,th,Z=>by
  have:=Z.s;cases j with
  |fm=>have hn:(1002:Int)<=2*st+(0:Nat):=hn;lia
  |fu=>have hn:(1003:Int)<=2*st+(0:Nat):=hn;lia
 |n+1,.fm pl ar,R,st,hn,E,D,w,th,Z=>by
  have hn:(1002:Int)<=2*st+((n+1:Nat):Int):=hn;have ih:=@run sub S n;have E:EOk sub ar R st:=E;obtain⟨⟨wd,d⟩,I⟩:=Sq.mp D;have z1:=Z.r;have z2:=Z.w;have z3:=Z.t;have z4:=Z.s;have ae:=Ob wd;by_cases h1:(500:Int)<st+Cr wd
  ·refine .inr ⟨⟨0,.last (Z.small _) rfl rfl I (λe=>?_) (by show(500:Int)<st+1;lia)⟩,λx R1 k h=>by have:=Zl3 I h;lia⟩;rw[e,show Cr "gap"=0 by right]at h1;lia
  have cm:Gp sub ⟨R,w++[⟨pl,ar,false⟩],th,st⟩ (Gb ⟨R,w,th,st⟩ wd d pl ar):=.come (S:=⟨R,w++[⟨pl,ar,false⟩],th,st⟩) rfl rfl I (S.note I) (λg=>by show st+1<=500;unfold Cr at h1;rw[if_neg g]at h1;lia);have cg:=Goes.step (Z.small _) cm;have U:ar.length<=9000:=by have:=E.l;lia
  by_cases h2:wd∈TWO
  ·rw[Zdo (.inl h2)]at h1;rw[Zpy h2]at cg;refine Ends.one ((ih (j:=.fm (pl++[0]) ar) (by show(1002:Int)<=_;lia) E.up (E5 (S.p0 I (two_ps h2).1)) (w:=w++[Wt.mk pl ar true]++[Wt.mk (pl++[1]) ar false]) (th:=th) ⟨by lia,by rw[Pn,Pn,Pz,Pz];lia,by lia,by lia⟩).bind (Y:=λa R y R' k=>eX4 λb' R2 k3 k4=>Ex sub (pl++[1]) ar R b' R2 k3/\Fx sub wd pl ar [a,b'] R2 y R' k4/\k=k3+k4) ?_ λa R1 k1 ha l1=>?_) cg λx R1 k=>two_iff I h2
   ·rintro a R1 y R' k ⟨b,R2,k3,k4,hb,hf,rfl⟩;have:=C1 hb;have:=C1 hf;lia
   have ta:=Fq S ha (show Gc sub (.fm _ ar) R (st+1) from E.up);have Ea:=E.up.on ta;have:=ta.s;have:=ta.m;refine(ih (j:=.fm (pl++[1]) ar) (by show(1002:Int)<=_;lia) Ea (E5 (S.p1 I (two_ps h2).2)) (w:=w++[Wt.mk pl ar true]) (th:=th++[a]) ⟨by lia,by rw[Pn,Pz];lia,by rw[Pn,Pz];lia,l1⟩).bind (Y:=λb'=>Fx sub wd pl ar [a,b']) (λ_ _ _ _ _ h=>C1 h) λb R2 k2 hb l2=>?_;have tb:=Fq S hb (show Gc sub (.fm _ ar) R1 _ from Ea);have:=tb.s;have:=tb.m;have e:=ih (j:=.fu wd pl ar [a,b]) (by show(1003:Int)<=_;lia) ⟨Ea.on tb,two_mem (ta.t.up tb.l) tb.t,d,I⟩ (.inl ⟨h2,_,_,rfl⟩) (w:=w) (th:=th) ⟨by lia,by lia,by lia,l2⟩;unfold Jb.s at e;rw[show th++[a]++[b]=th++[a,b] by rw[Qd];rfl];exact e
  by_cases h3:wd="let"
  ·subst h3;rw[Zdo (.inr (.inl rfl))]at h1;rw[Zja (.inl rfl)]at cg;refine Ends.one ((ih (j:=.fm (pl++[0]) ar) (by show(1002:Int)<=_;lia) E.up (E5 (S.p0 I (by right))) (w:=w++[Wt.mk pl ar true]) (th:=th) ⟨by lia,by rw[Pn,Pz];lia,by lia,by lia⟩).bind (Y:=λa=>Ex sub (pl++[1]) (ar++Cj (Da "let" d 1) [a])) (λ_ _ _ _ _ h=>C1 h) λa R1 k1 ha l1=>?_) cg λx R1 k=>Zeh I;have ta:=Fq S ha (show Gc sub (.fm _ ar) R (st+1) from E.up);have Ea:=E.up.on ta;have:=ta.s;have:=ta.m;have:=E.l;have z:Sm R1 w th (st+1+k1):=⟨by lia,by lia,by lia,l1⟩;refine(ih (j:=.fm _ _) (by show(1002:Int)<=_;lia) (Ea.put ta.t (by lia) (Da "let" d 1)) (E5 (S.p1 I (by right))) z).go (Goes.step ⟨by show R1.length<9000;lia,by show(w++[_]).length<9000;rw[Pn,Pz];lia,by show(th++[a]).length<9000;rw[Pn,Pz];lia⟩ (.further (S:=⟨R1,w++[⟨pl,ar,true⟩],th++[a],st+1+k1⟩) rfl rfl I (.lets (x:=a) (th:=th) rfl rfl (S.nt I).2.2.2) U)) λ_ _ _=>Iff.rfl
  by_cases h4:wd="if"
  ·subst h4;rw[Zdo (.inr (.inr rfl))]at h1;rw[Zja (.inr rfl)]at cg;refine Ends.one ((ih (j:=.fm (pl++[0]) ar) (by show(1002:Int)<=_;lia) E.up (E5 (S.p0 I (by right))) (w:=w++[Wt.mk pl ar true]) (th:=th) ⟨by lia,by rw[Pn,Pz];lia,by lia,by lia⟩).bind (Y:=λa=>Fx sub "if" pl ar [a]) (λ_ _ _ _ _ h=>C1 h) λa R1 k1 ha l1=>?_) cg λx R1 k=>Zeg I;have ta:=Fq S ha (show Gc sub (.fm _ ar) R (st+1) from E.up);have:=ta.s;have:=ta.m;exact ih (j:=.fu "if" pl ar [a]) (by show(1003:Int)<=_;lia) ⟨E.up.on ta,Zaf ta.t,d,I⟩ (.inr ⟨rfl,_,rfl⟩) ⟨by lia,by lia,by lia,l1⟩
  rw[Zpg (Zei h2 h3 h4)]at cg;exact .inl ⟨_,_,_,.leaf I h2 h3 h4,by lia,cg⟩
 |n+1,.fu wd pl ar ops,R,st,hn,E,D,w,th,Z=>by
  have hn:(1003:Int)<=2*st+((n+1:Nat):Int):=hn;have ih:=@run sub S n;obtain⟨E,ho,d,I⟩:=E;have z1:=Z.r;have z2:=Z.w;have z3:=Z.t;have z4:=Z.s;have U:ar.length<=9000:=by have:=E.l;lia
  have sm:∀{l:List (Str×V)},l.length<=2->Iy ⟨R,w++[⟨pl,ar,true⟩],th++l,st⟩:=λ{l} hl=>⟨by show R.length<9000;lia,by show(w++[_]).length<9000;rw[Pn,Pz];lia,by show(th++l).length<9000;rw[Pn];lia⟩;obtain⟨h2,x,y,rfl⟩|⟨rfl,x,rfl⟩:=D
  ·have tx:=ho x (by simp);have ty:=ho y (by simp);by_cases h4:wd="call"/\C4 R x=true
   ·obtain⟨k,r,rfl,hr,hf⟩:=Oa h4.2 tx;obtain⟨d',aa,ad,hc⟩:=Om (y:=y) hr hf E.r;have af:=(E.r k r hr).2.2.1 hf;have O:Gp sub ⟨R,w++[⟨pl,ar,true⟩],th++[(("row":Str),V.int (k:Nat)),y],st⟩ _:=.further (S:=⟨R,w++[⟨pl,ar,true⟩],th++[(("row":Str),V.int (k:Nat)),y],st⟩) rfl rfl I (.calls (k:=k) (y:=y) (th:=th) h4.1 rfl hr hf ad aa (S.nt aa).2.2.2 (by lia)) U;have e:=ih (j:=.fm (C8 r.pl++[0]) _) (by show(1002:Int)<=_;lia) (Zba (d:=d') E hr hf ty) (S.f aa hf) Z;exact e.go (Goes.step (sm (Pm _)) O) λ_ _ _=>Zdf h4 hc
   ·have ac:wd∈Iw\/wd="call"/\C4 R x=false:=by
     by_cases hc:wd="call"
     ·exact .inr ⟨hc,by cases hq:C4 R x with|false=>rfl|true=>exact absurd ⟨hc,hq⟩ h4⟩
     ·refine .inl ?_;have h2:=h2;unfold TWO at h2;unfold Iw;simp only[Ps,P0,or_false]at h2 ⊢;rcases h2 with h|h|h|h
      ·exact .inl h
      ·exact .inr (.inl h)
      ·exact .inr (.inr h)
      ·exact absurd h hc
    have O:Gp sub ⟨R,w++[⟨pl,ar,true⟩],th++[x]++[y],st⟩ _:=.further (S:=⟨R,w++[⟨pl,ar,true⟩],th++[x]++[y],st⟩) rfl rfl I (.two (x:=x) (y:=y) (th:=th) ac (by show th++[x]++[y]=_;rw[Qd];rfl) tx.row tx.num ty.num) U;rw[Zp4,show th++[x]++[y]=th++[x,y] by rw[Qd];rfl]at O;refine .inl ⟨_,_,0,.join h2 h4,by lia,?_⟩;rw[Ra];exact Goes.step (sm (Pm _)) O
  ·have tx:=ho x (by simp);by_cases h7:x.1="truth"
   ·obtain⟨bb,rfl⟩:∃bb,x=(("truth":Str),V.bl bb):=by
     rcases tx with⟨h,_⟩|⟨_,bb,h⟩|⟨h,_⟩
     ·rw[h7]at h;exact absurd h (by right)
     ·exact⟨bb,by rw[<- h7,<- h]⟩
     ·rw[h7]at h;exact absurd h (by right)
    have O:Gp sub ⟨R,w++[⟨pl,ar,true⟩],th++[(("truth":Str),V.bl bb)],st⟩ _:=.further (S:=⟨R,w++[⟨pl,ar,true⟩],th++[(("truth":Str),V.bl bb)],st⟩) rfl rfl I (.ifs (b:=bb) (th:=th) rfl rfl (S.nt I).2.2.2) U;unfold Ky at O;rw[show Cj (Da "if" d (if bb then 1 else 2:Nat)) []=[] by unfold Cj;exact List.zip_nil_right,Q2,show(if bb=true then 1 else 2)=if V.bl bb=V.bl true then 1 else 2 by cases bb <;> rfl]at O;exact(ih (j:=.fm _ ar) (by show(1002:Int)<=_;lia) E (S.b I _) Z).go (Goes.step (sm (by show 1<=2;decide)) O) λ_ _ _=>Zdb rfl
   ·refine .inl ⟨_,_,0,.ifN h7,by lia,?_⟩;rw[Ra];exact Goes.step (sm (by show 1<=2;decide)) (.further (S:=⟨R,w++[⟨pl,ar,true⟩],th++[x],st⟩) rfl rfl I (.ifr (x:=x) (th:=th) rfl rfl h7) U)
def Zc4 (h:TOk bc.length x)(hb:∀y∈bc,TOk m y):TOk m (Bb bc x):=by
 rcases id h with⟨e,_⟩|⟨e,_⟩|⟨e,k,O,I⟩
 ·rw[Ee (by rw[e];right)];rcases h with h|h|⟨h,_⟩
  ·exact .inl h
  ·exact .inr (.inl h)
  ·rw[e]at h;exact absurd h (by right)
 ·rw[Ee (by rw[e];right)];rcases h with h|h|⟨h,_⟩
  ·exact .inl h
  ·exact .inr (.inl h)
  ·rw[e]at h;exact absurd h (by right)
 ·have ex:x=(("row":Str),V.int (k:Nat)):=by rw[<- e,<- O]
  rw[ex,Km (Pk I)];exact hb _ (Vr I)
def TOk.now (h:TOk n x):Mm n x:=λe=>by
 rcases h with⟨h,_⟩|⟨h,_⟩|⟨_,h⟩
 ·rw[e]at h;exact absurd h (by right)
 ·rw[e]at h;exact absurd h (by right)
 ·exact h
structure Hd (sub:List Nat->Option (Str×Dt))(p:List Nat)(n:Int)(i:Nat)(r:Rx):Prop where
 a:AOk i r.ar
 o:∀x∈r.ops,TOk i x
 lp:r.pl.length<=5000
 lo:r.ops.length<=2
 la:(r.ar.length:Int)<=2*n+200
 lf:r.wd∈(["fn","rec"]:List Str)->(r.ar.length:Int)+2<=2*n+200
 sh:r.pl≠Ap p->Shp sub r
def Zho (bc:List (Str×V))(H:Shp sub r)(h2:(Bq r.wd).isSome=true):SHP r.wd (B3 bc r.ops):=by
 by_cases g2:r.wd∈TWO
 ·obtain⟨x,y,e⟩:=H.t g2;exact .inl ⟨g2,_,_,by unfold B3;rw[e];rfl⟩
 ·by_cases g4:r.wd="if"
  ·obtain⟨x,e⟩:=H.i g4;exact .inr ⟨g4,_,by unfold B3;rw[e];rfl⟩
  ·rw[Zei g2 H.l g4]at h2;cases h2
def Zb1 (W:Hd sub p n bc.length r)(hb:∀x∈bc,TOk R.length x)(hR:RsOk sub R st)(h0:0<=n)(hn:n<=st):EOk sub (Ba bc r.ar) R st/\(∀x∈B3 bc r.ops,TOk R.length x):=by
 refine⟨⟨λy O=>?_,by unfold Ba;rw[Pq];have:=W.la;lia,hR,by lia⟩,λx I=>?_⟩
 ·unfold Ba at O;obtain⟨z,hz,rfl⟩:=Rr.mp O;exact Zc4 (W.a z hz) hb
 ·unfold B3 at I;obtain⟨z,hz,rfl⟩:=Rr.mp I;exact Zc4 (W.o z hz) hb
section
variable {sub:List Nat->Option (Str×Dt)}(S:SubOk sub){p:List Nat}{bc:List (Str×V)}{R R1:List Rx}{st n k:Int}{r:Rx}{x:Str×V}(W:Hd sub p n bc.length r)(hb:∀x∈bc,TOk R.length x)(hR:RsOk sub R st)(h0:0<=n)(hn:n<=st)
include S W hb hR h0 hn
def Zcb (h:Ci sub [Ap p] bc R r x R1 k):Fy sub R st x R1 (st+k):=by
 obtain⟨E,O⟩:=Zb1 W hb hR h0 hn;unfold Ci at h;by_cases h1:r.pl=Ap p
 ·rw[if_pos (P8.mpr h1)]at h;exact Fq S h E
 have H:=W.sh h1;rw[if_neg (λe=>h1 (P8.mp e))]at h;by_cases h2:(Bq r.wd).isSome=true
 ·rw[if_pos h2]at h;exact Fq S h ⟨E,O,H.s⟩
 rw[if_neg h2]at h;obtain⟨rfl,rfl,rfl⟩:=h;rw[Ra];have la:=W.la;have I:AOk R.length (if r.wd∈WA then Ba bc r.ar else [])/\((if r.wd∈WA then Ba bc r.ar else []).length:Int)<=r.ar.length:=by
  split
  ·exact⟨E.a,by unfold Ba;rw[Pq];exact Qs _⟩
  ·exact⟨(λy U=>nomatch U),by show((0:Nat):Int)<=_;lia⟩
 have hl:=I.2;refine Zab hR (Qs _) I.1 O W.lp (by show(B3 bc r.ops).length<=2;unfold B3;rw[Pq];exact W.lo) (by show((if r.wd∈WA then Ba bc r.ar else []).length:Int)<=2*st+200;lia) (λhf=>?_) ⟨H.s,H.p,λe=>?_,λe=>?_,H.l⟩
 ·have:=W.lf hf;show((if r.wd∈WA then Ba bc r.ar else []).length:Int)+2<=2*st+200;lia
 ·obtain⟨x,y,e⟩:=H.t e;exact⟨_,_,by show B3 bc r.ops=_;unfold B3;rw[e];rfl⟩
 ·obtain⟨x,e⟩:=H.i e;exact⟨_,by show B3 bc r.ops=_;unfold B3;rw[e];rfl⟩
def Ztl (hp:(sub p).isSome=true)(hst:st<=500)(Z:(R.length:Int)+4*(500-st)<=5000) :
  (eX3 λx R1 k=>Ci sub [Ap p] bc R r x R1 k/\st+k<=500/\RowG sub p bc r ⟨R,[],[],st⟩ ⟨R1,[],[],st+k⟩ x)\/(Jy sub p bc r ⟨R,[],[],st⟩ none/\∀x R1 k,Ci sub [Ap p] bc R r x R1 k->500<st+k):=by
 obtain⟨E,Y⟩:=Zb1 W hb hR h0 hn;have U:Sm R [] [] st:=⟨Z,by show((0:Nat):Int)+3*(500-st)<=5000;lia,by show((0:Nat):Int)+2*(500-st)<=5000;lia,hst⟩;unfold Ci;by_cases h1:r.pl=Ap p
 ·have ep:C8 r.pl=p:=by rw[h1,Fg]
  simp only[if_pos (P8.mpr h1),ep];rcases run S 1003 (j:=.fm p (Ba bc r.ar)) (by show(1002:Int)<=2*st+((1003:Nat):Int);lia) E hp U with⟨x,R1,k,hx,hk,g⟩|⟨⟨m,X⟩,hx⟩
  ·obtain⟨m,X⟩:=g 0 _ (.nil rfl);exact .inl ⟨x,R1,k,hx,hk,RowG.fill (S:=⟨R,[],[],st⟩) (S':=⟨R1,[],[x],st+k⟩) (th:=[]) h1 (X.m _ rfl) rfl⟩
  ·exact .inr ⟨.lateF h1 (X.l rfl),hx⟩
 have H:=W.sh h1;have I:¬r.pl∈[Ap p]:=λe=>h1 (P8.mp e);by_cases h2:(Bq r.wd).isSome=true
 ·simp only[if_neg I,if_pos h2];rcases run S 1003 (j:=.fu r.wd (C8 r.pl) (Ba bc r.ar) (B3 bc r.ops)) (by show(1003:Int)<=2*st+((1003:Nat):Int);lia) ⟨E,Y,H.s⟩ (Zho bc H h2) U with⟨x,R1,k,hx,hk,g⟩|⟨⟨m,X⟩,hx⟩
  ·obtain⟨m,X⟩:=g 0 _ (.nil rfl);exact .inl ⟨x,R1,k,hx,hk,RowG.parts (S:=⟨R,[],[],st⟩) (S':=⟨R1,[],[x],st+k⟩) (th:=[]) H.p h1 h2 (X.m _ rfl) rfl⟩
  ·exact .inr ⟨.lateP H.p h1 h2 (X.l rfl),hx⟩
 ·simp only[if_neg I,if_neg h2];have O:(Bq r.wd).isSome=false:=by cases h:(Bq r.wd).isSome with|false=>rfl|true=>exact absurd h h2
  have G:=RowG.new (sub:=sub) (fl:=p) (bc:=bc) (S:=⟨R,[],[],st⟩) H.p h1 O;rw[<- H.p]at G;exact .inl ⟨_,_,0,⟨rfl,rfl,rfl⟩,by lia,by rw[Ra];exact G⟩
end
def Zd7 {sub:List Nat->Option (Str×Dt)}{p:List Nat}{n:Int}{bc:List (Str×V)}{R R1:List Rx}{st k:Int}{r:Rx}{x:Str×V}{l:List Rx}{Z:Rx->Prop}(hr:∀(j:Nat)(q:Rx),(r::l)[j]?=some q->Hd sub p n (bc.length+j) q/\Z q)(hb:∀x∈bc,TOk R.length x)(t:Fy sub R st x R1 (st+k)):(∀(j:Nat)(q:Rx),l[j]?=some q->Hd sub p n ((bc++[x]).length+j) q/\Z q)/\∀y∈bc++[x],TOk R1.length y:=by
 refine⟨λj q O=>?_,λy I=>?_⟩
 ·have:=hr (j+1) q O;rw[Pn,Pz,Nat.add_assoc,Nat.add_comm 1 j];exact this
 ·rcases Q5.mp I with I|I
  ·exact(hb y I).up t.l
  ·rw[P8.mp I];exact t.t
theorem Zik (S:SubOk sub)(hp:(sub p).isSome=true)(h0:0<=n):∀(l:List Rx)(bc:List (Str×V))(R:List Rx)(st:Int),(∀(j:Nat)(r:Rx),l[j]?=some r->Hd sub p n (bc.length+j) r)->(∀x∈bc,TOk R.length x)->RsOk sub R st->n<=st->st<=500->(R.length:Int)+l.length+4*(500-st)<=5000 ->
  (eX3 λbc' R' k=>Gx sub [Ap p] l bc R bc' R' k/\st+k<=500/\Gs sub p l bc ⟨R,[],[],st⟩ (some (bc',⟨R',[],[],st+k⟩))/\bc'.length=bc.length+l.length)\/(Gs sub p l bc ⟨R,[],[],st⟩ none/\∀bc' R' k,Gx sub [Ap p] l bc R bc' R' k->500<st+k)
 |[],bc,R,st,_,_,_,_,U,_=>.inl ⟨bc,R,0,.nil,by lia,by rw[Ra];exact .nil,rfl⟩
 |r::l,bc,R,st,hr,hb,hR,hn,U,Z=>by
  have W:=hr 0 r rfl;rw[Nat.add_zero]at W;rw[Qc]at Z;have ok:N5 bc.length r:=⟨λy Y=>(W.o y Y).now,λy Y=>(W.a y Y).now,by have:=W.lo;lia,by have:=W.la;lia⟩;have z1:R.length<9000:=by lia
  rcases Ztl S W hb hR h0 hn hp U (by lia) with⟨x,R1,k,O,hk,G⟩|⟨G,O⟩
  ·have k0:=(Ow O).2;have t:=Zcb S W hb hR h0 hn O;have tl:=t.l;have tm:=t.m;obtain⟨ac,aa⟩:=Zd7 (Z:=λ_=>True) (λj q h=>⟨hr j q h,trivial⟩) hb t;rcases Zik S hp h0 l (bc++[x]) R1 (st+k) (λj q h=>(ac j q h).1) aa t.r (by lia) hk (by lia) with⟨bc',R',k',g,ad,GG,hl⟩|⟨GG,hg⟩
   ·refine .inl ⟨bc',R',k+k',.cons O g,by lia,?_,by rw[hl,Pn,Pz,Qc];lia⟩;rw[<- Tb];exact .cons z1 (by show 0<8000;decide) ok G GG
   ·refine .inr ⟨.cons z1 (by show 0<8000;decide) ok G GG,λbc' R' kk g=>?_⟩;cases g with
    |cons I t' =>
     obtain⟨rfl,rfl,rfl⟩:=Zi6 O I;have:=hg _ _ _ t';lia
  ·refine .inr ⟨.late z1 (by show 0<8000;decide) ok G,λbc' R' kk g=>?_⟩;cases g with
   |cons I t' =>
    have:=O _ _ _ I;have:=(Jk t').1;lia
def Nm (h:TOk bc.length x):Bb b (Bb bc x)=Bb (bc.map (Bb b)) x:=by
 rcases h with⟨e,_⟩|⟨e,_⟩|⟨e,k,O,I⟩
 ·have n:∀q,Bb q x=x:=λq=>Ee (by rw[e];right);rw[n bc,n b,n]
 ·have n:∀q,Bb q x=x:=λq=>Ee (by rw[e];right);rw[n bc,n b,n]
 ·have ex:x=(("row":Str),V.int (k:Nat)):=by rw[<- e,<- O]
  rw[ex,Km (Pk I),Km (bc:=bc.map (Bb b)) (y:=Bb b bc[k]) (by rw[Qm,Pk I];rfl)]
def Za4 (h:AOk bc.length ar):Ba b (Ba bc ar)=Ba (bc.map (Bb b)) ar:=by
 unfold Ba;rw[U0];exact Ui λy I=>by show(y.1,Bb b (Bb bc y.2))=_;rw[Nm (h y I)]
def Zj8 (h:∀x∈ops,TOk bc.length x):B3 b (B3 bc ops)=B3 (bc.map (Bb b)) ops:=by
 unfold B3;rw[U0];exact Ui λy I=>Nm (h y I)
def Zp6 (S:SubOk sub)(h0:0<=n)(g:Gx sub [Ap p] l bc R bc1 R1 k):∀{st:Int},(∀(j:Nat)(r:Rx),l[j]?=some r->Hd sub p n (bc.length+j) r/\True)->(∀x∈bc,TOk R.length x)->RsOk sub R st->n<=st->RsOk sub R1 (st+k)/\(∀x∈bc1,TOk R1.length x)/\(R1.length:Int)<=R.length+l.length+4*k:=by
 induction g with
 |nil=>exact λ_ hb hR _=>⟨by rw[Ra];exact hR,hb,by rw[Tq];lia⟩
 | @cons bc Z R R1 R' r l x k1 k2 I _ Y =>
  intro st O hb hR hn;have W:=(O 0 r rfl).1;rw[Nat.add_zero]at W;have t:=Zcb S W hb hR h0 hn I;obtain⟨a1,a2⟩:=Zd7 O hb t;have k0:=(Ow I).2;obtain⟨i1,U,i4⟩:=Y a1 a2 (st:=st+k1) t.r (by lia);have tm:=t.m;exact⟨by rw[<- Tb];exact i1,U,by rw[Qc];lia⟩
def Two (sub sub':List Nat->Option (Str×Dt))(p q:List Nat)(l:List Rx)(bc:List (Str×V))(R:List Rx):Prop :=
  (∀bc1 R1 k,Gx sub [Ap p] l bc R bc1 R1 k->∀b R',Inv R b R'->∃m,R1=R++m/\(∀b1 R2 k2,Gx sub' [Ap q] m b R' b1 R2 k2->Gx sub' [Ap p,Ap q] l (bc.map (Bb b)) R' (bc1.map (Bb b1)) R2 (k+k2))/\∀d R2 k',Gx sub' [Ap p,Ap q] l (bc.map (Bb b)) R' d R2 k'->eX2 λb1 k2=>Gx sub' [Ap q] m b R' b1 R2 k2/\d=bc1.map (Bb b1)/\k'=k+k2) /\
  ∀b R',Inv R b R'->∀d R2 k',Gx sub' [Ap p,Ap q] l (bc.map (Bb b)) R' d R2 k'->eX3 λbc1 R1 k=>Gx sub [Ap p] l bc R bc1 R1 k/\k<=k'
section
variable {sub sub':List Nat->Option (Str×Dt)}{p q:List Nat}(S:SubOk sub)(F:Fil sub sub' q)(hp:(sub p).isSome=true){n:Int}(h0:0<=n)
include S F hp h0
def Zo6 {bc:List (Str×V)}{R:List Rx}{st:Int}{r:Rx}(W:Hd sub p n bc.length r)(hb:∀x∈bc,TOk R.length x)(hR:RsOk sub R st)(hn:n<=st) :
  (∀x R1 k,Ci sub [Ap p] bc R r x R1 k->∀b R',Inv R b R'->∃m,R1=R++m/\Sm2 sub' [Ap q] (λR y R' k=>Ci sub' [Ap p,Ap q] (bc.map (Bb b)) R r y R' k) x k m b R') /\
  ∀b R',Inv R b R'->∀y R1 k',Ci sub' [Ap p,Ap q] (bc.map (Bb b)) R' r y R1 k'->eX3 λx R1 k=>Ci sub [Ap p] bc R r x R1 k/\k<=k':=by
 obtain⟨E,Z⟩:=Zb1 W hb hR h0 hn;have sm:∀{j:Jb},Gc sub j R st->∀{x R1 k},Xj sub j R x R1 k->∀{b R'},Inv R b R'->∃m,R1=R++m/\Sm2 sub' [Ap q] (Xj sub' (Dw b j)) x k m b R':=λJ _ _ _ h _ _ I=>by
  obtain⟨m,e⟩:=Fw h;exact⟨m,e,sim S F h J I e⟩
 unfold Ci;by_cases h1:r.pl=Ap p
 ·simp only[if_pos (show r.pl∈[Ap p] by simp[h1]),if_pos (show r.pl∈[Ap p,Ap q] by simp[h1]),<- Za4 W.a];exact⟨λx R1 k h b R' I=>sm (j:=.fm (C8 r.pl) _) E h I,λb R' I y R1 k' h=>old S F h (j:=.fm (C8 r.pl) _) rfl E (by rw[h1,Fg];exact hp) I⟩
 have H:=W.sh h1;have O:¬r.pl∈[Ap p]:=λe=>h1 (P8.mp e);have e:∀b,(if r.wd∈WA then Ba b (if r.wd∈WA then Ba bc r.ar else []) else [])=if r.wd∈WA then Ba b (Ba bc r.ar) else []:=λb=>by split <;> rfl
 by_cases U:r.pl=Ap q
 ·have hw:r.wd="gap":=by
   obtain⟨d,Y⟩:=H.s;obtain⟨d',hg⟩:=F.g;rw[U,Fg,hg]at Y;exact(Prod.mk.inj (Qh Y)).1.symm
  have h2:¬(Bq r.wd).isSome=true:=by rw[hw];right
  simp only[if_neg O,if_neg h2,if_pos (show r.pl∈[Ap p,Ap q] by simp[U])];refine⟨?_,λb R' I y R1 k' h=>⟨_,_,0,⟨rfl,rfl,rfl⟩,C1 h⟩⟩;rintro x R1 k ⟨rfl,rfl,rfl⟩;refine λb R' I=>⟨_,rfl,Sm2.row I.len λy R2 k2=>?_⟩;unfold Ci;rw[if_pos (show r.pl∈[Ap q] by simp[U]),Rs,<- Za4 W.a];show _↔Ex sub' (C8 r.pl) (Ba b (if r.wd∈WA then Ba bc r.ar else [])) R' y R2 k2;rw[if_pos (show r.wd∈WA by rw[hw];right)]
 have h3:¬r.pl∈[Ap p,Ap q]:=by simp[h1,U]
 by_cases h2:(Bq r.wd).isSome=true
 ·simp only[if_neg O,if_neg h3,if_pos h2,<- Za4 W.a,<- Zj8 W.o];exact⟨λx R1 k h b R' I=>sm (j:=.fu _ _ _ _) ⟨E,Z,H.s⟩ h I,λb R' I y R1 k' h=>old S F h (j:=.fu _ _ _ _) rfl ⟨E,Z,H.s⟩ (Zho bc H h2) I⟩
 ·simp only[if_neg O,if_neg h3,if_neg h2];refine⟨?_,λb R' I y R1 k' h=>⟨_,_,0,⟨rfl,rfl,rfl⟩,by rw[h.2.2];exact Qs _⟩⟩;rintro x R1 k ⟨rfl,rfl,rfl⟩;refine λb R' I=>⟨_,rfl,Sm2.row I.len λy R2 k2=>?_⟩;unfold Ci;rw[if_neg (λe=>U (P8.mp e)),if_neg h2,Rs,Zj8 W.o,<- Za4 W.a];rw[show(if r.wd∈WA then Ba b (Rx.mk r.wd r.pl (B3 bc r.ops) (if r.wd∈WA then Ba bc r.ar else [])).ar else [])=_ from e b]
theorem Zd5:∀(l:List Rx)(bc:List (Str×V))(R:List Rx)(st:Int),(∀(j:Nat)(r:Rx),l[j]?=some r->Hd sub p n (bc.length+j) r/\True)->(∀x∈bc,TOk R.length x)->RsOk sub R st->n<=st ->
  Two sub sub' p q l bc R
 |[],bc,R,st,_,hb,hR,_=>by
  refine⟨λac R1 k g=>?_,λb R' I d R2 k' g=>⟨bc,R,0,.nil,(Jk g).1⟩⟩;cases g;refine λb R' I=>⟨[],by simp,λb1 R2 k2 g=>?_,λd R2 k' g=>?_⟩
  ·cases g;exact .nil
  ·cases g;exact⟨b,0,.nil,rfl,rfl⟩
 |r::l,bc,R,st,hr,hb,hR,hn=>by
  have W:=(hr 0 r rfl).1;rw[Nat.add_zero]at W;obtain⟨s1,s2⟩:=Zo6 S F hp h0 W hb hR hn;have ok:∀{x R1 k},Ci sub [Ap p] bc R r x R1 k->Fy sub R st x R1 (st+k):=λO=>Zcb S W hb hR h0 hn O;have nx:∀{x R1 k},Ci sub [Ap p] bc R r x R1 k->Two sub sub' p q l (bc++[x]) R1:=λ{x R1 k} O=>by
   have t:=ok O;obtain⟨a1,a2⟩:=Zd7 hr hb t;exact Zd5 l (bc++[x]) R1 (st+k) a1 a2 t.r (by have:=(Ow O).2;lia)
  have iv:∀{x R1 k},Ci sub [Ap p] bc R r x R1 k->∀{m},R1=R++m->∀{b R' b1 Y k1},Inv R b R'->Gx sub' [Ap q] m b R' b1 Y k1->bc.map (Bb b)++[Bb b1 x]=(bc++[x]).map (Bb b1)/\Inv R1 b1 Y:=λ{x R1 k} O m Z b R' b1 Y k1 I g=>by
   have t:=ok O;subst Z;refine⟨?_,Kj F I t.r g⟩;rw[Ql];exact congrArg (·++_) (Ui λy hy=>((Ii g).2 (by rw[I.len];exact hb y hy)).symm)
  refine⟨λac R1 k g=>?_,λb R' I d R2 k' g=>?_⟩
  ·cases g with
   | @cons _ _ _ R0 _ _ _ x k1 k2 O g2 =>
   have n1:=(nx O).1 _ _ _ g2;intro b R' I;obtain⟨m1,U,sm⟩:=s1 _ _ _ O b R' I;obtain⟨_,⟨m2,aa⟩,_⟩:=Jk g2;refine⟨m1++m2,by rw[aa,U,Qd],λb2 R2 k3 g=>?_,λd R2 k' g=>?_⟩
   ·obtain⟨b1,Y,j1,j2,g1,g3,rfl⟩:=Zch g;obtain⟨e,I1⟩:=iv O U I g1;obtain⟨m,Z,n3,_⟩:=n1 _ _ I1;rw[aa]at Z;rw[<- Rc Z]at n3;have:=Gx.cons (sm.1 _ _ _ g1) (by rw[e];exact n3 _ _ _ g3);rw[show k1+k2+(j1+j2)=k1+j1+(k2+j2) by lia];exact this
   ·cases g with
    |cons hy g4 =>
    obtain⟨b1,j1,g1,rfl,rfl⟩:=sm.2 _ _ _ hy;obtain⟨e,I1⟩:=iv O U I g1;obtain⟨m,Z,_,n4⟩:=n1 _ _ I1;rw[aa]at Z;rw[<- Rc Z,<- e]at n4;obtain⟨b2,j2,g5,rfl,rfl⟩:=n4 _ _ _ g4;exact⟨b2,j1+j2,Zg5 g1 g5,rfl,by lia⟩
  ·cases g with
   |cons hy g4 =>
   obtain⟨x,R1,k1,O,ae⟩:=s2 _ _ I _ _ _ hy;obtain⟨m1,U,sm⟩:=s1 _ _ _ O b R' I;obtain⟨b1,j1,g1,rfl,rfl⟩:=sm.2 _ _ _ hy;obtain⟨e,I1⟩:=iv O U I g1;rw[e]at g4;obtain⟨ac,R2,k2,g5,ad⟩:=(nx O).2 _ _ I1 _ _ _ g4;exact⟨ac,R2,k1+k2,.cons O g5,by lia⟩
end
structure Gj (o:Er):Prop where
 t:TOk o.2.1.length o.1
 l:RLt o.2.1
 n:o.2.1.length<=3000
 z:∀r∈o.2.1,r.pl.length<=5000/\r.ops.length<=2/\r.ar.length<=2000
 s:o.2.2<=500
def K8 (sub:List Nat->Option (Str×Dt))(p:List Nat)(l:List Rx)(xa:Str×V)(n:Int)(e:Option Er):Prop:=∃oo,Gs sub p l [] ⟨[],[],[],n⟩ oo/\(∀bc S,oo=some (bc,S)->Mm bc.length xa/\e=some (Bb bc xa,S.rows,S.steps))/\(oo=none->e=none)
def Mu (sub:List Nat->Option (Str×Dt))(ps:List (List Int))(l:List Rx)(xa:Str×V)(n:Int)(e:Option Er):Prop:=(∀o,e=some o->eX3 λbc R k=>Gx sub ps l [] [] bc R k/\n+k<=500/\o=(Bb bc xa,R,n+k))/\(e=none->∀bc R k,Gx sub ps l [] [] bc R k->500<n+k)
def Zbp (g:Gx sub ps l bc R bc' R' k):(∀r∈l,(r.pl∈ps↔r.pl∈qs))->Gx sub qs l bc R bc' R' k:=by
 induction g with
 |nil=>exact λ_=>.nil
 | @cons _ _ _ _ _ r _ _ _ _ h _ I =>
  intro e;refine .cons ?_ (I λr O=>e r (Rw _ O));have e:=e r (Uj ..);unfold Ci at h ⊢;by_cases m:r.pl∈ps
  ·rw[if_pos m]at h;rw[if_pos (e.mp m)];exact h
  ·rw[if_neg m]at h;rw[if_neg λz=>m (e.mpr z)];exact h
def Zlu (h:Mu sub ps l xa n e)(h':Mu sub qs l xa n e')(m:∀r∈l,(r.pl∈ps↔r.pl∈qs)):e=e':=by
 cases e with
 |none =>
  cases e' with
  |none=>rfl
  |some o =>
   obtain⟨bc,R,k,g,I,_⟩:=h'.1 o rfl;have:=h.2 rfl _ _ _ (Zbp g λr U=>(m r U).symm);lia
 |some o =>
  obtain⟨bc,R,k,g,I,rfl⟩:=h.1 o rfl;cases e' with
  |none =>
   have:=h'.2 rfl _ _ _ (Zbp g m);lia
  |some o =>
   obtain⟨Y,R',k',O,Z,rfl⟩:=h'.1 o rfl;obtain⟨rfl,rfl,rfl⟩:=Zp8 (Zbp g m) O;rfl
def Oo (sub:List Nat->Option (Str×Dt))(p:List Nat)(n:Int)(l:List Rx):Prop:=∀(j:Nat)(r:Rx),l[j]?=some r->Hd sub p n (([]:List (Str×V)).length+j) r
section
variable {sub:List Nat->Option (Str×Dt)}{p:List Nat}(S:SubOk sub)(hp:(sub p).isSome=true){n:Int}(h0:0<=n)(h5:n<=500){l:List Rx}{xa:Str×V}(hl:(l.length:Int)<=21+4*n)(ta:TOk l.length xa)(rows:Oo sub p n l)
include S h0 hl ta rows
def Zhb {bc:List (Str×V)}{R:List Rx}{k:Int}(g:Gx sub [Ap p] l [] [] bc R k)(hk:n+k<=500):TOk bc.length xa/\Gj (Bb bc xa,R,n+k)/\RsOk sub R (n+k)/\(R.length:Int)<=21+4*(n+k)/\0<=n+k:=by
 obtain⟨a1,U,O⟩:=Zp6 S h0 g (λj r h=>⟨rows j r h,trivial⟩) (λx Y=>nomatch Y) (λk r I=>by simp at I) (Qs _);obtain⟨k0,_,g',e,Z⟩:=Jk g;have hb:bc.length=l.length:=by rw[e,Q6];exact Z
 have tb:TOk bc.length xa:=by rw[hb];exact ta
 have O:(R.length:Int)<=((0:Nat):Int)+l.length+4*k:=O;refine⟨tb,⟨Zc4 tb U,λk r I=>(a1 k r I).1,by show R.length<=3000;lia,λr I=>?_,hk⟩,a1,by lia,by lia⟩;obtain⟨i,hi⟩:=Wp I;obtain⟨_,⟨k1,k2,k3⟩,_⟩:=a1 i r hi;exact⟨k1,k2,by lia⟩
include hp h5
def Zhh:∃e,K8 sub p l xa n e/\Mu sub [Ap p] l xa n e/\∀o,e=some o->Gj o/\RsOk sub o.2.1 o.2.2/\(o.2.1.length:Int)<=21+4*o.2.2/\0<=o.2.2:=by
 rcases Zik S hp h0 l [] [] n (λj r h=>rows j r h) (λx U=>nomatch U) (λk r Y=>by simp at Y) (Qs _) h5 (by show((0:Nat):Int)+_+_<=_;lia) with⟨b1,R1,k1,g1,hk1,G1,_⟩|⟨G1,n1⟩
 ·obtain⟨I,O⟩:=Zhb S h0 hl ta rows g1 hk1;exact⟨some (Bb b1 xa,R1,n+k1),⟨_,G1,λbc S e=>(by cases e;exact⟨I.now,rfl⟩),λe=>by cases e⟩,⟨λo e=>(by cases e;exact⟨_,_,_,g1,hk1,rfl⟩),λe=>by cases e⟩,λo e=>by cases e;exact O⟩
 ·exact⟨none,⟨_,G1,λbc S e=>(by cases e),λ_=>rfl⟩,⟨λo e=>(by cases e),λ_=>n1⟩,λo e=>by cases e⟩
end
def Zrr (S:SubOk sub)(S':SubOk sub')(F:Fil sub sub' q)(hp:(sub p).isSome=true)(hq:(sub' q).isSome=true)(h0:0<=n)(h5:n<=500)(hl:(l.length:Int)<=21+4*n)(ta:TOk l.length xa)(rows:Oo sub p n l) :
  ∃e1 e2:Option Er,K8 sub p l xa n e1/\Mu sub' [Ap p,Ap q] l xa n e2/\(e1=none->e2=none)/\∀o,e1=some o->Gj o/\K8 sub' q o.2.1 o.1 o.2.2 e2/\∀o',e2=some o'->Gj o':=by
 obtain⟨w1,w2⟩:=Zd5 S F hp h0 l [] [] n (λj r h=>⟨rows j r h,trivial⟩) (λx hx=>nomatch hx) (λk r Y=>by simp at Y) (Qs _);obtain⟨e1,G1,Z1,c1⟩:=Zhh S hp h0 h5 hl ta rows;cases e1 with
 |none =>
  refine⟨none,none,G1,⟨λo e=>(by cases e),λ_ bc R k g=>?_⟩,λ_=>rfl,λo e=>by cases e⟩;obtain⟨ad,R1,k1,g1,hk⟩:=w2 [] [] G7 _ _ _ g;have:=Z1.2 rfl _ _ _ g1;lia
 |some o =>
  obtain⟨c3,c4,Z,U⟩:=c1 o rfl;obtain⟨b1,R1,k1,g1,O,rfl⟩:=Z1.1 o rfl;obtain⟨m,hm,f1,f2⟩:=w1 _ _ _ g1 [] [] G7;rw[Q6]at hm;subst hm;have tb:=(Zhb S h0 hl ta rows g1 O).1;have I:Oo sub' q (n+k1) R1:=λj r Y=>by
   obtain⟨⟨b1,b2⟩,⟨a2,a3,a4⟩,a5,H⟩:=c4 j r Y;rw[show([]:List (Str×V)).length+j=j from Tc j];refine⟨b1,b2,a2,a3,a4,a5,λaa=>?_⟩;obtain⟨d,hd⟩:=H.s;exact⟨⟨d,F.o _ _ hd λe=>aa (by rw[H.p,e])⟩,H.p,H.t,H.i,H.l⟩
  have U:0<=n+k1:=U;have Z:(R1.length:Int)<=21+4*(n+k1):=Z;obtain⟨e2,G2,Z2,c2⟩:=Zhh S' hq U O Z c3.t I;refine⟨_,e2,G1,⟨λo e=>?_,λe bc R k g=>?_⟩,λe=>(by cases e),λo e=>by cases e;exact⟨c3,G2,λo' e'=>(c2 o' e').1⟩⟩
  ·obtain⟨b2,R2,k2,g2,ac,rfl⟩:=Z2.1 o e;refine⟨_,_,_,f1 _ _ _ g2,by lia,?_⟩;rw[<- Nm tb,Tb]
  ·obtain⟨b2,k2,g2,rfl,rfl⟩:=f2 _ _ _ g;have:=Z2.2 e _ _ _ g2;lia
def Zam (sub:List Nat->Option (Str×Dt))(e:Option Er):Prop:=(∀o,e=some o->Ex sub [] [] [] o.1 o.2.1 o.2.2/\o.2.2<=500)/\(e=none->∀x r k,Ex sub [] [] [] x r k->500<k)
def Mq (sub:List Nat->Option (Str×Dt)):EOk sub [] [] 0:=⟨(λy I=>nomatch I),by show((0:Nat):Int)<=2*0+200;decide,(λk r O=>by simp at O),Qs _⟩
def Zhu (S:SubOk sub)(hp:(sub []).isSome=true):eX2 λe m=>Zam sub e/\RunX sub m ⟨[],[⟨[],[],false⟩],[],0⟩ (e.map λo=>⟨o.2.1,[],[o.1],o.2.2⟩):=by
 rcases run S 1002 (j:=.fm [] []) (by show(1002:Int)<=2*0+((1002:Nat):Int);decide) (Mq sub) hp (w:=[]) (th:=[]) ⟨by show((0:Nat):Int)+4*(500-0)<=5000;decide,by show((0:Nat):Int)+3*(500-0)<=5000;decide,by show((0:Nat):Int)+2*(500-0)<=5000;decide,by decide⟩ with⟨x,R,k,hx,hk,g⟩|⟨⟨m,X⟩,hx⟩
 ·rw[Rs]at hk g;obtain⟨m,X⟩:=g 0 _ (.nil rfl);exact⟨some (x,R,k),m,⟨λo e=>(by cases e;exact⟨hx,hk⟩),λe=>by cases e⟩,X⟩
 ·exact⟨none,m,⟨λo e=>(by cases e),λ_ x r k h=>by have:=hx x r k h;lia⟩,X⟩
def Zju (S:SubOk sub)(h:Ex sub [] [] [] o.1 o.2.1 o.2.2)(hk:o.2.2<=500):Gj o/\RsOk sub o.2.1 o.2.2/\(o.2.1.length:Int)<=21+4*o.2.2/\0<=o.2.2:=by
 have t:=Fq S h (st:=0) (Mq sub);rw[Rs]at t;have O:=t.m;have ts:=t.s;have O:(o.2.1.length:Int)<=((0:Nat):Int)+4*(o.2.2-0)+1:=O;refine⟨⟨t.t,λk r I=>(t.r k r I).1,by lia,λr I=>?_,hk⟩,t.r,by lia,ts⟩;obtain⟨i,hi⟩:=Wp I;obtain⟨_,⟨k1,k2,k3⟩,_⟩:=t.r i r hi;exact⟨k1,k2,by lia⟩
def Zwh {sub sub1 sub2:List Nat->Option (Str×Dt)}{p q:List Nat}(S:SubOk sub)(S1:SubOk sub1)(F:Fil sub sub1 p)(F1:Fil sub1 sub2 q)(hp:(sub []).isSome=true)(hp1:(sub1 []).isSome=true)(hpp:(sub1 p).isSome=true){o:Er}(h:Ex sub [] [] [] o.1 o.2.1 o.2.2)(hk:o.2.2<=500){e e':Option Er}(Z:Mu sub2 [Ap p,Ap q] o.2.1 o.1 o.2.2 e)(R:Zam sub2 e'):e=e':=by
 obtain⟨c3,c4,c5,c6⟩:=Zju S h hk;have rows:Oo sub1 p o.2.2 o.2.1:=λj r O=>by
  obtain⟨⟨b1,b2⟩,⟨a2,a3,a4⟩,a5,H⟩:=c4 j r O;rw[show([]:List (Str×V)).length+j=j from Tc j];refine⟨b1,b2,a2,a3,a4,a5,λaa=>?_⟩;obtain⟨d,hd⟩:=H.s;exact⟨⟨d,F.o _ _ hd λe=>aa (by rw[H.p,e])⟩,H.p,H.t,H.i,H.l⟩
 obtain⟨w1,w2⟩:=Zd5 S1 F1 hpp c6 o.2.1 [] [] o.2.2 (λj r h=>⟨rows j r h,trivial⟩) (λx hx=>nomatch hx) (λk r O=>by simp at O) (Qs _);have s1:=sim S F h (st:=0) (Mq sub) G7 (m:=o.2.1) rfl;have Y:∀{bc R k},Gx sub2 [Ap p,Ap q] o.2.1 [] [] bc R k->Ex sub2 [] [] [] (Bb bc o.1) R (o.2.2+k):=λ{bc R k} g=>by
  obtain⟨b1,R1,k1,g1,_⟩:=w2 [] [] G7 _ _ _ g;obtain⟨m,I,_,f2⟩:=w1 _ _ _ g1 [] [] G7;rw[Q6]at I;subst I;obtain⟨b2,k2,g2,rfl,rfl⟩:=f2 _ _ _ g;have x1:=s1.1 _ _ _ g1;have x2:=(sim S1 F1 x1 (st:=0) (Mq sub1) G7 (m:=R1) rfl).1 _ _ _ g2;obtain⟨_,_,g',e,lg⟩:=Jk g1;have hb:b1.length=o.2.1.length:=by rw[e,Q6];exact lg
  rw[Nm (by rw[hb];exact c3.t),Tb]at x2;exact x2
 have U:∀{y R k},Ex sub2 [] [] [] y R k->eX2 λbc k'=>Gx sub2 [Ap p,Ap q] o.2.1 [] [] bc R k'/\y=Bb bc o.1/\k=o.2.2+k':=λ{y R k} h2=>by
  obtain⟨x1,R1,k1,h1,_⟩:=old S1 F1 h2 (j:=.fm [] []) (st:=0) (b:=[]) rfl (Mq sub1) hp1 G7;obtain⟨b1,j1,g1,rfl,rfl⟩:=s1.2 _ _ _ h1;obtain⟨b2,j2,g2,rfl,rfl⟩:=(sim S1 F1 h1 (st:=0) (Mq sub1) G7 (m:=R1) rfl).2 _ _ _ h2;obtain⟨m,I,f1,_⟩:=w1 _ _ _ g1 [] [] G7;rw[Q6]at I;subst I;obtain⟨_,_,g',e,lg⟩:=Jk g1;have hb:b1.length=o.2.1.length:=by rw[e,Q6];exact lg
  exact⟨_,_,f1 _ _ _ g2,Nm (by rw[hb];exact c3.t),by lia⟩
 cases e with
 |none =>
  cases e' with
  |none=>rfl
  |some o' =>
   obtain⟨h1,h2⟩:=R.1 o' rfl;obtain⟨bc,k,g,_,e⟩:=U h1;have:=Z.2 rfl _ _ _ g;lia
 |some o' =>
  obtain⟨bc,R',k,g,ac,rfl⟩:=Z.1 o' rfl;have x:=Y g;cases e' with
  |none=>have:=R.2 rfl _ _ _ x;lia
  |some o2 =>
   obtain⟨e1,e2,e3⟩:=Zae x (R.1 o2 rfl).1;exact congrArg some (by rw[e1,e2,e3])
theorem Zct:∀(pl:List Nat)(ts:List Tr)(i:Nat)(u:Tr),Bo pl i (ts++[u])=Bo pl i ts++walk (pl++[i+ts.length]) u
 |pl,[],i,u=>by
  rw[Q6,Bo,Bo,Bo,Q2];simp
 |pl,t::r,i,u=>by
  rw[Sx,Bo,Bo,Zct pl r (i+1) u,Qd,Qc,show i+1+r.length=i+(r.length+1) by lia]
def Zhg (ts:List Tr)(j:Nat):Bv (ts.take j)<=Bv ts:=by
 have:=Zgd (ts.take j) (ts.drop j);rw[List.take_append_drop]at this;lia
def Zhm {α:Type}{l:List α}{i:Nat}{c:α}(h:l[i]?=some c):l.take (i+1)=l.take i++[c]:=by rw[Sv,h];rfl
def Zeu (s:Sub t pl):(path t pl)[pl.length]?=B1 t pl:=by
 induction s with
 |nil t=>rw[Fd];cases t;rfl
 | @cons w n ts j t r h s I=>rw[N8 h,Em,h,Qc,Uc];exact I
mutual
theorem Zey:∀(t:Tr)(x:List Nat×Tr),x∈walk [] t->Sub t x.1/\(path t x.1)[x.1.length]?=some x.2
 |.mk w n ps,x,h=>by
  rw[walk]at h;rcases Ps.mp h with rfl|h
  ·exact⟨.nil _,rfl⟩
  ·obtain⟨j,t,r,I,U,O,Y⟩:=Zkb 0 ps x h;rw[U,Tc];refine⟨.cons I O,?_⟩;rw[N8 I,Qc,Uc];exact Y
theorem Zkb:∀(i:Nat)(ts:List Tr)(x:List Nat×Tr),x∈Bo [] i ts->eX3 λ(j:Nat)(t:Tr)(r:List Nat)=>ts[j]?=some t/\x.1=(i+j)::r/\Sub t r/\(path t r)[r.length]?=some x.2
 |i,[],x,h=>by rw[Bo]at h;cases h
 |i,t::r,x,h=>by
  rw[Bo]at h;rcases Q5.mp h with h|h
  ·rw[Q6,Za5]at h;obtain⟨y,I,rfl⟩:=Rr.mp h;obtain⟨a,b⟩:=Zey t y I;exact⟨0,t,y.1,rfl,rfl,a,b⟩
  ·obtain⟨j,u,q,Y,O,U,Z⟩:=Zkb (i+1) r x h;exact⟨j+1,u,q,Y,by rw[O];congr 1;lia,U,Z⟩
end
def Zmt (s:Sub t pl)(q:List Nat):B1 (withAt t pl f) (pl++q)=B1 f q:=by
 induction s with
 |nil t=>cases t;rw[withAt,Q6]
 | @cons w n ts j t r h s I =>
  rw[with_cons h,Sx,Em,Sa (Pt.mp h).1,Rn];exact I
def Zny (s:Sub t pl)(hg:B1 t pl=some g)(h0:g.ps=[]):∀{q:List Nat}{u:Tr},B1 t q=some u->q≠pl->∃u',B1 (withAt t pl f) q=some u'/\u'.wd=u.wd/\Gg u'=Gg u:=by
 induction s with
 |nil t =>
  intro q u hu I;rw[Fd]at hg;cases hg;cases g with
  |mk w n ts =>
   have h0:ts=[]:=h0;subst h0;cases q with
   |nil=>exact absurd rfl I
   |cons i r=>rw[Em]at hu;cases hu
 | @cons w n ts j t r h s U =>
  intro q u hu I;rw[Em,h,Rn]at hg;rw[with_cons h];cases q with
  |nil =>
   rw[Fd]at hu;cases hu;exact⟨_,Fd _,rfl,rfl⟩
  |cons i q =>
   rw[Em]at hu ⊢;by_cases e:i=j
   ·subst e;rw[h,Rn]at hu;rw[Sa (Pt.mp h).1,Rn];exact U hg hu λz=>I (by rw[z])
   ·rw[Ss (λz=>e z.symm)];obtain⟨x,O,hu⟩:=Option.bind_eq_some_iff.mp hu;exact⟨u,by rw[O];exact hu,rfl,rfl⟩
def Zg3 (s:Sub t pl)(ht:Tf t)(hf:Tf f):Tf (withAt t pl f):=by
 induction s with
 |nil t=>cases t;exact hf
 | @cons w n ts j t r h s O =>
  rw[with_cons h];cases ht with
  |mk U I =>
   refine .mk (by rw[To];exact U) λu hu=>?_;rcases List.mem_or_eq_of_mem_set hu with hu|rfl
   ·exact I u hu
   ·exact O (I t (Qu h))
def Zsk (h:ts[j]?=some t):Bv (ts.set j u)+t.size=Bv ts+u.size:=by
 induction ts generalizing j with
 |nil=>simp at h
 |cons a r I =>
  cases j with
  |zero =>
   cases h;rw[List.set_cons_zero,Bv,Bv];lia
  |succ j =>
   rw[Uc]at h;have:=I h;rw[List.set_cons_succ,Bv,Bv];lia
def Mw (s:Sub t pl):(withAt t pl f).size<=t.size+f.size:=by
 induction s with
 |nil t=>cases t;rw[withAt];lia
 | @cons w n ts j t r h s I =>
  rw[with_cons h,Tr.size,Tr.size];have:=Zsk (u:=withAt t r f) h;lia
def Zgw (ht:Tf t)(s:Sub t pl)(hg:B1 t pl=some g)(hw:g.wd="gap"):Fil (Bw t) (Bw (withAt t pl f)) pl/\(Bw (withAt t pl f) pl).isSome=true:=by
 have hp:g.ps=[]:=by
  have:=(Lu (Jt ht hg).1).p;rw[hw,show G5 "gap"=some 0 by right]at this;exact R8 (Qh this).symm
 refine⟨⟨⟨Gg g,by rw[Jf,hg,<- hw];rfl⟩,λq x U I=>?_⟩,?_⟩
 ·obtain⟨u,hu,rfl⟩:=Mh U;obtain⟨Y,h1,h2,O⟩:=Zny (f:=f) s hg hp hu I;rw[Jf,h1,<- h2,<- O];rfl
 ·have:=Zmt (f:=f) s [];rw[Q2,Fd]at this;rw[Jf,this];rfl
section
variable {P:Program}{w:World}{K:Pi}{mg:Str->Option Value}{base:Heap}
def Zcq (K:Pi):Sp:=λvs H Q _=>eX3 λ(v:V)(x:Str×V)(n:Nat)=>vs=[v,.int (n:Nat)]/\ThAt K H v x/\TOk n x/\Q (.bl true) H
def Zop:Bc pT pT (A7 Mf):=by walk_at "sc"
def Zbh (h:n=m):(!decide (V.int n=V.int m))=false:=by subst h;rw[dH rfl];rfl
def Ew {X Y:Prop}(h:b=false)(y:Y):if b=true then X else Y:=by rw[if_neg (by rw[h];exact Pu)];exact y
def Fl {X Y:Prop}(h:b=true)(x:X):if b=true then X else Y:=by rw[if_pos h];exact x
def Zpb (F:Fu K "_law_is_thing" Mf f fd)(T:Txt K mg):FnOk P w K mg base As 1 f fd pT (Zcq K):=by
 refine F.okq Zop (λvs H Q E h=>?_) (λY A outer s H vs Q E O h=>?_)
 ·obtain⟨v,x,n,rfl,_⟩:=h;rfl
 ·obtain⟨v,x,n,rfl,U,Z,q⟩:=h;refine⟨_,Ab (Ay (QW.qt (C9 (C2 (Bx (B4 (Cb K "tuple") T.isinstance (Ag Ad (Cc (v:=.ty "tuple") (by rfl) T.tuple (by right) rfl))))) (C9 (Bt (Ft K O.u200) (B0 K T.len Ad) Aa) (Dm (C2 (Bx (B4 (Cb K "str") T.isinstance (Ag (Ai K Ad Aa) (Cc (v:=.ty "str") (by rfl) T.str (by right) rfl))))))))) (Ao Cw) A2)
   (Ab (Ay (Bk K O (Ai K Ad Aa) Am) (Ao (B4 (Cb K "bool") T.isinstance (Ag (Ai K Ad Aa) (Cc (v:=.ty "bool") (by rfl) T.bool (by right) rfl)))) A2) (Ab (Ay (QW.qt (C9 (C2 (Bx (B4 (Cb K "int") T.isinstance (Ag (Ai K Ad Aa) (Cc (v:=.ty "int") (by rfl) T.int (by right) rfl))))) (Dm (Bx (B4 (Cb K "bool") T.isinstance (Ag (Ai K Ad Aa) (Cc (v:=.ty "bool") (by rfl) T.bool (by right) rfl))))))) (Ao Cw) A2) (Ab (Ay (Bk K O (Ai K Ad Aa) Am) (Ao (Zkh Zjc Ej Aa (Ai K Ad Aa) Af)) A2) (Ao (Fb K O (Ai K Ad Aa) Am))))),?_⟩
  obtain⟨fx,a,rfl,I⟩:=U;obtain⟨wd,u⟩:=x;have I:SqT K H a [.str wd,u]:=I;left;refine Fa (b:=true) I rfl ?_;left;refine Ei I ?_;left;refine Ew (Zbh rfl) ?_;left;refine A1 I rfl ?_;left;refine B9 (b:=true) (.str _) rfl ?_;left;refine A1 I rfl ?_;rcases Z with⟨h,i,e⟩|⟨h,i,e⟩|⟨h,i,e,hi⟩
  all_goals replace h:wd=_:=h
  all_goals replace e:u=_:=e
  all_goals subst h e
  ·left;refine Ew (by right) ?_;left;refine A1 I rfl ?_;left;refine B9 (b:=true) (.int _) rfl ?_;left;refine A1 I rfl ?_;left;refine B9 (b:=false) (.int _) rfl ?_;left;refine A1 I rfl ?_;left;refine Ew (by right) ?_;left;refine A1 I rfl ?_;left;exact q
  ·left;refine Fl (by right) ?_;left;refine A1 I rfl ?_;left;refine B9 (b:=true) (.bl _) rfl ?_;left;exact q
  ·left;refine Ew (by right) ?_;left;refine A1 I rfl ?_;left;refine B9 (b:=true) (.int _) rfl ?_;left;refine A1 I rfl ?_;left;refine B9 (b:=false) (.int _) rfl ?_;left;refine A1 I rfl ?_;left;refine Fl (by right) ?_;left;refine A1 I rfl ?_;left;refine Fl (dH (by lia)) ?_;left;rw[dH (show(i:Int)<(n:Int) by lia)];exact q
def Zk2 (K:Pi):Sp:=λvs H Q _=>eX4 λ(v:V)(x:Rx)(n:Nat)(A:Addr->Prop)=>vs=[v,.int (n:Nat)]/\RwAt K A H v x/\AOk n x.ar/\(∀y∈x.ops,TOk n y)/\Q (.bl true) H
def Zdh:Bc ["_law_row_here","_law_k","_law_thing_here","_law_pair"] ["_law_row_here","_law_k"] (A7 Ng):=by walk_at "sc"
def Zw2 (F:Fu K "_law_is_row" Ng f fd)(T:Txt K mg)(kI:A5 P w K mg base 1 "_law_is_thing" ["_law_thing_here","_law_many"] (Zcq K)):FnOk P w K mg base As 2 f fd ["_law_row_here","_law_k"] (Zk2 K):=by
 refine F.okq Zdh (λvs H Q E h=>?_) (λac A outer s H vs Q E U h=>?_)
 ·obtain⟨v,x,n,A,rfl,_⟩:=h;rfl
 ·obtain⟨v,x,n,A',rfl,hx,ha,ho,q⟩:=h;refine⟨_,Ab (Ay (QW.qt (C9 (C2 (Bx (B4 (Cb K "tuple") T.isinstance (Ag Ad (Cc (v:=.ty "tuple") (by rfl) T.tuple (by right) rfl))))) (Dm (Bt (Ft K U.u200) (B0 K T.len Ad) Aa)))) (Ao Cw) A2)
   (Ab (Ay (QW.qt (C9 (C2 (Bx (B4 (Cb K "str") T.isinstance (Ag (Ai K Ad Aa) (Cc (v:=.ty "str") (by rfl) T.str (by right) rfl))))) (Dm (C2 (Bx (B4 (Cb K "tuple") T.isinstance (Ag (Ai K Ad Aa) (Cc (v:=.ty "tuple") (by rfl) T.tuple (by right) rfl)))))))) (Ao Cw) A2) (Ab (Ay (QW.qt (C9 (C2 (Bx (B4 (Cb K "list") T.isinstance (Ag (Ai K Ad Aa) (Cc (v:=.ty "list") (by rfl) T.list (by right) rfl))))) (Dm (C2 (Bx (B4 (Cb K "list") T.isinstance (Ag (Ai K Ad Aa) (Cc (v:=.ty "list") (by rfl) T.list (by right) rfl)))))))) (Ao Cw) A2) (Ab (Dk Qj rfl (Ep K (Ai K Ad Aa)) (C7 2 Zdh) (A4 (Ay (C2 (Bx (Az kI U.m (Ag Av Af)))) (Ao Cw) A2))) (Ab (Dk Qj rfl (Ep K (Ai K Ad Aa)) (C7 3 Zdh) (Ab (Ay (QW.qt (C9 (C2 (Bx (B4 (Cb K "tuple") T.isinstance (Ag A3 (Cc (v:=.ty "tuple") (by rfl) T.tuple (by right) rfl))))) (C9 (Bt (Ft K U.u200) (B0 K T.len A3) Aa) (Dm (C2 (Bx (B4 (Cb K "str") T.isinstance (Ag (Ai K A3 Aa) (Cc (v:=.ty "str") (by rfl) T.str (by right) rfl))))))))) (Ao Cw) A2) (A4 (Ay (C2 (Bx (Az kI U.m (Ag (Ai K A3 Aa) Af)))) (Ao Cw) A2)))) (Ao Cw))))),?_⟩
  obtain⟨a,p,o,e,ov,ev,rfl,h2,h3,h4,h5,h6,h7,_,_⟩:=hx;left;refine Fa (b:=true) h2 rfl ?_;left;refine Ei h2 ?_;left;refine Ew (Zbh rfl) ?_;left;refine A1 h2 rfl ?_;left;refine B9 (b:=true) (.str _) rfl ?_;left;refine A1 h2 rfl ?_;left;refine Fa (b:=true) h3 rfl ?_;left;refine A1 h2 rfl ?_;left;refine G8 (b:=true) (SqL.of h4) rfl ?_;left;refine A1 h2 rfl ?_;left;refine G8 (b:=true) (SqL.of h6) rfl ?_;left;refine A1 h2 rfl ?_;refine .inl ⟨o,rfl,⟨_,SqL.of h4⟩,?_⟩;refine Ji (K:=K) (a:=o) (xs:=ov) (λi I H'=>∃Y,I=[some (.ref a),some (.int (n:Nat)),Y,none]/\H'=H) ⟨_,rfl,rfl⟩ ?_ ?_ ?_
  ·rintro i I H' _ ⟨_,_,rfl⟩;exact SqL.of h4
  ·rintro i y I H' Z ⟨Y,rfl,rfl⟩;obtain⟨z,hz,aa⟩:=h5.get Z;left;refine⟨y,z,n,rfl,aa,ho z (Qu hz),?_⟩;left;exact⟨_,rfl,rfl⟩
  rintro I H' ⟨Y,rfl,rfl⟩;left;refine A1 h2 rfl ?_;refine .inl ⟨e,rfl,⟨_,SqL.of h6⟩,?_⟩;refine Ji (K:=K) (a:=e) (xs:=ev) (λi I H1=>∃v1,I=[some (.ref a),some (.int (n:Nat)),Y,v1]/\H1=H') ⟨_,rfl,rfl⟩ ?_ ?_ ?_
  ·rintro i I H1 _ ⟨_,_,rfl⟩;exact SqL.of h6
  ·rintro i y I H1 Z ⟨v1,rfl,rfl⟩;obtain⟨z,hz,ay,uy,rfl,O,ty⟩:=h7.get Z;left;refine Fa (b:=true) O rfl ?_;left;refine Ei O ?_;left;refine Ew (Zbh rfl) ?_;left;refine A1 O rfl ?_;left;refine B9 (b:=true) (.str _) rfl ?_;left;refine A1 O rfl ?_;left;refine⟨uy,z.2,n,rfl,ty,ha z (Qu hz),?_⟩;left;exact⟨_,rfl,rfl⟩
  rintro I H1 ⟨v1,rfl,rfl⟩;left;exact q
def RcAt (K:Pi)(H:Hp)(v:V)(o:Er):Prop:=eX5 λ(r rd:Addr)(av:V)(rv:List V)(A:Addr->Prop)=>v=.ref r/\SqT K H r [av,.ref rd,.int o.2.2]/\ThAt K H av o.1/\H rd=some (.lst rv)/\Al (RwAt K A H) rv o.2.1
def Zex (K:Pi):Sp:=λvs H Q _=>eX2 λ(v:V)(o:Er)=>vs=[v]/\RcAt K H v o/\TOk o.2.1.length o.1/\RLt o.2.1/\o.2.1.length<=3000/\Q (.bl true) H
def Zkz:Bc ["_law_found","_law_k"] ["_law_found"] (A7 Ni):=by walk_at "sc"
def Zll (F:Fu K "_law_is_record" Ni f fd)(T:Txt K mg)(kI:A5 P w K mg base 1 "_law_is_thing" ["_law_thing_here","_law_many"] (Zcq K))(cU:A5 P w K mg base 2 "_law_is_row" ["_law_row_here","_law_k"] (Zk2 K)):FnOk P w K mg base As 3 f fd ["_law_found"] (Zex K):=by
 refine F.okq Zkz (λvs H Q E h=>?_) (λaa A outer s H vs Q E Y h=>?_)
 ·obtain⟨v,o,rfl,_⟩:=h;rfl
 ·obtain⟨v,o,rfl,⟨r,rd,av,O,A',rfl,h2,h3,U,h5⟩,ht,hl,ac,q⟩:=h;refine⟨_,Ab (Ay (QW.qt (C9 (C2 (Bx (B4 (Cb K "tuple") T.isinstance (Ag Ad (Cc (v:=.ty "tuple") (by rfl) T.tuple (by right) rfl))))) (C9 (Bt (Ft K Y.u200) (B0 K T.len Ad) Aa) (Dm (C2 (Bx (B4 (Cb K "list") T.isinstance (Ag (Ai K Ad Aa) (Cc (v:=.ty "list") (by rfl) T.list (by right) rfl))))))))) (Ao Cw) A2)
   (Ab (Dk Qj rfl (Gk rfl T.range (Aw (B0 K T.len (Ai K Ad Aa)))) (C7 1 Zkz) (A4 (Ay (C2 (Bx (Az cU Y.m (Ag (Ai K (Ai K Ad Aa) Af) Af)))) (Ao Cw) A2))) (Ab (Ay (QW.qt (C9 (C2 (Bx (B4 (Cb K "int") T.isinstance (Ag (Ai K Ad Aa) (Cc (v:=.ty "int") (by rfl) T.int (by right) rfl))))) (Dm (Bx (B4 (Cb K "bool") T.isinstance (Ag (Ai K Ad Aa) (Cc (v:=.ty "bool") (by rfl) T.bool (by right) rfl))))))) (Ao Cw) A2) (Ao (Az kI Y.m (Ag (Ai K Ad Aa) (B0 K T.len (Ai K Ad Aa))))))),?_⟩
  have el:=h5.1;left;refine Fa (b:=true) h2 rfl ?_;left;refine Ei h2 ?_;left;refine Ew (Zbh rfl) ?_;left;refine A1 h2 rfl ?_;left;refine G8 (b:=true) (SqL.of U) rfl ?_;left;refine A1 h2 rfl ?_;left;refine Cd (SqL.of U) ?_;left;refine⟨by lia,by lia,?_⟩;refine F8 (n:=(O.length:Int).toNat) (λi I H'=>∃Z,I=[some (.ref r),Z]/\H'=H) ⟨_,rfl,rfl⟩ ?_ ?_
  ·rintro i I H' hi ⟨Z,rfl,rfl⟩;have hi:i<O.length:=by lia
   have e0:(0:Int)+(i:Int)=((i:Nat):Int):=by lia
   rw[e0];obtain⟨z,hz,rz⟩:=h5.get (Pk hi);obtain⟨l1,l2⟩:=hl i z hz;left;refine A1 h2 rfl ?_;left;refine Br (SqL.of U) (Cs (Pk hi)) ?_;left;refine⟨O[i],z,i,A',rfl,rz,l1,l2,?_⟩;left;exact⟨_,rfl,rfl⟩
  rintro I H' ⟨Z,rfl,rfl⟩;left;refine A1 h2 rfl ?_;left;refine B9 (b:=true) (.int _) rfl ?_;left;refine A1 h2 rfl ?_;left;refine B9 (b:=false) (.int _) rfl ?_;left;refine A1 h2 rfl ?_;left;refine A1 h2 rfl ?_;left;refine Cd (SqL.of U) ?_;left;refine⟨av,o.1,O.length,rfl,h3,by rw[el];exact ht,?_⟩;exact q
def Zl7 (h1:∀v H',Q v H'->Y v H')(h2:∀c d H',E c d H'->Z c d H')(h:Oc K TL vs H Q E):Oc K TL vs H Y Z:=by
 obtain⟨tv,fv,av,t,tf,p,q0,rd,fl,d,gs,n,rv,rs,xa,oo,a1,a2,a3,a4,a5,a6,a7,a8,a9,aa,I,ah,ag,ad,ae,af,q,qL⟩:=h;exact⟨tv,fv,av,t,tf,p,q0,rd,fl,d,gs,n,rv,rs,xa,oo,a1,a2,a3,a4,a5,a6,a7,a8,a9,aa,I,ah,ag,ad,ae,af,λbc S' e=>⟨(q bc S' e).1,λr' U O ac H' b1 b2 b3 b4 b5 b6 b7=>h1 _ _ ((q bc S' e).2 r' U O ac H' b1 b2 b3 b4 b5 b6 b7)⟩,λe H' s=>h2 _ _ _ (qL e H' s)⟩
def Zb8 (K:Pi)(TL:Addr):Sp:=λvs H Q _=>eX5 λ(a b c d:V)(N:Hp->Prop)=>vs=[a,b,c,d]/\Oc K TL [a,b,c,d] H Q (λc d H'=>c=.ref TL/\d=none/\N H')/\∀H' H2,N H'->Same H' H2->Q .non H2
def sc_law_go_on:Bc ["_law_tree_here","_law_record","_law_place","_law_form_here","_law_found"] pQ (A7 La):=by walk_at "sc"
def Zqt (F:Fu K "_law_go_on" La f fd)(T:Txt K mg)(dE:Ki P w K mg base 8 "go_on" ["tree","record","place","form"] (Oc K TL))(cA:Ov K TL)(kQ:mg "TooLong"=some (.ref TL))(O:Sj K (.ref TL) (.ref TL)=some true):FnOk P w K mg base As 9 f fd pQ (Zb8 K TL):=by
 refine F.okq sc_law_go_on (λvs H Q E h=>?_) (λY A outer s H vs Q E U h=>?_)
 ·obtain⟨a,b,c,d,N,rfl,_⟩:=h;rfl
 ·obtain⟨a,b,c,d,N,rfl,G,q⟩:=h;refine⟨_,Ab (Ak 4 sc_law_go_on Fm)
   (Ab (Zks cA kQ rfl rfl (Zgf (i:=4) sc_law_go_on.nd rfl (Or.inl rfl) (Zfb dE U.m (λ_=>Kr Ad (Bd Af Av A3)))) (λ_ _=>A4 (Ak 4 sc_law_go_on Fm))) (Ao A6)),?_⟩
  left;refine⟨a,rfl,b,rfl,c,rfl,d,rfl,?_⟩;dsimp only[Fk];refine Zl7 (λv H' h=>?_) (λc d H' h=>?_) G
  ·left;exact h
  ·obtain⟨rfl,rfl,n⟩:=h;refine⟨⟨TL,rfl,O⟩,λa1 I=>?_⟩;left;exact q _ _ n (Same.upd I)
end
def F0:Addr->Prop:=λ_=>False
noncomputable def recD (x:Str×V)(rs:List Rx)(n:Int):Dt:=.tup [M9 x,.lst (rs.map rzD),.flat (.int n)]
def RcAt.d (h:RcAt K H v o):IsD K H 6 v (recD o.1 o.2.1 o.2.2):=by
 obtain⟨r,rd,Z,Y,A,rfl,q,I,O,U⟩:=h;refine .tup q rfl λj v d h1 h2=>?_
 match j,h1,h2 with
 |0,h1,h2=>cases h1;cases h2;exact(ThAt.d I).up (by decide)
 |1,h1,h2=>cases h1;cases h2;exact Al.lstD U (SqL.of O) λv x h=>RwAt.d h
 |2,h1,h2=>cases h1;cases h2;exact .flat rfl
def Zh3 (g:Gj o):Fo (recD o.1 o.2.1 o.2.2):=.tup (by show 3<=5000;decide) λd hd=>by
 simp only[Ps,P0,or_false]at hd;rcases hd with rfl|rfl|rfl
 ·exact Zdk _
 ·exact Zbr (by have:=g.n;lia) λx I=>Zwb ⟨(g.z x I).1,by have:=(g.z x I).2.1;lia,by have:=(g.z x I).2.2;lia⟩
 ·exact .flat _
inductive FdX (K:Pi)(H H':Hp)(v:V)(r:Option Er):Prop
 |some (o:Er) (q rd:Addr) (av:V) (rv:List V) (_:r=some o) (_:v=.ref q) (_:SqT K H' q [av,.ref rd,.int o.2.2]) (_:ThAt K H' av o.1) (_:H' rd=some (.lst rv)) (_:Al (RwX K (λb=>b=rd\/H b≠none) H') rv o.2.1) (_:H rd=none)
 |none (_:r=none) (_:v=.non)
def lgR {K:Pi}{TL:Addr}{H:Hp}{Q:VK}{E:XK}{tv fv:V}{t f g:Tr}{p r q:Addr}{pl:List Nat}{av:V}{ws:List V}{o:Er}{e:Option Er}(T:TrAt K H tv t)(hz:t.size+f.size<=1000)(hp:SqT K H p (A9 pl))(hl:pl.length<=1000)(hs:K19.Sub t pl)(hg:B1 t pl=some g)(hw:g.wd="gap")(F:TrAt K H fv f)(n5:o.2.2<=500)(ln:o.2.1.length<=3000)(qr:SqT K H r [av,.ref q,.int o.2.2])(ha:ThAt K H av o.1)(eq:H q=some (.lst ws))(al:Al (RwX K (λb=>b=q) H) ws o.2.1)(G:K8 (Bw (K19.withAt t pl f)) pl o.2.1 o.1 o.2.2 e)(h:∀v H',Same H H'->FdX K H H' v e->Q v H'):Zb8 K TL [tv,.ref r,.ref p,fv] H Q E:=by
 have aa:=Mw (f:=f) hs;obtain⟨oo,GO,g1,g2⟩:=G;have Z:(K19.path t pl)[pl.length]?=some (.mk "gap" (Gg g) g.ps):=by rw[Zeu hs,hg,<- hw,<- Zf1]
 refine⟨tv,.ref r,.ref p,fv,λH'=>Same H H'/\oo=none,rfl,⟨tv,fv,av,t,f,p,r,q,pl,_,_,o.2.2,ws,o.2.1,o.1,oo,rfl,T,by lia,hp,hs,hl,Z,F,by lia,qr,n5,eq,al,by lia,ha,GO,λbc S' I=>?_,λI H' s=>⟨rfl,rfl,s,I⟩⟩,λH' H2 n s=>?_⟩
 ·obtain⟨k1,k2⟩:=g1 bc S' I;exact⟨k1,λr' U O Y H' s b1 b2 b3 b4 b5 b6=>h _ _ s (.some _ r' U O Y k2 rfl b1 b2 b3 b4 b6)⟩
 ·exact h _ _ (n.1.trans s) (.none (g2 n.2) rfl)
section
variable {P:Program}{w:World}{K:Pi}{mg:Str->Option Value}{base:Heap}
def Zk4 (K:Pi):Sp:=λvs H Q _=>eX4 λ(tv:V)(t:Tr)(e:Option Er)(m:Nat)=>vs=[tv]/\TrAt K H tv t/\t.size<=2000/\RunX (Bw t) m ⟨[],[⟨[],[],false⟩],[],0⟩ (e.map λo=>⟨o.2.1,[],[o.1],o.2.2⟩)/\∀v H',Same H H'->FdX K H H' v e->Q v H'
def sc_law_run:Bc ["_law_tree_here","_law_found"] ["_law_tree_here"] (A7 Lx):=by walk_at "sc"
def Zqs (F:Fu K "_law_run" Lx f fd)(T:Txt K mg)(dF:Ki P w K mg base 7 "run" ["tree"] (Zhy K TL))(cA:Ov K TL)(kQ:mg "TooLong"=some (.ref TL))(O:Sj K (.ref TL) (.ref TL)=some true):FnOk P w K mg base As 8 f fd ["_law_tree_here"] (Zk4 K):=by
 refine F.okq sc_law_run (λvs H Q E h=>?_) (λZ A outer s H vs Q E Y h=>?_)
 ·obtain⟨tv,t,e,m,rfl,_⟩:=h;rfl
 ·obtain⟨tv,t,e,m,rfl,ht,hz,R,q⟩:=h;refine⟨_,Ab (Ak 1 sc_law_run Fm)
   (Ab (Zks cA kQ rfl rfl (Zgf (i:=1) sc_law_run.nd rfl (Or.inl rfl) (Zfb dF Y.m (λ_=>Kr Ad Bm))) (λ_ _=>A4 (Ak 1 sc_law_run Fm))) (Ao Af)),?_⟩
  left;refine⟨tv,rfl,?_⟩;dsimp only[Fk];refine⟨tv,t,m,_,rfl,ht,hz,R,λS' hS=>?_,λhn H' s'=>?_⟩
  ·obtain⟨o,U,rfl⟩:=Q0.mp hS;refine⟨o.1,rfl,λr rd av rv H' s1 qr ha er al _ hn=>?_⟩;left;exact q _ _ s1 (.some o r rd av rv U rfl qr ha er al hn)
  ·refine⟨⟨TL,rfl,O⟩,λa1 I=>?_⟩;left;exact q _ _ (s'.trans (Same.upd I)) (.none (Option.map_eq_none_iff.mp hn) rfl)
def GpAt (K:Pi)(AG:Addr->Prop)(B:Nat)(H:Hp)(v:V)(x:List Nat×Tr):Prop:=eX3 λa p b=>v=.ref a/\SqT K H a [.ref p,.ref b]/\H p=some (.tup (A9 x.1))/\BdAt K H b B/\¬AG b
def GpAt.same (s:Same H H')(v:V)(x:List Nat×Tr)(h:GpAt K AG B H v x):GpAt K AG B H' v x:=let ⟨a,p,b,e,q,q',d,n⟩:=h;⟨a,p,b,e,s.tup q,s _ _ q',d.same s,n⟩
noncomputable def Ez (x:List Nat×Tr):Bool:=decide (x.2.wd="gap")
def Ij (K:Pi)(n:Nat):Sp:=λvs H Q _=>∃(v:V)(t:Tr)(p b:Addr)(pl:List Nat)(m B:Nat)(AG:Addr->Prop),vs=[v,.ref p,.ref b]/\TrAt K H v t/\Tf t/\H p=some (.tup (A9 pl))/\BdAt K H b m/\t.size<=n/\pl.length+t.size<=1000/\m+2*t.size<=B/\B<=420/\(∀z,AG z->H z≠none)/\¬AG b/\∀(r:Addr)(ws:List V)(H':Hp),Same H H'->H' r=some (.lst ws)->Al (GpAt K AG B H') ws ((walk pl t).filter Ez)->Q (.ref r) H'
def Ih:Bc ["_law_form_here","_law_place","_law_bound","_law_word","_law_note","_law_parts","_law_found","_law_k","_law_more"] pE (A7 Jq):=by walk_at "sc"
def Zw7 (F:Fu K "_law_gaps" Jq f fd)(T:Txt K mg)(kL:A5 P w K mg base (n+1) "_law_gaps" ["_law_form_here","_law_place","_law_bound"] (Ij K n)):FnOk P w K mg base As (n+2) f fd pE (Ij K (n+1)):=by
 refine F.okq Ih (λvs H Q E h=>?_) (λbh A outer s H vs Q E hr h=>?_)
 ·obtain⟨v,t,p,b,pl,m,B,AG,rfl,_⟩:=h;rfl
 ·obtain⟨v,t,p,bb,pl,m,B,AG,rfl,ht,tf,hp,an,hz,hd,hm,hB,ak,be,q⟩:=h;refine⟨_,Ab (Et Ad (Lj K Ih 3 4 5))
   (Ab (Ak 6 Ih (Bp Bm)) (Ab (Ay (Bk K hr A3 Am) (A4 (B2 (Cn K Pw Qf Qg Cy (qv 6) (Aw (Aj (Ag Af Av)))))) A2) (Ab (Dk Qj rfl (Gk rfl T.range (Aw (B0 K T.len (qv 5)))) (C7 7 Ih) (Ab (Ak 8 Ih (Bp Bm)) (Ab (Ay (QW.qt (C9 (Bk K hr A3 Am) (Dm (QW.qt (D3 (Bk K hr A3 Am) (D7 (Bk K hr (qv 7) Aa))))))) (A4 (Ak 8 Ih (Bp (Aw (Aj (Ag A6 Am)))))) A2) (Ab (Ay (Bk K hr A3 Am) (A4 (Ak 8 Ih (Bp (Ag (Aj (Ag (Ai K A6 Aa) Am)) (Aj (Ag (Ai K A6 Aa) Am)))))) A2) (A4 (Ak 6 Ih (Ae (B5 K) (qv 6) (Az kL (hr.mono (by lia)) (Bd (Ai K (qv 5) (qv 7)) (Ae (K4 K) Af (Aj (Aw (qv 7)))) (Ae (B5 K) Av (qv 8))))))))))) (Ao (qv 6))))),?_⟩
  have bg:=big;have bi:=ht;cases ht with
  | @mk b pp wd Z nt us ts qb hn qp l ay =>
  cases tf with
  |mk a0 a3 =>
  have ah:=a0.b;rw[Tr.size]at hz hd hm;have flat:∀z,nt=.flat (.str z)->Z=.str z:=by
   intro z e;rcases hn with⟨_,h⟩|⟨_,_,_,_,_,h⟩
   ·rw[e]at h;injection h with h;exact h.symm
   ·rw[e]at h;cases h
  left;refine Dv qb rfl ?_;left;refine⟨Bj,λa1 h1=>?_⟩;obtain⟨H1,s1,e1,z9⟩:=Df h1 (.lst []);rw[z9];refine s_gname ?_;with_reducible refine s_seq ?_
  refine Cu (t:=Cm _ _ _) (R:=λI H'=>∃ws,I=[some (.ref b),some (.ref p),some (.ref bb),some (.str wd),some Z,some (.ref pp),some (.ref a1),none,none]/\Same H H'/\H' a1=some (.lst ws)/\Al (GpAt K AG B H') ws ([(pl,Tr.mk wd nt ts)].filter Ez)) ?_ ?_;rotate_left
  ·intro Y hY;left;rw[Bu];by_cases hg:wd="gap"
   ·rw[dH hg];left;refine B7 (SqL.of e1) ?_;left;refine⟨Bl,λa2 h2=>?_⟩;have s2:=Same.upd (o:=.tup [.ref p,.ref bb]) h2;have e2:=s2 _ _ e1;left;refine Cz e2 (by show 0<sizeLine;decide) ?_;have as:=(s1.trans s2);have ag:=as.over (o:=.lst [.ref a2]) h1;have av:a2≠a1:=λz=>by rw[z,e1]at h2;cases h2
    refine hY _ _ ⟨[.ref a2],rfl,ag,Ac,?_⟩;rw[Up,if_pos (show Ez (pl,Tr.mk wd nt ts)=true from dH hg)];refine Al.nil.snoc ⟨a2,p,bb,rfl,SqT.of ((Ah av).trans Ac),ag _ _ hp,?_,be⟩;obtain⟨bs,zs,c1,c2,c3⟩:=an.same ag;exact⟨bs,zs,c1,c2,by lia⟩
   ·rw[dI hg];left;refine hY _ _ ⟨[],rfl,s1,e1,?_⟩;rw[Up,if_neg (show ¬Ez (pl,Tr.mk wd nt ts)=true from λz=>hg (dJ z))];exact .nil
  ·rintro _ H2 ⟨ap,rfl,s2,e2,ax⟩;left;refine Ei (s2.tup qp) ?_;left;have bj:us.length<=1000:=by
    have:ts.length<=Bv ts:=Zan ts;lia
   refine⟨by lia,by lia,?_⟩;refine F8 (n:=(us.length:Int).toNat) (λj I H'=>eX4 λv7 v8 r ws=>I=[some (.ref b),some (.ref p),some (.ref bb),some (.str wd),some Z,some (.ref pp),some (.ref r),v7,v8]/\H' r=some (.lst ws)/\Al (GpAt K AG B H') ws (((pl,Tr.mk wd nt ts)::Bo pl 0 (ts.take j)).filter Ez)/\Same H H') ⟨none,none,a1,ap,rfl,e2,by rw[List.take_zero,Bo];exact ax,s2⟩ ?_ ?_
   ·rintro j I H3 hj ⟨v7,v8,r,ws,rfl,e3,al,s3⟩;have hj:j<us.length:=by lia
    have e0:(0:Int)+(j:Int)=((j:Nat):Int):=by lia
    rw[e0];have ba:j<ts.length:=by lia
    have hu:=Pk hj;have ad:=Pk ba;have bf:=Li ad;left;refine⟨Bj,λa4 h4=>?_⟩;obtain⟨H4,s4,e4,z9⟩:=Df h4 (.lst []);rw[z9];refine s_gname ?_;with_reducible refine s_seq ?_
    refine Cu (t:=Cm _ _ _) (R:=λI H'=>∃am,I=[some (.ref b),some (.ref p),some (.ref bb),some (.str wd),some Z,some (.ref pp),some (.ref r),some (.int ((j:Nat):Int)),some (.ref am)]/\Same H3 H'/\BdAt K H' am 2) ?_ ?_;rotate_left
    ·intro Y hY;have none:Y [some (.ref b),some (.ref p),some (.ref bb),some (.str wd),some Z,some (.ref pp),some (.ref r),some (.int ((j:Nat):Int)),some (.ref a4)] H4:=hY _ _ ⟨a4,rfl,s4,[],[],e4,.nil,by decide⟩;have one:∀z,Z=.str z->∀O,H4 O=.none->∀U,upd H4 O (.tup [Z,.str "num"]) U=.none->Y [some (.ref b),some (.ref p),some (.ref bb),some (.str wd),some Z,some (.ref pp),some (.ref r),some (.int ((j:Nat):Int)),some (.ref U)] (upd (upd H4 O (.tup [Z,.str "num"])) U (.lst [.ref O])):=λz hz O h5 U h6=>by
      have s5:=Same.upd (o:=.tup [Z,.str "num"]) h5;have s6:=Same.upd (o:=.lst [.ref O]) h6;have e5:SqT K (upd (upd H4 O (.tup [Z,.str "num"])) U (.lst [.ref O])) O [.str z,.str "num"]:=by rw[<- hz];exact SqT.of (s6 _ _ Ac)
      exact hY _ _ ⟨U,rfl,s4.trans (s5.trans s6),[.ref O],[(z,"num")],Ac,Al.nil.snoc ⟨O,rfl,e5⟩,by show 1<=2;decide⟩
     left;rw[Bu];by_cases hf:wd="fn"
     ·obtain⟨z,e⟩:=ah.1 (.inl hf);rw[dH hf];left;refine⟨Bl,λO h5=>?_⟩;left;refine⟨Dl,λU h6=>?_⟩;exact one z (flat z e) O h5 U h6
     ·rw[dI hf];left;rw[Bu];by_cases hl:wd="let"
      ·obtain⟨z,e⟩:=ah.1 (.inr hl);rw[dH hl];left;refine Bf (λ_=>?_) (λ_=>?_)
       ·left;refine⟨Bl,λO h5=>?_⟩;left;refine⟨Dl,λU h6=>?_⟩;exact one z (flat z e) O h5 U h6
       ·exact none
      ·rw[dI hl];left;exact none
    ·rintro _ H5 ⟨am,rfl,s5,au⟩;with_reducible refine s_seq ?_
     refine Cu (t:=Cm _ _ _) (R:=λI H'=>∃am,I=[some (.ref b),some (.ref p),some (.ref bb),some (.str wd),some Z,some (.ref pp),some (.ref r),some (.int ((j:Nat):Int)),some (.ref am)]/\Same H3 H'/\BdAt K H' am 2) ?_ ?_;rotate_left
     ·intro Y hY;left;rw[Bu];by_cases hc:wd="rec"
      ·obtain⟨y,z,e⟩:=ah.2 hc;obtain⟨a,ea,qa⟩:∃a,Z=.ref a/\SqT K H a [.str y,.str z]:=by
        rcases hn with⟨_,h⟩|⟨a,us,e',qa,_,h⟩
        ·rw[e]at h;cases h
        ·refine⟨a,e',?_⟩;rw[e]at h;injection h with h;obtain⟨u1,u2,rfl⟩:=lz2 (vs:=us) (by first|exact h|(have:=congrArg Sl h;rw[Pq]at this;exact this.symm));simp only[Qr,Uy,Vz,Dt.flat.injEq,and_true]at h;rw[h.1,h.2];exact qa
       subst ea;rw[dH hc];have aj:=s3.trans s5;left;refine A1 (aj.tup qa) rfl ?_;left;refine⟨Bl,λU h6=>?_⟩;have s6:=Same.upd (o:=.tup [.str y,.str "fun"]) h6;left;refine A1 ((aj.trans s6).tup qa) rfl ?_;left;refine⟨Bl,λa7 h7=>?_⟩;have s7:=Same.upd (o:=.tup [.str z,.str "num"]) h7;left;refine⟨Bl,λa8 h8=>?_⟩;have s8:=Same.upd (o:=.lst [.ref U,.ref a7]) h8;refine hY _ _ ⟨a8,rfl,s5.trans (s6.trans (s7.trans s8)),[.ref U,.ref a7],[(y,"fun"),(z,"num")],Ac,(Al.nil.snoc ⟨U,rfl,SqT.of ((s7.trans s8) _ _ Ac)⟩).snoc ⟨a7,rfl,SqT.of (s8 _ _ Ac)⟩,by show 2<=2;decide⟩
      ·rw[dI hc];left;exact hY _ _ ⟨am,rfl,s5,au⟩
     ·rintro _ H6 ⟨am,rfl,s6,mv,mz,em,aw,lm⟩;have aa:=s3.trans s6;obtain⟨bs,zs,c1,c2,c3⟩:=an.same aa;left;refine A1 (aa.tup qp) (Cs hu) ?_;left;refine⟨Dl,λa7 h7=>?_⟩;have s7:=Same.upd (o:=.tup [.int ((j:Nat):Int)]) h7;refine .inr ⟨p,a7,_,_,rfl,rfl,(aa.trans s7) _ _ hp,Ac,by rw[O3];simp;lia,λr8 H8 s8 q8=>?_⟩;have ac:=s7.trans s8;have q8:H8 r8=some (.tup (A9 (pl++[j]))):=by
       have e:A9 pl++[V.int ((j:Nat):Int)]=A9 (pl++[j]):=by unfold A9;rw[Ql];rfl
       rw[<- e];exact q8
      left;refine Ig (ac _ _ c1) (ac _ _ em) (by lia) λa9 h9=>?_;have s9:=Same.upd (o:=.lst (bs++mv)) h9;have ae:=ac.trans s9;have ao:=aa.trans ae;left;refine⟨us[j],ts[j],r8,a9,pl++[j],m+2,B,AG,rfl,(ay j _ _ hu ad).same ao,a3 _ (Qu ad),s9 _ _ q8,⟨bs++mv,zs++mz,Ac,(c2.mono (PrW.same ae.t)).append (aw.mono (PrW.same ae.t)),by rw[Pn];lia⟩,by lia,by rw[Pn,Pz];lia,by lia,hB,(λz hz hn=>ak z hz (ao.free hn)),(λz=>ak a9 z ((aa.trans ac).free h9)),λrr ww HR sR eR ai=>?_⟩;have af:=s6.trans (ae.trans sR);have l1:ws.length<=1001:=by
       rw[al.1];refine P9 (Th _ _) ?_;rw[Qc,Zbf];have:=Zhg ts j;lia
      have l2:ww.length<=1001:=by
       rw[ai.1];refine P9 (Th _ _) ?_;rw[J1];lia
      refine Ig (af _ _ e3) eR (by lia) λaF hF=>?_;have sF:=Same.upd (o:=.lst (ws++ww)) hF;left;refine⟨_,_,aF,ws++ww,rfl,Ac,?_,s3.trans (af.trans sF)⟩;have aq:=(al.mono (GpAt.same (af.trans sF))).append (ai.mono (GpAt.same sF));rw[Zhm ad,Zct,Tc,Qq,Vy (by lia),<- Sx,Wv];exact aq
   ·rintro I H3 ⟨v7,v8,r,ws,rfl,e3,al,s3⟩;left;refine q r ws H3 s3 e3 ?_;rw[walk];rw[Rv (by lia)]at al;exact al
def Zjj (K:Pi):Sp:=λvs H Q _=>eX2 λ(a:Int)(k:Nat)=>vs=[.int a,.int (k:Nat)]/\∀v H' x,Same H H'->ThAt K H' v x->TOk k x->Q v H'
def Zk0 (hk:(0:Int)<(k:Nat))(a:Int):TOk k (("row":Str),V.int (a % (k:Nat))):=by
 have I:=Qe a (show((k:Nat):Int)≠0 by lia);have b1:=Qi a hk;exact .inr (.inr ⟨rfl,(a % (k:Nat)).toNat,by rw[Wr I],by lia⟩)
def Zp7:Bc pM pM (A7 K7):=by walk_at "sc"
def Zq3 (F:Fu K "_law_thing" K7 f fd)(T:Txt K mg):FnOk P w K mg base As 1 f fd pM (Zjj K):=by
 refine F.okq Zp7 (λvs H Q E h=>?_) (λaa A outer s H vs Q E U h=>?_)
 ·obtain⟨a,k,rfl,_⟩:=h;rfl
 ·obtain⟨a,k,rfl,q⟩:=h;refine⟨_,Ab (Ay (QW.qt (D3 (Bt Gz Af Aa) (D7 (Bt (Ft K U.u200) (Ae Be Ad Aa) Aa)))) (Ao (Aj (Ag Am (Ae Be (Ae Cf Ad Aa) Af)))) A2)
   (Ab (Ay (Bt Ej (Ae Be (Ae Cf Ad Aa) Aa) Aa) (Ao (Aj (Ag Am (Fb K U (Ae Be (Ae Cf Ad Aa) Aa) Aa)))) A2) (Ao (Aj (Ag Am (Ae Du (Ae Be (Ae Cf Ad Aa) Aa) Aa))))),?_⟩
  with_reducible refine s_seq ?_
  refine Cu (t:=Cm _ _ _) (R:=λO H'=>O=[some (.int a),some (.int (k:Nat))]/\H'=H) ?_ (λY Z=>?_);rotate_left
  ·left;refine Bf (λI=>?_) (λI=>?_)
   ·have I:(0:Int)<(k:Nat):=dJ I;left;refine Bf (λ_=>?_) (λ_=>?_)
    ·left;refine s_rI I ?_;left;refine⟨Bl,λp hp=>?_⟩;exact q _ _ ("row",.int (a / 15 % (k:Nat))) (Same.upd hp) ⟨rfl,p,rfl,SqT.of Ac⟩ (Zk0 I _)
    ·left;exact Z _ _ ⟨rfl,rfl⟩
   ·left;exact Z _ _ ⟨rfl,rfl⟩
  rintro _ _ ⟨rfl,rfl⟩;left;refine Bf (λ_=>?_) (λ_=>?_)
  ·left;refine⟨Bl,λp hp=>?_⟩;exact q _ _ ("truth",_) (Same.upd hp) ⟨rfl,p,rfl,SqT.of Ac⟩ (.inr (.inl ⟨rfl,_,rfl⟩))
  left;refine⟨Bl,λp hp=>?_⟩;exact q _ _ ("num",_) (Same.upd hp) ⟨rfl,p,rfl,SqT.of Ac⟩ (.inl ⟨rfl,_,rfl⟩)
def Zcg (K:Pi):Sp:=λvs H Q _=>eX2 λ(a:Int)(k:Nat)=>vs=[.int a,.int (k:Nat)]/\k<=5000/\∀(r:Addr)(v:V)(z:Int) x H',Same H H'->SqT K H' r [v,.int z]->ThAt K H' v x->TOk k x->Q (.ref r) H'
def Zdy:Bc ["_law_rest","_law_k","_law_sort"] qG (A7 L7):=by walk_at "sc"
def Zmm (F:Fu K "_law_digit" L7 f fd)(T:Txt K mg):FnOk P w K mg base As 1 f fd qG (Zcg K):=by
 refine F.okq Zdy (λvs H Q E h=>?_) (λaa A outer s H vs Q E Z h=>?_)
 ·obtain⟨a,k,rfl,_⟩:=h;rfl
 ·obtain⟨a,k,rfl,k5,q⟩:=h;refine⟨_,Ab (Ak 2 Zdy (Ae Be Ad Aa))
   (Ab (Ak 0 Zdy (Ae Cf Ad Aa)) (Ab (Ay (QW.qt (D3 (Bk K Z Av Aa) (D7 (Bt Gz Af Aa)))) (Ao (Aj (Ag (Aj (Ag Am (Ae Be Ad Af))) (Ae Cf Ad Af)))) A2) (Ab (Ay (Bt Ej Av Aa) (Ao (Aj (Ag (Aj (Ag Am (Fb K Z (Ae Be Ad Aa) Aa))) (Ae Cf Ad Aa)))) A2) (Ao (Aj (Ag (Aj (Ag Am (Ae Du (Ae Be Ad (Ae E6 Aa (Ae Kv Aa Aa))) (Ae Kv Aa Aa)))) (Ae Zma Ad (Ae E6 Aa (Ae Kv Aa Aa))))))))),?_⟩
  have go:∀{x:Str×V}{z:Int}(p:Addr),Db x.2=true->H p=none->TOk k x->∀p2,upd H p (.tup [.str x.1,x.2]) p2=none->Q (.ref p2) (upd (upd H p (.tup [.str x.1,x.2])) p2 (.tup [.ref p,.int z])):=λ{x z} p hf hp t p2 I=>by
   have s2:=Same.upd (o:=.tup [.ref p,.int z]) I;exact q p2 (.ref p) z x _ ((Same.upd hp).trans s2) (SqT.of Ac) ⟨hf,p,rfl,SqT.of (s2 _ _ Ac)⟩ t
  iterate 15 walk_at "r1"
  refine Cu (t:=Cm _ _ _) (R:=λU H'=>U=[some (.int (a / 3)),some (.int (k:Nat)),some (.int (a % 3))]/\H'=H) ?_ (λY hY=>?_);rotate_left
  ·left;refine Bf (λ_=>?_) (λ_=>?_)
   ·left;refine Bf (λO=>?_) (λO=>?_)
    ·have O:(0:Int)<(k:Nat):=dJ O;left;refine s_rI O ?_;left;refine⟨Bl,λp hp=>?_⟩;left;refine s_rI ⟨by lia,by lia⟩ ?_;left;refine⟨Bl,λp2 I=>?_⟩;exact go (x:=("row",.int (a / 3 % (k:Nat)))) p rfl hp (Zk0 O _) p2 I
    ·left;exact hY _ _ ⟨rfl,rfl⟩
   ·left;exact hY _ _ ⟨rfl,rfl⟩
  rintro _ _ ⟨rfl,rfl⟩;left;refine Bf (λ_=>?_) (λ_=>?_)
  ·left;refine⟨Bl,λp hp=>?_⟩;left;refine⟨Bl,λp2 I=>?_⟩;exact go (x:=("truth",.bl (decide (V.int (a / 3 % 2)=.int 1)))) p rfl hp (.inr (.inl ⟨rfl,_,rfl⟩)) p2 I
  left;refine⟨Bl,λp hp=>?_⟩;left;refine⟨Bl,λp2 I=>?_⟩;exact go (x:=("num",.int (a / 3 % (2*10 ^ Int.toNat 30)-10 ^ Int.toNat 30))) p rfl hp (.inl ⟨rfl,_,rfl⟩) p2 I
inductive SpAt (K:Pi)(H:Hp)(v:V)(x:List Nat×Tr):Prop
 |mk (a p b:Addr) (ns:List Str) (_:v=.ref a) (_:SqT K H a [.str x.2.wd,.ref p,.ref b]) (_:H p=some (.tup (A9 x.1))) (_:H b=some (.lst (ns.map V.str))) (_:ns.length<=150)
def SpAt.same (s:Same H H')(v:V)(x:List Nat×Tr)(h:SpAt K H v x):SpAt K H' v x:=by
 obtain⟨a,p,b,ns,e,q,I,d,n⟩:=h;exact⟨a,p,b,ns,e,s.tup q,s _ _ I,s _ _ d,n⟩
noncomputable def Eh (us:List Str)(x:List Nat×Tr):Bool:=!decide (x.2.wd∈us)
def Ja (K:Pi)(n:Nat):Sp:=λvs H Q _=>∃(v:V)(t:Tr)(p b c:Addr)(pl:List Nat)(ns us:List Str),vs=[v,.ref p,.ref b,.ref c]/\TrAt K H v t/\Tf t/\H p=some (.tup (A9 pl))/\H b=some (.lst (ns.map V.str))/\SqT K H c (us.map V.str)/\us.length<=4/\t.size<=n/\pl.length+t.size<=1000/\ns.length+2*t.size<=150/\∀(r:Addr)(ws:List V)(H':Hp),Same H H'->H' r=some (.lst ws)->Al (SpAt K H') ws ((walk pl t).filter (Eh us))->Q (.ref r) H'
def Ie:Bc ["_law_form_here","_law_place","_law_bound","_law_none","_law_word","_law_note","_law_parts","_law_found","_law_k","_law_more"] pC (A7 Ik):=by walk_at "sc"
def Zqr (F:Fu K "_law_spots" Ik f fd)(T:Txt K mg)(kJ:A5 P w K mg base (n+1) "_law_spots" ["_law_form_here","_law_place","_law_bound","_law_none"] (Ja K n)):FnOk P w K mg base As (n+2) f fd pC (Ja K (n+1)):=by
 refine F.okq Ie (λvs H Q E h=>?_) (λbe A outer s H vs Q E hr h=>?_)
 ·obtain⟨v,t,p,b,c,pl,ns,xn,rfl,_⟩:=h;rfl
 ·obtain⟨v,t,p,bb,cn,pl,nz,xn,rfl,ht,tf,hp,ai,an,a5,hz,hd,hm,q⟩:=h;refine⟨_,Ab (Et Ad (Lj K Ie 4 5 6))
   (Ab (Ak 7 Ie (Bp Bm)) (Ab (Ay (Bt (Zsr K) A6 A3) (A4 (B2 (Cn K Pw Qf Qg Cy (qv 7) (Aw (Aj (Bd A6 Af Av)))))) A2) (Ab (Dk Qj rfl (Gk rfl T.range (Aw (B0 K T.len (qv 6)))) (C7 8 Ie) (Ab (Ak 9 Ie (Bp Bm)) (Ab (Ay (QW.qt (C9 (Bk K hr A6 Am) (Dm (QW.qt (D3 (Bk K hr A6 Am) (D7 (Bk K hr (qv 8) Aa))))))) (A4 (Ak 9 Ie (Bp (Aw (qv 5))))) A2) (Ab (Ay (Bk K hr A6 Am) (A4 (Ak 9 Ie (Bp (Ag (Ai K (qv 5) Aa) (Ai K (qv 5) Aa))))) A2) (A4 (Ak 7 Ie (Ae (B5 K) (qv 7) (Az kJ (hr.mono (by lia)) (Dj (Ai K (qv 6) (qv 8)) (Ae (K4 K) Af (Aj (Aw (qv 8)))) (Ae (B5 K) Av (qv 9)) A3))))))))) (Ao (qv 7))))),?_⟩
  have bg:=big;have bf:=ht;cases ht with
  | @mk b pp wd U nt us ts qb hn qp l aw =>
  cases tf with
  |mk ax ay =>
  have af:=ax.b;rw[Tr.size]at hz hd hm;have flat:∀z,nt=.flat (.str z)->U=.str z:=by
   intro z e;rcases hn with⟨_,h⟩|⟨_,_,_,_,_,h⟩
   ·rw[e]at h;injection h with h;exact h.symm
   ·rw[e]at h;cases h
  left;refine Dv qb rfl ?_;left;refine⟨Bj,λa1 h1=>?_⟩;obtain⟨H1,s1,e1,z9⟩:=Df h1 (.lst []);rw[z9];refine s_gname ?_;with_reducible refine s_seq ?_
  refine Cu (t:=Cm _ _ _) (R:=λI H'=>∃O,I=[some (.ref b),some (.ref p),some (.ref bb),some (.ref cn),some (.str wd),some U,some (.ref pp),some (.ref a1),none,none]/\Same H H'/\H' a1=some (.lst O)/\Al (SpAt K H') O ([(pl,Tr.mk wd nt ts)].filter (Eh xn))) ?_ ?_;rotate_left
  ·intro Y hY;left;refine Fn (.inr (s1.tup an)) rfl Zi5 ?_;rw[if_pos rfl,Il];have hI:Eh xn (pl,Tr.mk wd nt ts)=!decide (wd∈xn):=rfl;refine⟨_,rfl,?_⟩;cases hg:decide (wd∈xn) with
   |false =>
    rw[hg]at hI;rw[if_pos (by rfl)];left;refine B7 (SqL.of e1) ?_;left;refine⟨Bs,λa2 h2=>?_⟩;have s2:=Same.upd (o:=.tup [.str wd,.ref p,.ref bb]) h2;have e2:=s2 _ _ e1;left;refine Cz e2 (by show 0<sizeLine;decide) ?_;have ae:=(s1.trans s2).over (o:=.lst [.ref a2]) h1;have au:a2≠a1:=λz=>by rw[z,e1]at h2;cases h2
    refine hY _ _ ⟨[.ref a2],rfl,ae,Ac,?_⟩;rw[Up,if_pos (show Eh xn (pl,Tr.mk wd nt ts)=true from hI)];exact Al.nil.snoc ⟨a2,p,bb,nz,rfl,SqT.of ((Ah au).trans Ac),ae _ _ hp,ae _ _ ai,by lia⟩
   |true =>
    rw[hg]at hI;rw[if_neg (by decide)];left;refine hY _ _ ⟨[],rfl,s1,e1,?_⟩;rw[Up,if_neg (by rw[hI];decide)];exact .nil
  ·rintro _ H2 ⟨ao,rfl,s2,e2,av⟩;left;refine Ei (s2.tup qp) ?_;left;have bh:us.length<=1000:=by
    have:ts.length<=Bv ts:=Zan ts;lia
   refine⟨by lia,by lia,?_⟩;refine F8 (n:=(us.length:Int).toNat) (λj I H'=>eX4 λv7 v8 r O=>I=[some (.ref b),some (.ref p),some (.ref bb),some (.ref cn),some (.str wd),some U,some (.ref pp),some (.ref r),v7,v8]/\H' r=some (.lst O)/\Al (SpAt K H') O (((pl,Tr.mk wd nt ts)::Bo pl 0 (ts.take j)).filter (Eh xn))/\Same H H') ⟨none,none,a1,ao,rfl,e2,by rw[List.take_zero,Bo];exact av,s2⟩ ?_ ?_
   ·rintro j I H3 hj ⟨v7,v8,r,O,rfl,e3,al,s3⟩;have hj:j<us.length:=by lia
    have e0:(0:Int)+(j:Int)=((j:Nat):Int):=by lia
    rw[e0];have a0:j<ts.length:=by lia
    have hu:=Pk hj;have aa:=Pk a0;have ba:=Li aa;left;refine⟨Bj,λa4 h4=>?_⟩;obtain⟨H4,s4,e4,z9⟩:=Df h4 (.lst []);rw[z9];refine s_gname ?_;with_reducible refine s_seq ?_
    refine Cu (t:=Cm _ _ _) (R:=λI H'=>∃am,I=[some (.ref b),some (.ref p),some (.ref bb),some (.ref cn),some (.str wd),some U,some (.ref pp),some (.ref r),some (.int ((j:Nat):Int)),some (.ref am)]/\Same H3 H'/\∃ms:List Str,H' am=some (.lst (ms.map V.str))/\ms.length<=2) ?_ ?_;rotate_left
    ·intro Y hY;have none:Y [some (.ref b),some (.ref p),some (.ref bb),some (.ref cn),some (.str wd),some U,some (.ref pp),some (.ref r),some (.int ((j:Nat):Int)),some (.ref a4)] H4:=hY _ _ ⟨a4,rfl,s4,[],e4,by decide⟩;have one:∀z,U=.str z->∀a6,H4 a6=.none->Y [some (.ref b),some (.ref p),some (.ref bb),some (.ref cn),some (.str wd),some U,some (.ref pp),some (.ref r),some (.int ((j:Nat):Int)),some (.ref a6)] (upd H4 a6 (.lst [U])):=λz hz a6 h6=>hY _ _ ⟨a6,rfl,s4.trans (Same.upd h6),[z],by rw[hz];exact Ac,by show 1<=2;decide⟩;left;rw[Bu];by_cases hf:wd="fn"
     ·obtain⟨z,e⟩:=af.1 (.inl hf);rw[dH hf];left;refine⟨Dl,λa6 h6=>?_⟩;exact one z (flat z e) a6 h6
     ·rw[dI hf];left;rw[Bu];by_cases hl:wd="let"
      ·obtain⟨z,e⟩:=af.1 (.inr hl);rw[dH hl];left;refine Bf (λ_=>?_) (λ_=>?_)
       ·left;refine⟨Dl,λa6 h6=>?_⟩;exact one z (flat z e) a6 h6
       ·exact none
      ·rw[dI hl];left;exact none
    ·rintro _ H5 ⟨am,rfl,s5,a3,as,aq⟩;with_reducible refine s_seq ?_
     refine Cu (t:=Cm _ _ _) (R:=λI H'=>∃am,I=[some (.ref b),some (.ref p),some (.ref bb),some (.ref cn),some (.str wd),some U,some (.ref pp),some (.ref r),some (.int ((j:Nat):Int)),some (.ref am)]/\Same H3 H'/\∃ms:List Str,H' am=some (.lst (ms.map V.str))/\ms.length<=2) ?_ ?_;rotate_left
     ·intro Y hY;left;rw[Bu];by_cases hc:wd="rec"
      ·obtain⟨y,z,e⟩:=af.2 hc;obtain⟨a,ea,qa⟩:∃a,U=.ref a/\SqT K H a [.str y,.str z]:=by
        rcases hn with⟨_,h⟩|⟨a,us,e',qa,_,h⟩
        ·rw[e]at h;cases h
        ·refine⟨a,e',?_⟩;rw[e]at h;injection h with h;obtain⟨u1,u2,rfl⟩:=lz2 (vs:=us) (by first|exact h|(have:=congrArg Sl h;rw[Pq]at this;exact this.symm));simp only[Qr,Uy,Vz,Dt.flat.injEq,and_true]at h;rw[h.1,h.2];exact qa
       subst ea;rw[dH hc];have ah:=s3.trans s5;left;refine A1 (ah.tup qa) rfl ?_;left;refine A1 (ah.tup qa) rfl ?_;left;refine⟨Bl,λa8 h8=>?_⟩;exact hY _ _ ⟨a8,rfl,s5.trans (Same.upd h8),[y,z],Ac,by show 2<=2;decide⟩
      ·rw[dI hc];left;exact hY _ _ ⟨am,rfl,s5,a3,as,aq⟩
     ·rintro _ H6 ⟨am,rfl,s6,mv,em,lm⟩;have Z:=s3.trans s6;have c1:=Z _ _ ai;left;refine A1 (Z.tup qp) (Cs hu) ?_;left;refine⟨Dl,λa7 h7=>?_⟩;have s7:=Same.upd (o:=.tup [.int ((j:Nat):Int)]) h7;refine .inr ⟨p,a7,_,_,rfl,rfl,(Z.trans s7) _ _ hp,Ac,by rw[O3];simp;lia,λr8 H8 s8 q8=>?_⟩;have ad:=s7.trans s8;have q8:H8 r8=some (.tup (A9 (pl++[j]))):=by
       have e:A9 pl++[V.int ((j:Nat):Int)]=A9 (pl++[j]):=by unfold A9;rw[Ql];rfl
       rw[<- e];exact q8
      left;refine Ig (ad _ _ c1) (ad _ _ em) (by rw[Pq,Pq];lia) λa9 h9=>?_;have s9:=Same.upd (o:=.lst (nz.map V.str++mv.map V.str)) h9;have ak:=ad.trans s9;have aj:=Z.trans ak;left;refine⟨us[j],ts[j],r8,a9,cn,pl++[j],nz++mv,xn,rfl,(aw j _ _ hu aa).same aj,ay _ (Qu aa),s9 _ _ q8,by rw[Ql];exact Ac,aj.tup an,a5,by lia,by rw[Pn,Pz];lia,by rw[Pn];lia,λrr ww HR sR eR ag=>?_⟩;have ac:=s6.trans (ak.trans sR);have l1:O.length<=1001:=by
       rw[al.1];refine P9 (Th _ _) ?_;rw[Qc,Zbf];have:=Zhg ts j;lia
      have l2:ww.length<=1001:=by
       rw[ag.1];refine P9 (Th _ _) ?_;rw[J1];lia
      refine Ig (ac _ _ e3) eR (by lia) λaF hF=>?_;have sF:=Same.upd (o:=.lst (O++ww)) hF;left;refine⟨_,_,aF,O++ww,rfl,Ac,?_,s3.trans (ac.trans sF)⟩;have ap:=(al.mono (SpAt.same (ac.trans sF))).append (ag.mono (SpAt.same sF));rw[Zhm aa,Zct,Tc,Qq,Vy (by lia),<- Sx,Wv];exact ap
   ·rintro I H3 ⟨v7,v8,r,O,rfl,e3,al,s3⟩;left;refine q r O H3 s3 e3 ?_;rw[walk];rw[Rv (by lia)]at al;exact al
noncomputable def E4 (wd:Str):Nat:=if wd∈TWO then 2 else if wd="if" then 1 else 0
structure Nk (k:Nat)(s:List Nat×Tr)(x:Rx):Prop where
 w:x.wd=s.2.wd
 p:x.pl=Ap s.1
 o:∀y∈x.ops,TOk k y
 n:x.ops.length=E4 x.wd
 a:AOk k x.ar
 l:x.ar.length<=150
def Zaw (K:Pi):Sp:=λvs H Q _=>eX5 λ(sp:Addr)(c:Int)(k:Nat)(ws:List V)(ss:List (List Nat×Tr))=>vs=[.ref sp,.int c,.int (k:Nat)]/\k<=5000/\H sp=some (.lst ws)/\Al (SpAt K H) ws ss/\0<ws.length/\ws.length<=5000/\∀(v:V)(x:Rx)(s:List Nat×Tr)(H':Hp),Same H H'->RwX K (λb=>H b≠none) H' v x->s∈ss->Nk k s x->Q v H'
def Zh5 (wd:Str):(2*(if Ff (V.str wd) [V.str "plus",.str "minus",.str "less",.str "call"]=true then (1:Int) else 0))+(if decide (V.str wd=.str "if")=true then (1:Int) else 0)=((E4 wd:Nat):Int):=by
 rw[show[V.str "plus",.str "minus",.str "less",.str "call"]=TWO.map V.str from rfl,Il,Bu];unfold E4;by_cases h:wd∈TWO
 ·have:¬wd="if":=λe=>by rw[e]at h;revert h;right
  simp[h,this]
 ·by_cases h2:wd="if"
  ·subst h2;right
  ·simp[h,h2]
def Zcx (wd:Str):E4 wd<=2:=by
 unfold E4;split
 ·exact Pm _
 ·split <;> decide
structure RuJ (K:Pi)(H:Hp)(k:Nat)(d:Addr)(os:List (Str×V))(H':Hp):Prop where
 s:Same H H'
 o:∃ov,H' d=some (.lst ov)/\Al (ThAt K H') ov os
 t:∀y∈os,TOk k y
def RuJ.same {K:Pi}{H H1 H2:Hp}{k:Nat}{d:Addr}{os:List (Str×V)}(h:RuJ K H k d os H1)(s:Same H1 H2):RuJ K H k d os H2:=by
 obtain⟨O,e,I⟩:=h.o;exact⟨h.s.trans s,⟨O,s _ _ e,I.mono (ThAt.same s.t)⟩,h.t⟩
structure RvJ (K:Pi)(H:Hp)(k:Nat)(d a:Addr)(os:List (Str×V))(ar:Ar)(H':Hp):Prop where
 u:RuJ K H k d os H'
 n:a≠d
 o:∃ev,H' a=some (.lst ev)/\Al (PrAt K H') ev ar
 t:AOk k ar
def RvJ.same {K:Pi}{H H1 H2:Hp}{k:Nat}{d a:Addr}{os:List (Str×V)}{ar:Ar}(h:RvJ K H k d a os ar H1)(s:Same H1 H2):RvJ K H k d a os ar H2:=by
 obtain⟨O,e,I⟩:=h.o;exact⟨h.u.same s,h.n,⟨O,s _ _ e,I.mono (PrAt.same s.t)⟩,h.t⟩
def RvJ.len {K:Pi}{H H1:Hp}{k:Nat}{d a:Addr}{os:List (Str×V)}{ar:Ar}(h:RvJ K H k d a os ar H1):∃ev,H1 a=some (.lst ev)/\ev.length=ar.length:=by
 obtain⟨ev,e,I⟩:=h.o;exact⟨ev,e,I.1⟩
def RvJ.add {K:Pi}{H H1:Hp}{k:Nat}{d a a7:Addr}{os:List (Str×V)}{ar:Ar}{ev:List V}{nm:Str}{u:V}{x:Str×V}(h:RvJ K H k d a os ar H1)(ha:H a=none)(e:H1 a=some (.lst ev))(h7:H1 a7=none)(th:ThAt K H1 u x)(tk:TOk k x):RvJ K H k d a os (ar++[(nm,x)]) (upd (upd H1 a7 (.tup [.str nm,u])) a (.lst (ev++[.ref a7]))):=by
 have O:=Same.upd (o:=.tup [.str nm,u]) h7;have Z:=O _ _ e;obtain⟨u7,n,⟨aa,Y,al⟩,t⟩:=h.same O;rw[Z]at Y;cases Y;obtain⟨s0,⟨ov,eo,U⟩,t0⟩:=u7;have st:=SameT.set (o:=.lst (ev++[.ref a7])) Z;have q7:SqT K (upd (upd H1 a7 (.tup [.str nm,u])) a (.lst (ev++[.ref a7]))) a7 [.str nm,u]:=st.tup (SqT.of Ac);refine⟨⟨s0.over ha,⟨ov,(Ah n.symm).trans eo,U.mono (ThAt.same st)⟩,t0⟩,n,⟨_,Ac,(al.mono (PrAt.same st)).snoc ⟨a7,u,rfl,q7,ThAt.same (O.t.trans st) _ _ th⟩⟩,λy I=>?_⟩;rcases Q5.mp I with I|I
 ·exact t y I
 ·rw[P8.mp I];exact tk
def K3 {K:Pi}{H H':Hp}{k:Nat}{d e a p:Addr}{os:List (Str×V)}{ar:Ar}{s:List Nat×Tr}(J:RvJ K H k d e os ar H')(hd:H d=none)(he:H e=none)(hp:H p=some (.tup (A9 s.1)))(hl:os.length=E4 s.2.wd)(ha:ar.length<=150)(h9:H' a=none):Same H (upd H' a (.tup [.str s.2.wd,.ref p,.ref d,.ref e]))/\RwX K (λb=>H b≠none) (upd H' a (.tup [.str s.2.wd,.ref p,.ref d,.ref e])) (.ref a) ⟨s.2.wd,Ap s.1,os,ar⟩/\Nk k s ⟨s.2.wd,Ap s.1,os,ar⟩:=by
 obtain⟨⟨s0,⟨ov,e1,Y⟩,Z⟩,_,⟨ev,e2,U⟩,t2⟩:=J;have I:=Same.upd (o:=.tup [.str s.2.wd,.ref p,.ref d,.ref e]) h9;have O:(upd H' a (.tup [.str s.2.wd,.ref p,.ref d,.ref e])) p=some (.tup ((Ap s.1).map V.int)):=by rw[Fh];exact(s0.trans I) _ _ hp
 refine⟨s0.trans I,⟨⟨a,p,d,e,ov,ev,rfl,SqT.of Ac,SqT.of O,I _ _ e1,Y.mono (ThAt.same I.t),I _ _ e2,U.mono (PrAt.same I.t),λz=>z hd,λz=>z he⟩,a,p,d,e,rfl,SqT.of Ac,O⟩,rfl,rfl,Z,hl,t2,ha⟩
def Hi:Bc ["_law_spots_here","_law_cell_here","_law_k","_law_word","_law_place","_law_bound","_law_rest","_law_operands","_law_turn","_law_thing_here","_law_around","_law_name"] pI (A7 L9):=by walk_at "sc"
def Zno (F:Fu K "_law_free_row" L9 f fd)(T:Txt K mg)(kN:A5 P w K mg base 1 "_law_digit" ["_law_rest","_law_k"] (Zcg K)):FnOk P w K mg base As 2 f fd pI (Zaw K):=by
 refine F.okq Hi (λvs H Q E h=>?_) (λag A outer s H vs Q E hr h=>?_)
 ·obtain⟨sp,c,k,ws,ss,rfl,_⟩:=h;rfl
 ·obtain⟨sp,c,k,ws,ss,rfl,k5,aa,ad,w0,w5,q⟩:=h;refine⟨_,Ab (Et (Ai K Ad (Ae Be Af (B0 K T.len Ad))) (Lj K Hi 3 4 5))
   (Ab (Ak 6 Hi (Ae Cf Af (B0 K T.len Ad))) (Ab (Ak 7 Hi (Bp Bm)) (Ab (Dk Qj rfl (Gk rfl T.range (Aw (Ae (B5 K) (Ae E6 Aa (Ec N0 T.int (Aw (qcm (G6 K) A3 (Aj (Hw (xs:=[.str "plus",.str "minus",.str "less",.str "call"]) rfl)))))) (Ec N0 T.int (Aw (Fb K hr A3 Am)))))) (C7 8 Hi) (Ab (Et (Az kN hr.m (Ag (qv 6) Av)) (G0 K Hi 9 6)) (A4 (B2 (Cn K Pw Qf Qg Cy (qv 7) (Aw (qv 9))))))) (Ab (Ak 10 Hi (Bp Bm)) (Ab (Ay (Bt (G6 K) A3 (Aj (Hw (xs:=[.str "gap",.str "fn",.str "rec",.str "if"]) rfl))) (A4 (Dk Qj rfl (Ep K (qv 5)) (C7 11 Hi) (Ab (Et (Az kN hr.m (Ag (qv 6) Av)) (G0 K Hi 9 6)) (A4 (B2 (Cn K Pw Qf Qg Cy (qv 10) (Aw (Aj (Ag (qv 11) (qv 9)))))))))) A2) (Ao (Aj (Dj A3 A6 (qv 7) (qv 10))))))))),?_⟩
  have bg:=big;left;refine Cd (SqL.of aa) ?_;left;refine s_rI (by lia) ?_;have b0:=Qe c (show((ws.length:Nat):Int)≠0 by lia);have b1:=Qi c (show(0:Int)<(ws.length:Nat) by lia);obtain⟨i,hi⟩:∃i:Nat,c % (ws.length:Nat)=(i:Nat):=⟨(c % (ws.length:Nat)).toNat,by lia⟩;rw[hi];have ac:i<ws.length:=by lia
  have hw:=Pk ac;obtain⟨sx,hs⟩:∃x,ss[i]?=some x:=⟨_,Pk (show i<ss.length by rw[<- ad.1];exact ac)⟩;obtain⟨sa,p,b,ns,ev,qa,ep,eb,ln⟩:=ad.2 i _ _ hw hs;have ae:=λ{H' d e a os ar} J hd he hl ha h9=>q (.ref a) _ sx _ (K3 (K:=K) (H:=H) (H':=H') (k:=k) (d:=d) (e:=e) (a:=a) (p:=p) (os:=os) (ar:=ar) (s:=sx) J hd he ep hl ha h9).1 (K3 J hd he ep hl ha h9).2.1 (Qu hs) (K3 J hd he ep hl ha h9).2.2;refine Br (SqL.of aa) (Cs hw) ?_;rw[ev];left;refine Dv qa rfl ?_;left;refine Cd (SqL.of aa) ?_;refine s_rI ⟨by lia,by lia⟩ ?_;left;refine⟨Bj,λd hd=>?_⟩;left;refine⟨Hq,λa2 h2=>?_⟩;left;refine Fn (.inr (SqT.of Ac)) rfl rfl ?_;rw[if_neg Pu];left;rw[Zh5];have nl:=Zcx sx.2.wd;refine⟨by lia,by lia,?_⟩;have s1:=(Same.upd (o:=.lst []) hd).trans (Same.upd (o:=.tup [.str "plus",.str "minus",.str "less",.str "call"]) h2);have e1:upd (upd H d (.lst [])) a2 (.tup [.str "plus",.str "minus",.str "less",.str "call"]) d=some (.lst []):=(Same.upd h2) _ _ Ac;refine F8 (n:=((E4 sx.2.wd:Nat):Int).toNat) (λj I H'=>eX4 λ(v8 Z:Option V)(z:Int)(os:List (Str×V))=>I=[some (.ref sp),some (.int c),some (.int (k:Nat)),some (.str sx.2.wd),some (.ref p),some (.ref b),some (.int z),some (.ref d),v8,Z,none,none]/\RuJ K H k d os H'/\os.length=j) ⟨none,none,_,[],rfl,⟨s1,⟨[],e1,.nil⟩,λy U=>nomatch U⟩,rfl⟩ ?_ ?_
  ·rintro j I H' hj ⟨v8,Z,z,os,rfl,J,lo⟩;left;refine⟨z,k,rfl,k5,λr u z1 x H2 s2 qr th tk=>?_⟩;left;refine Dv qr rfl ?_;left;obtain⟨s0,⟨ov,eo,al⟩,t0⟩:=J.same s2;refine B7 (SqL.of eo) ?_;left;refine Cz eo (by have:=al.1;lia) ?_;refine⟨_,_,z1,os++[x],rfl,⟨s0.over hd,⟨_,Ac,(al.mono (ThAt.same (SameT.set eo))).snoc (ThAt.same (SameT.set eo) _ _ th)⟩,λy U=>?_⟩,by rw[Pn,lo];rfl⟩;rcases Q5.mp U with U|U
   ·exact t0 y U
   ·rw[P8.mp U];exact tk
  rintro I H1 ⟨v8,Z,z,os,rfl,J,lo⟩;have lo:os.length=E4 sx.2.wd:=by rw[lo,Qz]
  left;refine⟨Bj,λe h3=>?_⟩;have he:=J.s.free h3;have J3:=J.same (Same.upd (o:=.lst []) h3);have J3:RvJ K H k d e os [] (upd H1 e (.lst [])):=⟨J3,(λz=>by obtain⟨ov,eo,_⟩:=J.o;rw[<- z,h3]at eo;cases eo),⟨[],Ac,.nil⟩,λy U=>nomatch U⟩;revert J3;generalize upd H1 e (.lst [])=H3;intro J3;refine s_gname ?_;with_reducible refine s_seq ?_
  refine Cu (t:=Cm _ _ _) (R:=λI H'=>eX5 λ(v6 v8 Z O:Option V)(ar:Ar)=>I=[some (.ref sp),some (.int c),some (.int (k:Nat)),some (.str sx.2.wd),some (.ref p),some (.ref b),v6,some (.ref d),v8,Z,some (.ref e),O]/\RvJ K H k d e os ar H'/\ar.length<=150) ?_ (λY hY=>?_)
  ·rintro _ H4 ⟨v6,v8,Z,O,ar,rfl,J4,l4⟩;left;refine⟨Hq,λa9 h9=>?_⟩;exact ae J4 hd he lo l4 h9
  left;refine⟨Hq,λa4 h4=>?_⟩;left;refine Fn (.inr (SqT.of Ac)) rfl rfl ?_;rw[if_neg Pu];refine⟨_,rfl,?_⟩;have s4:=Same.upd (o:=.tup [.str "gap",.str "fn",.str "rec",.str "if"]) h4;have J4:=J3.same s4;revert J4;generalize upd H3 a4 (.tup [.str "gap",.str "fn",.str "rec",.str "if"])=H4;intro J4;refine Bf (λ_=>?_) (λ_=>?_)
  ·left;refine .inl ⟨b,rfl,⟨_,SqL.of (J4.u.s _ _ eb)⟩,?_⟩;refine Ji (K:=K) (a:=b) (xs:=ns.map V.str) (λi I H'=>eX4 λ(Z O:Option V)(z:Int)(ar:Ar)=>I=[some (.ref sp),some (.int c),some (.int (k:Nat)),some (.str sx.2.wd),some (.ref p),some (.ref b),some (.int z),some (.ref d),v8,Z,some (.ref e),O]/\RvJ K H k d e os ar H'/\ar.length=i) ⟨_,_,_,[],rfl,J4,rfl⟩ ?_ ?_ ?_
   ·rintro i I H' _ ⟨_,_,_,_,_,J5,_⟩;exact SqL.of (J5.u.s _ _ eb)
   ·rintro i y I H5 U ⟨Z,O,z,ar,rfl,J5,l5⟩;have af:=(Pt.mp U).1;rw[Pq]at af;rw[Qm]at U;obtain⟨nm,_,rfl⟩:=Q0.mp U;left;refine⟨z,k,rfl,k5,λr u z1 x H6 s6 qr th tk=>?_⟩;left;refine Dv qr rfl ?_;left;have J6:=J5.same s6;obtain⟨ev,ee,le⟩:=J6.len;refine B7 (SqL.of ee) ?_;left;refine⟨Bl,λa7 h7=>?_⟩;left;refine Cz ((Same.upd h7) _ _ ee) (by lia) ?_;exact⟨_,_,z1,_,rfl,J6.add he ee h7 th tk,by rw[Pn,l5];rfl⟩
   ·rintro I H5 ⟨Z,O,z,ar,rfl,J5,l5⟩;exact hY _ _ ⟨_,_,_,_,ar,rfl,J5,by rw[l5,Pq];exact ln⟩
  ·left;exact hY _ _ ⟨_,_,_,_,[],rfl,J4,by show 0<=150;decide⟩
def Ly (K:Pi):Sp:=λvs H Q _=>eX2 λ(a:Addr)(k:Int)=>vs=[.ref a,.int k]/\Script K H a/\0<=k/\k<=1000/\∀z:Int,Q (.int z) H
def Zor:Bc pP pP (A7 Lw):=by walk_at "sc"
def Zpc (F:Fu K "_law_cell" Lw f fd)(T:Txt K mg):FnOk P w K mg base As 1 f fd pP (Ly K):=by
 refine F.okq Zor (λvs H Q E h=>?_) (λO A outer s H vs Q E Y h=>?_)
 ·obtain⟨a,k,rfl,_⟩:=h;rfl
 ·obtain⟨a,k,rfl,S,h0,U,q⟩:=h;obtain⟨ns,I,hl⟩:=S.ex;refine⟨_,Ab (Ay (Bt Ej Af (B0 K T.len Ad)) (Ao (Ai K Ad Af)) A2)
   (Ao (Ae (B5 K) (Ae E6 Af Aa) Aa)),?_⟩
  left;refine Cd I ?_;left;refine Bf (λh=>?_) (λh=>?_)
  ·have h1:k<(ns.map V.int).length:=by simpa using h
   obtain⟨v,hv,m⟩:=Ma h0 h1;obtain⟨z,_,rfl⟩:=Rr.mp m;left;exact Br I hv (q z)
  ·left;exact q _
def Mx:Sp:=λvs H Q _=>eX2 λ(c k:Int)=>vs=[.int c,.int k]/\0<=k/\k<=1000/\∀z:Int,0<=z->z<999999999999999989->Q (.int z) H
def Zu4:Bc pN pN (A7 Nd):=by walk_at "sc"
def Zl0 (F:Fu K "_law_mixed" Nd f fd)(T:Txt K mg):FnOk P w K mg base As 1 f fd pN Mx:=by
 refine F.okq Zu4 (λvs H Q E h=>?_) (λI A outer s H vs Q E U h=>?_)
 ·obtain⟨a,k,rfl,_⟩:=h;rfl
 ·obtain⟨a,k,rfl,h0,O,q⟩:=h;refine⟨_,Ao (Ae Be (Ae E6 (Ae (B5 K) (Ae (B5 K) Ad (Ae E6 Aa Af)) Aa) Aa) Aa),?_⟩;left;exact q _ (Qe _ (by decide)) (Qi _ (by decide))
def Zf3:Sp:=λvs H Q _=>eX2 λ(a k:Int)=>vs=[.int a,.int k]/\-(2 ^ 64)<a/\a<2 ^ 64/\∀z:Int,0<=z->z<2147483647->Q (.int z) H
def Zod:Bc pM pM (A7 Ln):=by walk_at "sc"
def Zwv (F:Fu K "_law_next" Ln f fd)(T:Txt K mg):FnOk P w K mg base As 1 f fd pM Zf3:=by
 refine F.okq Zod (λvs H Q E h=>?_) (λI A outer s H vs Q E O h=>?_)
 ·obtain⟨a,k,rfl,_⟩:=h;rfl
 ·obtain⟨a,k,rfl,h1,h2,q⟩:=h;refine⟨_,Ao (Ae Be (Ae (B5 K) (Ae (B5 K) (Ae (B5 K) (Ae E6 Ad Ad) (Ae E6 Aa Ad)) (Ae E6 Aa Af)) Aa) Aa),?_⟩;left;refine s_mul_l h1 h2 ?_;left;exact q _ (Qe _ (by decide)) (Qi _ (by decide))
def G9:Bc ["_law_spots_here","_law_cell_here","_law_k","_law_number_here","_law_word","_law_place","_law_bound","_law_operands","_law_turn","_law_around","_law_name"] pI (A7 Mz):=by walk_at "sc"
def Zur (F:Fu K "_law_row" Mz f fd)(T:Txt K mg)(cD:A5 P w K mg base 1 "_law_next" ["_law_number_here","_law_k"] Zf3)(kZ:A5 P w K mg base 1 "_law_thing" ["_law_number_here","_law_k"] (Zjj K)):FnOk P w K mg base As 2 f fd pI (Zaw K):=by
 refine F.okq G9 (λvs H Q E h=>?_) (λag A outer s H vs Q E hr h=>?_)
 ·obtain⟨sp,c,k,ws,ss,rfl,_⟩:=h;rfl
 ·obtain⟨sp,c,k,ws,ss,rfl,k5,aa,ad,w0,w5,q⟩:=h;refine⟨_,Ab (Ak 3 G9 (Ae Be Af Aa))
   (Ab (Et (Ai K Ad (Ae Be Af (B0 K T.len Ad))) (Lj K G9 4 5 6)) (Ab (Ak 7 G9 (Bp Bm)) (Ab (Dk Qj rfl (Gk rfl T.range (Aw (Ae (B5 K) (Ae E6 Aa (Ec N0 T.int (Aw (qcm (G6 K) A6 (Aj (Hw (xs:=[.str "plus",.str "minus",.str "less",.str "call"]) rfl)))))) (Ec N0 T.int (Aw (Fb K hr A6 Am)))))) (C7 8 G9) (Ab (Ak 3 G9 (Az cD hr.m (Ag A3 (qv 8)))) (A4 (B2 (Cn K Pw Qf Qg Cy (qv 7) (Aw (Az kZ hr.m (Ag A3 Av)))))))) (Ab (Ak 9 G9 (Bp Bm)) (Ab (Ay (Bt (G6 K) A6 (Aj (Hw (xs:=[.str "gap",.str "fn",.str "rec",.str "if"]) rfl))) (A4 (Dk Qj rfl (Ep K (qv 6)) (C7 10 G9) (Ab (Ak 3 G9 (Az cD hr.m (Ag A3 Aa))) (A4 (B2 (Cn K Pw Qf Qg Cy (qv 9) (Aw (Aj (Ag (qv 10) (Az kZ hr.m (Ag A3 Av))))))))))) A2) (Ao (Aj (Dj A6 (qv 5) (qv 7) (qv 9))))))))),?_⟩
  have bg:=big;left;refine Cd (SqL.of aa) ?_;left;refine s_rI (by lia) ?_;have b0:=Qe c (show((ws.length:Nat):Int)≠0 by lia);have b1:=Qi c (show(0:Int)<(ws.length:Nat) by lia);obtain⟨i,hi⟩:∃i:Nat,c % (ws.length:Nat)=(i:Nat):=⟨(c % (ws.length:Nat)).toNat,by lia⟩;rw[hi];have ac:i<ws.length:=by lia
  have hw:=Pk ac;obtain⟨Z,hs⟩:∃x,ss[i]?=some x:=⟨_,Pk (show i<ss.length by rw[<- ad.1];exact ac)⟩;obtain⟨sa,p,b,ns,ev,qa,ep,eb,ln⟩:=ad.2 i _ _ hw hs;have ae:=λ{H' d e a os ar} J hd he hl ha h9=>q (.ref a) _ Z _ (K3 (K:=K) (H:=H) (H':=H') (k:=k) (d:=d) (e:=e) (a:=a) (p:=p) (os:=os) (ar:=ar) (s:=Z) J hd he ep hl ha h9).1 (K3 J hd he ep hl ha h9).2.1 (Qu hs) (K3 J hd he ep hl ha h9).2.2;refine Br (SqL.of aa) (Cs hw) ?_;rw[ev];left;refine Dv qa rfl ?_;left;refine⟨Bj,λd hd=>?_⟩;left;refine⟨Hq,λa2 h2=>?_⟩;left;refine Fn (.inr (SqT.of Ac)) rfl rfl ?_;rw[if_neg Pu];left;rw[Zh5];have nl:=Zcx Z.2.wd;have z0:=Qe c (show(2147483629:Int)≠0 by decide);have z1:=Qi c (show(0:Int)<2147483629 by decide);refine⟨by lia,by lia,?_⟩;have s1:=(Same.upd (o:=.lst []) hd).trans (Same.upd (o:=.tup [.str "plus",.str "minus",.str "less",.str "call"]) h2);have e1:upd (upd H d (.lst [])) a2 (.tup [.str "plus",.str "minus",.str "less",.str "call"]) d=some (.lst []):=(Same.upd h2) _ _ Ac;refine F8 (n:=((E4 Z.2.wd:Nat):Int).toNat) (λj I H'=>eX3 λ(v8:Option V)(z:Int)(os:List (Str×V))=>I=[some (.ref sp),some (.int c),some (.int (k:Nat)),some (.int z),some (.str Z.2.wd),some (.ref p),some (.ref b),some (.ref d),v8,none,none]/\RuJ K H k d os H'/\os.length=j/\0<=z/\z<2147483647) ⟨none,_,[],rfl,⟨s1,⟨[],e1,.nil⟩,λy U=>nomatch U⟩,rfl,z0,by lia⟩ ?_ ?_
  ·rintro j I H' hj ⟨v8,z,os,rfl,J,lo,z2,z3⟩;left;refine⟨z,_,rfl,by lia,by lia,λz1 z4 z5=>?_⟩;left;refine B7 (SqL.of J.o.choose_spec.1) ?_;left;refine⟨z1,k,rfl,λu H2 x s2 th tk=>?_⟩;obtain⟨s0,⟨ov,eo,al⟩,t0⟩:=J.same s2;left;refine Cz eo (by have:=al.1;lia) ?_;refine⟨_,z1,os++[x],rfl,⟨s0.over hd,⟨_,Ac,(al.mono (ThAt.same (SameT.set eo))).snoc (ThAt.same (SameT.set eo) _ _ th)⟩,λy U=>?_⟩,by rw[Pn,lo];rfl,z4,z5⟩;rcases Q5.mp U with U|U
   ·exact t0 y U
   ·rw[P8.mp U];exact tk
  rintro I H1 ⟨v8,z,os,rfl,J,lo,z2,z3⟩;have lo:os.length=E4 Z.2.wd:=by rw[lo,Qz]
  left;refine⟨Bj,λe h3=>?_⟩;have he:=J.s.free h3;have J3:=J.same (Same.upd (o:=.lst []) h3);have J3:RvJ K H k d e os [] (upd H1 e (.lst [])):=⟨J3,(λz=>by obtain⟨ov,eo,_⟩:=J.o;rw[<- z,h3]at eo;cases eo),⟨[],Ac,.nil⟩,λy U=>nomatch U⟩;revert J3;generalize upd H1 e (.lst [])=H3;intro J3;refine s_gname ?_;with_reducible refine s_seq ?_
  refine Cu (t:=Cm _ _ _) (R:=λI H'=>eX4 λ(v3 v8 O:Option V)(ar:Ar)=>I=[some (.ref sp),some (.int c),some (.int (k:Nat)),v3,some (.str Z.2.wd),some (.ref p),some (.ref b),some (.ref d),v8,some (.ref e),O]/\RvJ K H k d e os ar H'/\ar.length<=150) ?_ (λY hY=>?_)
  ·rintro _ H4 ⟨v3,v8,O,ar,rfl,J4,l4⟩;left;refine⟨Hq,λa9 h9=>?_⟩;exact ae J4 hd he lo l4 h9
  left;refine⟨Hq,λa4 h4=>?_⟩;left;refine Fn (.inr (SqT.of Ac)) rfl rfl ?_;rw[if_neg Pu];refine⟨_,rfl,?_⟩;have s4:=Same.upd (o:=.tup [.str "gap",.str "fn",.str "rec",.str "if"]) h4;have J4:=J3.same s4;revert J4;generalize upd H3 a4 (.tup [.str "gap",.str "fn",.str "rec",.str "if"])=H4;intro J4;refine Bf (λ_=>?_) (λ_=>?_)
  ·left;refine .inl ⟨b,rfl,⟨_,SqL.of (J4.u.s _ _ eb)⟩,?_⟩;refine Ji (K:=K) (a:=b) (xs:=ns.map V.str) (λi I H'=>eX3 λ(O:Option V)(z:Int)(ar:Ar)=>I=[some (.ref sp),some (.int c),some (.int (k:Nat)),some (.int z),some (.str Z.2.wd),some (.ref p),some (.ref b),some (.ref d),v8,some (.ref e),O]/\RvJ K H k d e os ar H'/\ar.length=i/\0<=z/\z<2147483647) ⟨_,_,[],rfl,J4,rfl,z2,z3⟩ ?_ ?_ ?_
   ·rintro i I H' _ ⟨_,_,_,_,J5,_⟩;exact SqL.of (J5.u.s _ _ eb)
   ·rintro i y I H5 U ⟨O,z,ar,rfl,J5,l5,z2,z3⟩;have af:=(Pt.mp U).1;rw[Pq]at af;rw[Qm]at U;obtain⟨nm,_,rfl⟩:=Q0.mp U;left;refine⟨z,_,rfl,by lia,by lia,λz1 z4 z5=>?_⟩;left;refine B7 (SqL.of J5.len.choose_spec.1) ?_;left;refine⟨z1,k,rfl,λu H6 x s6 th tk=>?_⟩;have J6:=J5.same s6;obtain⟨ev,ee,le⟩:=J6.len;left;refine⟨Bl,λa7 h7=>?_⟩;left;refine Cz ((Same.upd h7) _ _ ee) (by lia) ?_;exact⟨_,z1,_,rfl,J6.add he ee h7 th tk,by rw[Pn,l5];rfl,z4,z5⟩
   ·rintro I H5 ⟨O,z,ar,rfl,J5,l5,_⟩;exact hY _ _ ⟨_,_,_,ar,rfl,J5,by rw[l5,Pq];exact ln⟩
  ·left;exact hY _ _ ⟨_,_,_,[],rfl,J4,by show 0<=150;decide⟩
structure RcJ (K:Pi)(H H1:Hp)(ss:List (List Nat×Tr))(rd:Addr)(rs:List Rx)(H':Hp):Prop where
 s:Same H1 H'
 o:∃rv,H' rd=some (.lst rv)/\Al (RwX K (λb=>b=rd\/H b≠none) H') rv rs
 m:∀(j:Nat)(r:Rx),rs[j]?=some r->∃x∈ss,Nk j x r
def RcJ.same (h:RcJ K H H1 ss rd rs H2)(s:Same H2 H3):RcJ K H H1 ss rd rs H3:=by
 obtain⟨O,e,I⟩:=h.o;exact⟨h.s.trans s,⟨O,s _ _ e,I.mono (RwX.same s.a)⟩,h.m⟩
def RcJ.add (h:RcJ K H H1 ss rd rs H2)(h1:Same H H1)(hd:H1 rd=none)(s:Same H2 H3)(e3:H3 rd=some (.lst rv))(w:RwX K (λb=>H2 b≠none) H3 v x)(hs:sx∈ss)(m:Nk rs.length sx x):RcJ K H H1 ss rd (rs++[x]) (upd H3 rd (.lst (rv++[v]))):=by
 obtain⟨s0,⟨Z,U,Y⟩,m0⟩:=h.same s;rw[e3]at U;cases U;have sa:SameA (λb=>b=rd\/H b≠none) H3 (upd H3 rd (.lst (rv++[v]))):=⟨SameT.set e3,λb xs nb h=>(Ah λz=>nb (.inl z)).trans h⟩;refine⟨s0.over hd,⟨_,Ac,(Y.mono (RwX.same sa)).snoc (RwX.same sa _ _ (RwX.mono (λb hb _=>?_) _ _ w))⟩,λj r I=>?_⟩
 ·rcases hb with rfl|hb
  ·obtain⟨rv,e,_⟩:=h.o;rw[e];exact λz=>nomatch z
  ·exact λz=>hb ((h1.trans h.s).free z)
 ·by_cases hl:j<rs.length
  ·rw[Qk hl]at I;exact m0 j r I
  ·have O:=(Pt.mp I).1;rw[Pn,Pz]at O;have:j=rs.length:=by lia
   subst this;rw[Qt (Pm _),Q9]at I;cases I;exact⟨sx,hs,m⟩
structure MdC (ss:List (List Nat×Tr))(o:Er):Prop where
 m:∀(j:Nat)(r:Rx),o.2.1[j]?=some r->∃x∈ss,Nk j x r
 l:o.2.1.length<=21
 t:TOk o.2.1.length o.1
 n:0<=o.2.2/\o.2.2<=500
inductive Zdw (K:Pi)(H H':Hp)(ss:List (List Nat×Tr))(v:V)(o:Er):Prop
 |mk (r rd:Addr) (av:V) (rv:List V) (_:v=.ref r) (_:Same H H') (_:SqT K H' r [av,.ref rd,.int o.2.2]) (_:ThAt K H' av o.1) (_:H' rd=some (.lst rv)) (_:H rd=none) (_:Al (RwX K (λb=>b=rd\/H b≠none) H') rv o.2.1) (_:MdC ss o)
def O5 (t:Tr):Prop:=∃x∈walk [] t,x.2.wd="gap"
def Zjy (K:Pi):Sp:=λvs H Q _=>eX5 λ(tv:V)(pc a:Addr)(t:Tr)(cs:List Int)=>vs=[tv,.ref pc,.ref a]/\TrAt K H tv t/\Tf t/\t.size<=70/\O5 t/\H pc=some (.lst (cs.map V.int))/\cs.length<=21/\Script K H a/\∀v o H',Zdw K H H' ((walk [] t).filter (Eh ["num","truth","let"])) v o->Q v H'
def Zf7 (h:O5 t)(hu:¬("gap":Str)∈us):0<((walk [] t).filter (Eh us)).length:=by
 obtain⟨x,I,e⟩:=h;exact List.length_pos_of_mem (Tk.mpr ⟨I,by show(!decide (x.2.wd∈us))=true;rw[e,dI hu];rfl⟩)
def Zga:((walk [] t).filter (Eh us)).length<=t.size:=P9 (Th _ _) (by rw[J1];exact Pm _)
def N4:Bc ["_law_tree_here","_law_cells","_law_script","_law_spots_here","_law_rows","_law_cell_here","_law_answer","_law_rest"] pY (A7 Lb):=by walk_at "sc"
def Zse (F:Fu K "_law_free_record" Lb f fd)(T:Txt K mg)(kC:A5 P w K mg base 1 "_law_cell" ["_law_script","_law_k"] (Ly K))(kJ:A5 P w K mg base 72 "_law_spots" ["_law_form_here","_law_place","_law_bound","_law_none"] (Ja K 71))(kN:A5 P w K mg base 1 "_law_digit" ["_law_rest","_law_k"] (Zcg K))(cI:A5 P w K mg base 2 "_law_free_row" ["_law_spots_here","_law_cell_here","_law_k"] (Zaw K)):FnOk P w K mg base As 73 f fd pY (Zjy K):=by
 refine F.okq N4 (λvs H Q E h=>?_) (λah A outer s H vs Q E hr h=>?_)
 ·obtain⟨tv,pc,a,t,cs,rfl,_⟩:=h;rfl
 ·obtain⟨tv,pc,a,t,cs,rfl,ht,tf,hz,hg,ec,lc,Sc,q⟩:=h;refine⟨_,Ab (Ak 3 N4 (Az kJ hr.m (Dj Ad (Aj Bm) (Bp Bm) (Aj (Bd Am Am Am)))))
   (Ab (Ak 4 N4 (Bp Bm)) (Ab (Dk Qj rfl (Ep K Af) (C7 5 N4) (A4 (B2 (Cn K Pw Qf Qg Cy A6 (Aw (Az cI hr.m (Bd A3 (qv 5) (B0 K T.len A6)))))))) (Ab (Et (Az kN hr.m (Ag (Ae Cf (Az kC hr.m (Ag Av Aa)) Aa) (B0 K T.len A6))) (G0 K N4 6 7)) (Ao (Aj (Bd (qv 6) A6 (Ae Be (Az kC hr.m (Ag Av Aa)) Aa))))))),?_⟩
  have bg:=big;left;refine⟨Bj,λa1 h1=>?_⟩;left;refine⟨Bj,λa2 h2=>?_⟩;left;refine⟨Bs,λa3 h3=>?_⟩;have s1:=Same.upd (o:=.tup []) h1;have s2:=Same.upd (o:=.lst []) h2;have s3:=Same.upd (o:=.tup [.str "num",.str "truth",.str "let"]) h3;have ad:=s1.trans (s2.trans s3);left;refine⟨tv,t,a1,a2,a3,[],[],["num","truth","let"],rfl,ht.same ad,tf,(s2.trans s3) _ _ Ac,s3 _ _ Ac,SqT.of Ac,by decide,by lia,by show 0+t.size<=1000;lia,by show 0+2*t.size<=150;lia,λsp ws H1 O af Y=>?_⟩;have O:=ad.trans O;left;refine⟨Bj,λrd hd=>?_⟩;have J0:RcJ K H H1 ((walk [] t).filter (Eh ["num","truth","let"])) rd [] (upd H1 rd (.lst [])):=⟨Same.upd hd,⟨[],Ac,.nil⟩,λj r h=>by simp at h⟩;revert J0;generalize upd H1 rd (.lst [])=H2;intro J0;left;have aa:=O _ _ ec;refine .inl ⟨pc,rfl,⟨_,SqL.of (J0.s _ _ aa)⟩,?_⟩;refine Ji (K:=K) (a:=pc) (xs:=cs.map V.int) (λi I H'=>eX2 λ(v5:Option V)(rs:List Rx)=>I=[some tv,some (.ref pc),some (.ref a),some (.ref sp),some (.ref rd),v5,none,none]/\RcJ K H H1 ((walk [] t).filter (Eh ["num","truth","let"])) rd rs H'/\rs.length=i) ⟨_,[],rfl,J0,rfl⟩ ?_ ?_ ?_
  ·rintro i I H' _ ⟨_,_,_,J,_⟩;exact SqL.of (J.s _ _ aa)
  ·rintro i y I H3 hy ⟨v5,rs,rfl,J,lr⟩;have hi:=(Pt.mp hy).1;rw[Pq]at hi;rw[Qm]at hy;obtain⟨c,_,rfl⟩:=Q0.mp hy;obtain⟨rv,Z,U⟩:=J.o;have lv:rv.length=rs.length:=U.1;left;refine B7 (SqL.of Z) ?_;left;refine Cd (SqL.of Z) ?_;left;have p0:=Zf7 (us:=["num","truth","let"]) hg (by right);have p1:=Zga (t:=t) (us:=["num","truth","let"]);refine⟨sp,c,rv.length,ws,_,rfl,by lia,J.s _ _ af,Y.mono (SpAt.same J.s),by rw[Y.1];exact p0,by rw[Y.1];lia,λv x sx H4 s4 wx hs m=>?_⟩;left;refine Cz (s4 _ _ Z) (by lia) ?_;rw[lv]at m;exact⟨_,_,rfl,J.add O hd s4 (s4 _ _ Z) wx hs m,by rw[Pn,lr];rfl⟩
  rintro I H3 ⟨v5,rs,rfl,J,lr⟩;obtain⟨rv,Z,U⟩:=J.o;have lv:rv.length=rs.length:=U.1;rw[Pq]at lr;left;refine⟨a,2,rfl,Sc.same (O.trans J.s),by decide,by decide,λz2=>?_⟩;left;refine Cd (SqL.of Z) ?_;left;refine⟨_,rv.length,rfl,by lia,λr6 u z6 x H6 s6 q6 th tk=>?_⟩;left;refine Dv q6 rfl ?_;left;refine⟨a,1,rfl,Sc.same (O.trans (J.s.trans s6)),by decide,by decide,λz1=>?_⟩;left;refine⟨Bs,λr9 h9=>?_⟩;have s9:=Same.upd (o:=.tup [u,.ref rd,.int (z1 % 501)]) h9;obtain⟨sJ,⟨ag,ae,ac⟩,mJ⟩:=J.same (s6.trans s9);rw[lv]at tk;have n0:=Qe z1 (show(501:Int)≠0 by decide);have n1:=Qi z1 (show(0:Int)<501 by decide);exact q (.ref r9) (x,rs,z1 % 501) _ ⟨r9,rd,u,ag,rfl,O.trans sJ,SqT.of Ac,ThAt.same s9.t _ _ th,ae,O.free hd,ac,mJ,by show rs.length<=21;lia,tk,n0,by show z1 % 501<=500;lia⟩
def Zfg (K:Pi):Sp:=λvs H Q _=>eX5 λ(tv:V)(pc:Addr)(n:Int)(t:Tr)(cs:List Int)=>vs=[tv,.ref pc,.int n]/\TrAt K H tv t/\Tf t/\t.size<=70/\O5 t/\H pc=some (.lst (cs.map V.int))/\cs.length<=21/\0<=n/\n<=500/\∀v o H',Zdw K H H' ((walk [] t).filter (Eh ["num","truth","let","name"])) v o->Q v H'
def Lp:Bc ["_law_tree_here","_law_cells","_law_steps","_law_spots_here","_law_rows","_law_cell_here","_law_answer"] pZ (A7 Nh):=by walk_at "sc"
def Zqi (F:Fu K "_law_made_up" Nh f fd)(T:Txt K mg)(kJ:A5 P w K mg base 72 "_law_spots" ["_law_form_here","_law_place","_law_bound","_law_none"] (Ja K 71))(cY:A5 P w K mg base 2 "_law_row" ["_law_spots_here","_law_cell_here","_law_k"] (Zaw K)):FnOk P w K mg base As 73 f fd pZ (Zfg K):=by
 refine F.okq Lp (λvs H Q E h=>?_) (λao A outer s H vs Q E hr h=>?_)
 ·obtain⟨tv,pc,n,t,cs,rfl,_⟩:=h;rfl
 ·obtain⟨tv,pc,n,t,cs,rfl,ht,tf,hz,hg,ec,lc,n0,n1,q⟩:=h;refine⟨_,Ab (Ak 3 Lp (Az kJ hr.m (Dj Ad (Aj Bm) (Bp Bm) (Aj (Hw (xs:=[.str "num",.str "truth",.str "let",.str "name"]) rfl)))))
   (Ab (Ak 4 Lp (Bp Bm)) (Ab (Dk Qj rfl (Ep K Af) (C7 5 Lp) (A4 (B2 (Cn K Pw Qf Qg Cy A6 (Aw (Az cY hr.m (Bd A3 (qv 5) (B0 K T.len A6)))))))) (Ab (Ak 6 Lp (Aj (Ag Am Av))) (Ab (Ay (QW.qt (D3 (Bt Gz (B0 K T.len A6) Aa) (D7 (Bt Ej (Ae Be (Ai K Af Aa) Aa) Aa)))) (A4 (Ak 6 Lp (Aj (Ag Am (Ae Du (Ae Du (B0 K T.len A6) Aa) (Ae Be (Ae Cf (Ai K Af Aa) Aa) (B4 (Zg2 rfl) T.min (Ag Aa (B0 K T.len A6))))))))) A2) (Ao (Aj (Bd (qv 6) A6 Av))))))),?_⟩
  have bg:=big;left;refine⟨Bj,λa1 h1=>?_⟩;left;refine⟨Bj,λa2 h2=>?_⟩;left;refine⟨Hq,λa3 h3=>?_⟩;have s1:=Same.upd (o:=.tup []) h1;have s2:=Same.upd (o:=.lst []) h2;have s3:=Same.upd (o:=.tup [.str "num",.str "truth",.str "let",.str "name"]) h3;have ah:=s1.trans (s2.trans s3);left;refine⟨tv,t,a1,a2,a3,[],[],["num","truth","let","name"],rfl,ht.same ah,tf,(s2.trans s3) _ _ Ac,s3 _ _ Ac,SqT.of Ac,by decide,by lia,by show 0+t.size<=1000;lia,by show 0+2*t.size<=150;lia,λsp ws H1 sH ak ae=>?_⟩;have sH:=ah.trans sH;left;refine⟨Bj,λrd hd=>?_⟩;have J0:RcJ K H H1 ((walk [] t).filter (Eh ["num","truth","let","name"])) rd [] (upd H1 rd (.lst [])):=⟨Same.upd hd,⟨[],Ac,.nil⟩,λj r h=>by simp at h⟩;revert J0;generalize upd H1 rd (.lst [])=H2;intro J0;left;have aa:=sH _ _ ec;refine .inl ⟨pc,rfl,⟨_,SqL.of (J0.s _ _ aa)⟩,?_⟩;refine Ji (K:=K) (a:=pc) (xs:=cs.map V.int) (λi I H'=>eX2 λ(v5:Option V)(rs:List Rx)=>I=[some tv,some (.ref pc),some (.int n),some (.ref sp),some (.ref rd),v5,none]/\RcJ K H H1 ((walk [] t).filter (Eh ["num","truth","let","name"])) rd rs H'/\rs.length=i) ⟨_,[],rfl,J0,rfl⟩ ?_ ?_ ?_
  ·rintro i I H' _ ⟨_,_,_,J,_⟩;exact SqL.of (J.s _ _ aa)
  ·rintro i y I H3 hy ⟨v5,rs,rfl,J,lr⟩;have hi:=(Pt.mp hy).1;rw[Pq]at hi;rw[Qm]at hy;obtain⟨c,_,rfl⟩:=Q0.mp hy;obtain⟨U,er,ac⟩:=J.o;have lv:U.length=rs.length:=ac.1;left;refine B7 (SqL.of er) ?_;left;refine Cd (SqL.of er) ?_;left;have p0:=Zf7 (us:=["num","truth","let","name"]) hg (by right);have p1:=Zga (t:=t) (us:=["num","truth","let","name"]);refine⟨sp,c,U.length,ws,_,rfl,by lia,J.s _ _ ak,ae.mono (SpAt.same J.s),by rw[ae.1];exact p0,by rw[ae.1];lia,λv x sx H4 s4 wx hs m=>?_⟩;left;refine Cz (s4 _ _ er) (by lia) ?_;rw[lv]at m;exact⟨_,_,rfl,J.add sH hd s4 (s4 _ _ er) wx hs m,by rw[Pn,lr];rfl⟩
  rintro I H3 ⟨v5,rs,rfl,J,lr⟩;obtain⟨U,er,ac⟩:=J.o;have lv:U.length=rs.length:=ac.1;rw[Pq]at lr;have am:=J.s _ _ aa;left;refine⟨Bl,λa6 h6=>?_⟩;have s6:=Same.upd (o:=.tup [.str "num",.int n]) h6;have t6:ThAt K (upd H3 a6 (.tup [.str "num",.int n])) (.ref a6) ("num",.int n):=⟨rfl,a6,rfl,SqT.of Ac⟩;revert s6 t6;generalize upd H3 a6 (.tup [.str "num",.int n])=H6;intro s6 t6;refine s_gname ?_;with_reducible refine s_seq ?_
  refine Cu (t:=Cm _ _ _) (R:=λI H'=>eX2 λ(u:V)(x:Str×V)=>I=[some tv,some (.ref pc),some (.int n),some (.ref sp),some (.ref rd),v5,some u]/\Same H6 H'/\ThAt K H' u x/\TOk rs.length x) ?_ (λY hY=>?_)
  ·rintro _ H7 ⟨u,x,rfl,s7,th,tk⟩;left;refine⟨Bs,λr9 h9=>?_⟩;have s9:=Same.upd (o:=.tup [u,.ref rd,.int n]) h9;obtain⟨sJ,⟨al,aj,ag⟩,mJ⟩:=J.same (s6.trans (s7.trans s9));exact q (.ref r9) (x,rs,n) _ ⟨r9,rd,u,al,rfl,sH.trans sJ,SqT.of Ac,ThAt.same s9.t _ _ th,aj,sH.free hd,ag,mJ,by show rs.length<=21;lia,tk,n0,n1⟩
  have no:Y [some tv,some (.ref pc),some (.int n),some (.ref sp),some (.ref rd),v5,some (.ref a6)] H6:=hY _ _ ⟨_,_,rfl,Same.refl _,t6,.inl ⟨rfl,_,rfl⟩⟩;have ad:=s6 _ _ er;have ai:=s6 _ _ am;left;refine Cd (SqL.of ad) ?_;left;refine Bf (λhk=>?_) (λ_=>by left;exact no);have hk:(0:Int)<(U.length:Nat):=dJ hk;obtain⟨O,cr,rfl⟩:eX2 λO cr=>cs=O::cr:=by
   cases cs with
   |nil=>rw[Tq]at lr;lia
   |cons O cr=>exact⟨O,cr,rfl⟩
  left;refine Br (SqL.of ai) (v:=.int O) (show Cq _ ((0:Nat):Int)=_ from Cs rfl) ?_;left;refine Bf (λ_=>?_) (λ_=>by left;exact no);left;refine Cd (SqL.of ad) ?_;left;refine Br (SqL.of ai) (v:=.int O) (show Cq _ ((0:Nat):Int)=_ from Cs rfl) ?_;left;refine Cd (SqL.of ad) ?_;left;refine⟨_,_,rfl,?_⟩;obtain⟨Z,hm,af,an⟩:∃Z:Int,(if ((U.length:Nat):Int)<3 then ((U.length:Nat):Int) else 3)=Z/\0<Z/\Z<=(U.length:Nat):=⟨_,rfl,by split <;> lia,by split <;> lia⟩;rw[hm];refine s_rI af ?_;left;refine⟨Bl,λa8 h8=>?_⟩;left;have b0:=Qe (O / 8) (show Z≠0 by lia);have b1:=Qi (O / 8) af;refine hY _ _ ⟨.ref a8,("row",.int ((U.length:Nat)-1-O / 8 % Z)),rfl,Same.upd h8,⟨rfl,a8,rfl,SqT.of Ac⟩,.inr (.inr ⟨rfl,((U.length:Nat)-1-O / 8 % Z).toNat,?_,by lia⟩)⟩;show V.int _=V.int _;rw[Wr (by lia)]
def Zhp:Sp:=λvs H Q _=>∃c:Int,vs=[.int c]/\∀z:Int,Q (.int z) H
def Zng:Bc ["_law_cell_here"] ["_law_cell_here"] (A7 Mv):=by walk_at "sc"
def Zr2 (F:Fu K "_law_number" Mv f fd)(T:Txt K mg):FnOk P w K mg base As 1 f fd ["_law_cell_here"] Zhp:=by
 refine F.okq Zng (λvs H Q E h=>?_) (λO A outer s H vs Q E I h=>?_)
 ·obtain⟨c,rfl,_⟩:=h;rfl
 ·obtain⟨c,rfl,q⟩:=h;refine⟨_,Ab (Ay (Bk K I (Ae Be Ad Aa) Aa) (Ao (Ae Be (Ae Cf Ad Aa) Aa)) A2)
   (Ab (Ay (Bk K I (Ae Be Ad Aa) Aa) (Ao (Ae Du (Ae Du (Ae Kv Aa Aa) Aa) (Ae Be (Ae Cf Ad Aa) Aa))) A2) (Ao (Ae Be (Ae E6 Ad Aa) (Ae Kv Aa Aa)))),?_⟩
  left;refine Bf (λh=>?_) (λh=>?_)
  ·left;exact q _
  left;refine Bf (λh=>?_) (λh=>?_)
  ·left;exact q _
  left;exact q _
def Zf5 {n:Int}(h0:0<=n)(h1:n<10 ^ 18):(Qx (toString n)).length<=19:=by
 have e:=PySem.int_text_length_le10 (a:=n) (k:=18) (by decide) (by lia);rw[Str.ofString_eq_toList];show((toString n).toList.map Char.toNat).toArray.size<=19;rw[Po,Pq,String.length_toList];exact e
def Zfm {n:Int}(h0:0<=n)(h1:n<10 ^ 18):n.natAbs.log2<1920:=by
 by_cases z:n.natAbs=0
 ·rw[z];decide
 ·rw[Nat.log2_lt z];have:n.natAbs<10 ^ 18:=by lia
  exact Qb this (by right)
def Zag (h1:H a=some (.tup [.str wd,nv,.ref p]))(h2:H p=some (.tup []))(hf:Db nv=true):TrAt K H (.ref a) (.mk wd (.flat nv) []):=.mk (SqT.of h1) (.inl ⟨hf,rfl⟩) (SqT.of h2) rfl λj v t e _=>by simp at e
def Zas (K:Pi):Sp:=λvs H Q _=>eX6 λ(c:Int)(ar pn:Addr)(so:Str)(ts:List Str)(m:Nat)=>vs=[.int c,.ref ar,.ref pn,.str so]/\BdAt K H ar m/\m<=1000/\H pn=some (.lst (ts.map V.str))/\ts.length=5/\∀v t H',Same H H'->TrAt K H' v t->Tf t->t.size<=2->Q v H'
def Zis:(["_law_name","_law_kind","_law_sort"]:List Str).Nodup:=by right
def sc_law_end:Bc ["_law_cell_here","_law_around","_law_names_here","_law_sort","_law_pick","_law_known"] pK (A7 Mb):=by walk_at "sc"
def Zvs (F:Fu K "_law_end" Mb f fd)(T:Txt K mg)(cR:A5 P w K mg base 1 "_law_number" ["_law_cell_here"] Zhp):FnOk P w K mg base As 2 f fd pK (Zas K):=by
 refine F.okq sc_law_end (λvs H Q E h=>?_) (λah A outer s H vs Q E hr h=>?_)
 ·obtain⟨c,ar,pn,so,ts,m,rfl,_⟩:=h;rfl
 ·obtain⟨c,ar,pn,so,ts,m,rfl,⟨bs,zs,eb,ae,lb⟩,hm,ag,af,q⟩:=h;refine⟨_,Ab (Ak 4 sc_law_end (Ae Be Ad Aa))
   (Ab (Ak 0 sc_law_end (Ae Cf Ad Aa)) (Ab (Zby (i:=5) (N:=["_law_name","_law_kind","_law_sort"]) (σ0:=Ge 2 [3]) rfl (Mg rfl (by right) (by right) (by right)) (Ep K Af) (Lf rfl (by rfl)) (λ_ _ _ _=>Za3 K (n:=2) rfl (Ha (Hf (i:=0) Zis rfl (Or.inl rfl)) (Ha (Hf (i:=1) Zis rfl (Or.inl rfl)) Zah))) (λ_ _ _ _=>Zqn (Bk K hr Af Av)) (λ_ _ _ _=>qv 0) sc_law_end.nd rfl (Or.inl rfl)) (Ab (Ay (Bt Ej A6 Aa) (Ao (Aj (Bd Am Fm (Aj Bm)))) A2) (Ab (Ay (QW.qt (D3 (Bt Ej A6 Aa) (D7 (Bt Gz (B0 K T.len (qv 5)) Aa)))) (Ao (Aj (Bd Am (Ai K (qv 5) (Ae Be Ad (B0 K T.len (qv 5)))) (Aj Bm)))) A2) (Ab (Ay (QW.qt (D3 (Bk K hr A6 Aa) (D7 (Bk K hr (Ae Be Ad Aa) Aa)))) (Ao (Aj (Bd Am (Ai K Av Aa) (Aj Bm)))) A2) (Ab (Ay (QW.qt (D3 (Bk K hr A6 Aa) (D7 (Bk K hr (Ae Be Ad Aa) Aa)))) (Ao (Aj (Bd Am (Ae (B5 K) Am (Ec Zj9 T.str (Aw (Ae Be (Ae Cf Ad Aa) Aa)))) (Aj Bm)))) A2) (Ab (Ay (Bk K hr A3 Am) (Ao (Aj (Bd Am (Fb K hr (Ae Be Ad Aa) Aa) (Aj Bm)))) A2) (Ab (Ay (Bk K hr A3 Am) (Ao (Aj (Bd Am (Ai K Av (Ae Be Ad Aa)) (Aj (Aw (Aj (Bd Am (Ai K Av (Ae Be (Ae Cf Ad Aa) Aa)) (Aj Bm)))))))) A2) (Ao (Aj (Bd Am (Az cR hr.m (Aw Ad)) (Aj Bm)))))))))))),?_⟩
  have bg:=big;left;refine .inl ⟨ar,rfl,⟨_,SqL.of eb⟩,λD hD=>?_⟩;refine Zbm (K:=K) (a:=ar) (xs:=bs) (Pv:=λi ys I H'=>eX3 λk0 k1 ks=>I=[k0,k1,some (.str so)]/\ys=R6 V.str ks/\ks.length<=i/\Same H H') ⟨none,none,[],rfl,rfl,Qo _,Same.upd hD⟩ (λi ys I H' _ ⟨_,_,_,_,_,_,s'⟩=>SqL.of (s' _ _ eb)) ?_ ?_
  ·rintro i y ys I H2 hy Z ⟨k0,k1,ks,rfl,rfl,lk,s2⟩;obtain⟨z,hz,a,rfl,qa⟩:=ae.get hy;refine Dv (s2.tup qa) rfl ?_;left;refine Bf (λ_=>?_) (λ_=>?_)
   ·left;have ad:(ks.map V.str).length<sizeLine:=by
     have:=(Pt.mp hy).1;rw[Pq];lia
    refine⟨_,Z,ad,_,Ac,_,_,ks++[z.1],rfl,by rw[Ql];rfl,by rw[Pn,Pz];lia,s2.over hD⟩
   ·exact⟨_,Z,_,_,ks,rfl,rfl,by lia,s2⟩
  ·rintro ys I H2 Z ⟨k0,k1,ks,rfl,rfl,lk,s2⟩;have U:∀(wd:Str)(nv:V)(H1:Hp),Same H H1->Db nv=true->Dg wd (.flat nv) 0->∀O,H1 O=none->∀a1,upd H1 O (.tup []) a1=none->Q (.ref a1) (upd (upd H1 O (.tup [])) a1 (.tup [.str wd,nv,.ref O])):=λwd nv H1 s1 hf hw O h0 a1 h1=>by
    have x0:=Same.upd (o:=.tup []) h0;have x1:=Same.upd (o:=.tup [.str wd,nv,.ref O]) h1;exact q _ _ _ (s1.trans (x0.trans x1)) (Zag Ac (x1 _ _ Ac) hf) (Za7 hw) (by simp[Tr.size,Bv])
   have ac:=s2 _ _ ag;have nm:∀i:Int,0<=i->i<5->∃x:Str,Cq (ts.map V.str) i=some (.str x):=λi h0 h1=>by
    obtain⟨v,hv,hm⟩:=Ma (xs:=ts.map V.str) h0 (by rw[Pq,af];exact h1);obtain⟨x,_,rfl⟩:=Rr.mp hm;exact⟨x,hv⟩
   left;refine Bf (λ_=>?_) (λ_=>?_)
   ·left;refine⟨Bj,λO h0=>?_⟩;left;refine⟨Bs,λa1 h1=>?_⟩;exact U "gap" .non H2 s2 rfl Zic O h0 a1 h1
   ·refine s_next ?_;with_reducible refine s_seq ?_
    refine Cu (t:=Cm _ _ _) (R:=λI H'=>I=[some (.int (c / 8)),some (.ref ar),some (.ref pn),some (.str so),some (.int (c % 8)),some (.ref D)]/\H2=H') ?_ ?_;rotate_left
    ·intro Y hY;have go:=hY _ _ ⟨rfl,rfl⟩;left;refine Bf (λ_=>?_) (λ_=>?_)
     ·left;refine Cd (SqL.of Z) ?_;left;refine Bf (λh=>?_) (λ_=>go);have h:(0:Int)<((ks.map V.str).length:Nat):=dJ h;left;refine Cd (SqL.of Z) ?_;refine s_rI h ?_;obtain⟨v,hv,hm⟩:=Ma (xs:=ks.map V.str) (i:=c / 8 % (((ks.map V.str).length:Nat):Int)) (Qe _ (by lia)) (Qi _ h);obtain⟨x,_,rfl⟩:=Rr.mp hm;refine Br (SqL.of Z) hv ?_;left;refine⟨Bj,λO h0=>?_⟩;left;refine⟨Bs,λa1 h1=>?_⟩;exact U "name" (.str x) H2 s2 rfl O9 O h0 a1 h1
     ·exact go
    ·rintro _ _ ⟨rfl,rfl⟩;with_reducible refine s_seq ?_
     refine Cu (t:=Cm _ _ _) (R:=λI H'=>I=[some (.int (c / 8)),some (.ref ar),some (.ref pn),some (.str so),some (.int (c % 8)),some (.ref D)]/\H2=H') ?_ ?_;rotate_left
     ·intro Y hY;have go:=hY _ _ ⟨rfl,rfl⟩;left;refine Bf (λ_=>?_) (λ_=>?_)
      ·left;refine Bf (λh=>?_) (λ_=>go);obtain⟨x,hx⟩:=nm 4 (by decide) (by decide);left;refine Br (SqL.of ac) hx ?_;left;refine⟨Bj,λO h0=>?_⟩;left;refine⟨Bs,λa1 h1=>?_⟩;exact U "name" (.str x) H2 s2 rfl O9 O h0 a1 h1
      ·exact go
     ·rintro _ _ ⟨rfl,rfl⟩;with_reducible refine s_seq ?_
      refine Cu (t:=Cm _ _ _) (R:=λI H'=>I=[some (.int (c / 8)),some (.ref ar),some (.ref pn),some (.str so),some (.int (c % 8)),some (.ref D)]/\H2=H') ?_ ?_;rotate_left
      ·intro Y hY;have go:=hY _ _ ⟨rfl,rfl⟩;left;refine Bf (λ_=>?_) (λ_=>?_)
       ·left;refine Bf (λh=>?_) (λ_=>go);left;have o0:0<=c / 8 / 3 % 1000:=Qe _ (by decide);have o1:c / 8 / 3 % 1000<10 ^ 18:=Int.lt_of_lt_of_le (Qi _ (by decide)) (by decide);refine Zi8 (Zfm o0 o1) ?_;have h3:(Qx "=").length=1:=by right
        refine Za9 (by rw[h3];have:=Zf5 o0 o1;lia) ?_;left;refine⟨Bj,λO h0=>?_⟩;left;refine⟨Bs,λa1 h1=>?_⟩;exact U "odd" _ H2 s2 rfl Zf2 O h0 a1 h1
       ·exact go
      ·rintro _ _ ⟨rfl,rfl⟩;left;refine Bf (λ_=>?_) (λ_=>?_)
       ·left;refine⟨Bj,λO h0=>?_⟩;left;refine⟨Bs,λa1 h1=>?_⟩;exact U "truth" _ H2 s2 rfl Zhw O h0 a1 h1
       ·left;refine Bf (λ_=>?_) (λ_=>?_)
        ·obtain⟨x,hx⟩:=nm (c / 8 % 4) (Qe _ (by decide)) (by lia);obtain⟨y,hy⟩:=nm (c / 8 / 4 % 5) (Qe _ (by decide)) (by lia);left;refine Br (SqL.of ac) hx ?_;left;refine Br (SqL.of ac) hy ?_;left;refine⟨Bj,λO h0=>?_⟩;have x0:=Same.upd (o:=.tup []) h0;left;refine⟨Bs,λa1 h1=>?_⟩;have x1:=Same.upd (o:=.tup [.str "name",.str y,.ref O]) h1;left;refine⟨Dl,λa2 h2=>?_⟩;have x2:=Same.upd (o:=.tup [.ref a1]) h2;left;refine⟨Bs,λa3 h3=>?_⟩;have x3:=Same.upd (o:=.tup [.str "fn",.str x,.ref a2]) h3;have aa:=x2.trans x3;refine q _ _ _ (s2.trans (x0.trans (x1.trans aa))) (.mk (SqT.of Ac) (.inl ⟨rfl,rfl⟩) (SqT.of (x3 _ _ Ac)) (ts:=[.mk "name" (.flat (.str y)) []]) rfl λj v t e1 e2=>?_) (.mk w_fn λt ht=>?_) (by simp[Tr.size,Bv])
         ·match j,e1,e2 with
          |0,e1,e2 =>
           cases e1;cases e2;exact Zag (aa _ _ Ac) ((x1.trans aa) _ _ Ac) rfl
         ·rw[P8.mp ht];exact Za7 O9
        ·left;refine⟨_,rfl,λz=>?_⟩;left;refine⟨Bj,λO h0=>?_⟩;left;refine⟨Bs,λa1 h1=>?_⟩;exact U "num" _ H2 s2 rfl Zfl O h0 a1 h1
noncomputable def W13:List Str:=["gap","num","name","truth","odd","plus","minus","less","call","if","fn","rec","let"]
noncomputable def WV:List V:=[.str "gap",.str "num",.str "name",.str "truth",.str "odd",.str "plus",.str "minus",.str "less",.str "call",.str "if",.str "fn",.str "rec",.str "let"]
noncomputable def N9:List V:=[.int 0,.int 2,.int 2,.int 2,.int 2,.int 3,.int 1,.int 1,.int 2]
def Zou:eX2 λ(j:Nat)(wd:Str)=>j<13/\W13[j]?=some wd/\Cq (W13.map V.str) (z % 13)=some (.str wd)/\(z=0->j=0):=by
 have h0:=Qe z (show(13:Int)≠0 by decide);have h1:=Qi z (show(0:Int)<13 by decide);obtain⟨j,I⟩:∃j:Nat,z % 13=(j:Nat):=⟨(z % 13).toNat,by lia⟩;have hl:j<W13.length:=by show j<13;lia
 refine⟨j,W13[j],by lia,Pk hl,?_,λe=>by rw[e]at I;lia⟩;rw[I];exact Cs (by rw[Qm,Pk hl];rfl)
def Zsm:eX2 λ(j:Nat)(wd:Str)=>j<5/\W13[j]?=some wd/\Cq (W13.map V.str) (z % 5)=some (.str wd)/\(z=0->j=0):=by
 have h0:=Qe z (show(5:Int)≠0 by decide);have h1:=Qi z (show(0:Int)<5 by decide);obtain⟨j,I⟩:∃j:Nat,z % 5=(j:Nat):=⟨(z % 5).toNat,by lia⟩;have hl:j<W13.length:=by show j<13;lia
 refine⟨j,W13[j],by lia,Pk hl,?_,λe=>by rw[e]at I;lia⟩;rw[I];exact Cs (by rw[Qm,Pk hl];rfl)
def Zvd:∀(j:Nat)(wd:Str),j<13->W13[j]?=some wd->∀m<j,W13[m]?≠some wd:=by
 intro j wd O h m I;have all:(P7 13).all (λj=>(P7 j).all λm=>decide (W13[m]?≠W13[j]?))=true:=by right
 have h1:=Sg.mp all j (V0.mpr O);have h2:=dJ (Sg.mp h1 m (V0.mpr I));rw[<- h];exact h2
def Zp1 {j:Nat}{wd:Str}(hj:j<13)(h:W13[j]?=some wd)(h4:wd≠"num"/\wd≠"truth"/\wd≠"name"/\wd≠"odd"):∃k:Nat,Cq N9 (if (0:Int)<((j:Nat):Int)-4 then ((j:Nat):Int)-4 else 0)=some (.int (k:Nat))/\G5 wd=some k/\k<=3/\(j<5->k=0):=by
 have:j=0\/j=1\/j=2\/j=3\/j=4\/j=5\/j=6\/j=7\/j=8\/j=9\/j=10\/j=11\/j=12:=by lia
 have no:∀w:Str,W13[j]?=some w->(w="num"\/w="truth"\/w="name"\/w="odd")->False:=λw e I=>by
  rw[h]at e;injection e with e;subst e;rcases I with e|e|e|e
  ·exact h4.1 e
  ·exact h4.2.1 e
  ·exact h4.2.2.1 e
  ·exact h4.2.2.2 e
 rcases this with rfl|rfl|rfl|rfl|rfl|rfl|rfl|rfl|rfl|rfl|rfl|rfl|rfl
 ·cases h;exact⟨0,rfl,by right,by decide,λ_=>rfl⟩
 ·exact(no _ rfl (.inl rfl)).elim
 ·exact(no _ rfl (.inr (.inr (.inl rfl)))).elim
 ·exact(no _ rfl (.inr (.inl rfl))).elim
 ·exact(no _ rfl (.inr (.inr (.inr rfl)))).elim
 ·cases h;exact⟨2,rfl,by right,by decide,λh=>absurd h (by decide)⟩
 ·cases h;exact⟨2,rfl,by right,by decide,λh=>absurd h (by decide)⟩
 ·cases h;exact⟨2,rfl,by right,by decide,λh=>absurd h (by decide)⟩
 ·cases h;exact⟨2,rfl,by right,by decide,λh=>absurd h (by decide)⟩
 ·cases h;exact⟨3,rfl,by right,by decide,λh=>absurd h (by decide)⟩
 ·cases h;exact⟨1,rfl,by right,by decide,λh=>absurd h (by decide)⟩
 ·cases h;exact⟨1,rfl,by right,by decide,λh=>absurd h (by decide)⟩
 ·cases h;exact⟨2,rfl,by right,by decide,λh=>absurd h (by decide)⟩
def _root_.L2.Same.r (e:Same H H')(a:Addr):SameR a H H':=λb o _ h=>e b o h
def SameR.trans (x:SameR a H H1)(y:SameR a H1 H2):SameR a H H2:=λb o n h=>y b o n (x b o n h)
def SameR.over (x:SameR a H H1)(h:H p=none):SameR a H (upd H1 p o):=λb o' n hb=>by
 have:b≠p:=λz=>by rw[z,h]at hb;cases hb
 rw[Ah this];exact x b o' n hb
def SameR.t (x:SameR a H H')(h:H a=some (.lst xs)):SameT H H':=λb=>by
 exact⟨λxs hb=>x b _ (λz=>by rw[z,h]at hb;cases hb) hb,λo u hb=>x b _ (λz=>by rw[z,h]at hb;cases hb) hb⟩
def SameR.free (e:SameR a H H')(n:x≠a)(h:H' x=none):H x=none:=by
 cases q:H x with
 |none=>rfl
 |some o=>rw[e x o n q]at h;cases h
inductive AnyJ (K:Pi)(a pn pp:Addr)(ts:List Str)(n1:Nat)(H H5:Hp)(st:Option V->St)(i:Nat)(σ:St)(H':Hp):Prop
 |mk (vk:Option V) (pv:List V) (pt:List Tr) (cs2:List Int) (_:σ=st vk) (_:H' pp=some (.lst pv)) (_:Al (TrAt K H') pv pt) (_:∀t∈pt,Tf t) (_:pt.length=i) (_:H' a=some (.lst (cs2.map V.int))) (_:cs2.length<=n1) (_:Bv pt+3*cs2.length<=i+3*n1) (_:SameR a H H') (_:SameT H5 H') (_:H' pn=some (.lst (ts.map V.str)))
def Hj (K:Pi)(n:Nat):Sp:=λvs H Q _=>eX5 λ(a pn:Addr)(ts:List Str)(cs:List Int)(dp:Nat)=>vs=[.ref a,.ref pn,.int (dp:Nat)]/\dp<n/\H a=some (.lst (cs.map V.int))/\cs.length<=63/\H pn=some (.lst (ts.map V.str))/\pn≠a/\ts.length=5 /\
 ∀(v:V)(t:Tr)(H':Hp)(cs':List Int),SameR a H H'->H' a=some (.lst (cs'.map V.int))->cs'.length<=cs.length->TrAt K H' v t->Tf t->t.size+3*cs'.length<=1+3*cs.length->Q v H'
def E8:Bc ["_law_cells","_law_names_here","_law_deep","_law_cell_here","_law_rest","_law_some","_law_word","_law_note","_law_many","_law_parts","_law_k"] pF (A7 Ir):=by walk_at "sc"
def Zr6 (F:Fu K "_law_any" Ir f fd)(T:Txt K mg)(kK:A5 P w K mg base (n+1) "_law_any" ["_law_cells","_law_names_here","_law_deep"] (Hj K n)):FnOk P w K mg base As (n+2) f fd pF (Hj K (n+1)):=by
 refine F.okq E8 (λvs H Q E h=>?_) (λcg A outer s H vs Q E hr h=>?_)
 ·obtain⟨a,pn,ts,cs,dp,rfl,_⟩:=h;rfl
 ·obtain⟨a,pn,ts,cs,dp,rfl,cf,ea,lc,b3,au,lt,q⟩:=h;refine⟨_,Ab (Ak 3 E8 Aa)
   (Ab (Ay (Bt Gz (B0 K T.len Ad) Aa) (A4 (Ak 3 E8 (Ot K Pw Ue Uf Ol Ad))) A2) (Ab (Ak 4 E8 (Ae Cf A3 Aa)) (Ab (Ak 5 E8 (Bp (Hw (xs:=[.str "gap",.str "num",.str "name",.str "truth",.str "odd",.str "plus",.str "minus",.str "less",.str "call",.str "if",.str "fn",.str "rec",.str "let"]) rfl))) (Ab (Ak 6 E8 (Ai K (qv 5) (Ae Be A3 Aa))) (Ab (Ay (Bk K hr Av Aa) (A4 (Ak 6 E8 (Ai K (qv 5) (Ae Be A3 Aa)))) A2) (Ab (Ay (Bk K hr (qv 6) Am) (Ao (Aj (Bd (qv 6) (Ae Be A6 (Ae Kv Aa Aa)) (Aj Bm)))) A2) (Ab (Ay (Bk K hr (qv 6) Am) (Ao (Aj (Bd (qv 6) (Fb K hr (Ae Be A6 Aa) Aa) (Aj Bm)))) A2) (Ab (Ay (Bk K hr (qv 6) Am) (Ao (Aj (Bd (qv 6) (Ai K Af (Ae Be A6 (B0 K T.len Af))) (Aj Bm)))) A2) (Ab (Ay (Bk K hr (qv 6) Am) (Ao (Aj (Bd (qv 6) (Ae (B5 K) Am (Ec Zj9 T.str (Aw (Ae Be A6 (Ae Kv Aa Aa))))) (Aj Bm)))) A2) (Ab (Ak 7 E8 Fm) (Ab (Ay (QW.qt (C9 (Bk K hr (qv 6) Am) (Dm (Bk K hr (qv 6) Am)))) (A4 (Ak 7 E8 (Ai K Af (Ae Be A6 (B0 K T.len Af))))) A2) (Ab (Ay (Bk K hr (qv 6) Am) (A4 (Ak 7 E8 (Aj (Ag (Ai K Af (Ae Be A6 (B0 K T.len Af))) (Ai K Af (Ae Be (Ae Cf A6 (B0 K T.len Af)) (B0 K T.len Af))))))) A2) (Ab (Ak 8 E8 (Ai K (Bp (Hw (xs:=[.int 0,.int 2,.int 2,.int 2,.int 2,.int 3,.int 1,.int 1,.int 2]) rfl)) (B4 (Zoi rfl) T.max (Ag Aa (Ae Du (Cn K Pw PySem.F.slot_list_index PySem.F.type_list_index (Zrh K) (qv 5) (Aw (qv 6))) Aa))))) (Ab (Ak 9 E8 (Bp Bm)) (Ab (Dk Qj rfl (Gk rfl T.range (Aw (qv 8))) (C7 10 E8) (A4 (B2 (Cn K Pw Qf Qg Cy (qv 9) (Aw (Az kK (hr.mono (by lia)) (Bd Ad Af (Ae Du Av Aa)))))))) (Ao (Aj (Bd (qv 6) (qv 7) (Ec (Zjl K) T.tuple (Aw (qv 9))))))))))))))))))))),?_⟩
  have bg:=big;have nm:∀i:Int,0<=i->i<5->∃x:Str,Cq (ts.map V.str) i=some (.str x):=λi h0 h1=>by
   obtain⟨v,hv,hm⟩:=Ma (xs:=ts.map V.str) h0 (by rw[Pq,lt];exact h1);obtain⟨x,_,rfl⟩:=Rr.mp hm;exact⟨x,hv⟩
  have ac:((ts.map V.str).length:Int)=5:=by rw[Pq,lt];rfl
  walk_at "r1";walk_at "r1";walk_at "r1";refine s_gname ?_;with_reducible refine s_seq ?_
  refine Cu (t:=Cm _ _ _) (R:=λU H'=>eX2 λ(z:Int)(Z:List Int)=>U=[some (.ref a),some (.ref pn),some (.int (dp:Nat)),some (.int z),none,none,none,none,none,none,none]/\SameR a H H'/\H' a=some (.lst (Z.map V.int))/\((Z.length+1=cs.length)\/(Z.length=cs.length/\z=0))) ?_ ?_;rotate_left
  ·intro Y hY;left;refine Cd (SqL.of ea) ?_;left;refine Bf (λh=>?_) (λ_=>?_)
   ·have h:(0:Int)<((cs.map V.int).length:Nat):=dJ h;rcases List.eq_nil_or_concat cs with e|⟨b7,z,e⟩
    ·rw[e]at h;exact absurd h (by decide)
    ·rw[List.concat_eq_append]at e;subst e;rw[Ql]at ea;left;refine B7 (SqL.of ea) ?_;refine Ms ea ?_;exact hY _ _ ⟨z,b7,rfl,λb o nb hb=>by rw[Ah nb];exact hb,Ac,.inl (by simp)⟩
   ·exact hY _ _ ⟨0,cs,rfl,λb o _ hb=>hb,ea,.inr ⟨rfl,rfl⟩⟩
  rintro _ H1 ⟨z,Z,rfl,r1,e1,bt⟩;have bo:=r1 _ _ au b3;left;refine⟨sz13,λps an=>?_⟩;have s2:=Same.upd (o:=.lst WV) an;have e2:upd H1 ps (.lst WV) ps=some (.lst WV):=Ac;have a5:ps≠a:=λx=>by rw[x,e1]at an;cases an
  have ce:H ps=none:=r1.free a5 an;have r2:=r1.trans (s2.r a);have aj:=s2 _ _ e1;have I:=s2 _ _ bo;revert s2 e2 r2 aj I;unfold WV;generalize upd H1 ps _=H2;intro s2 e2 r2 aj I;have e2:H2 ps=some (.lst (W13.map V.str)):=e2;obtain⟨j0,bu,bn,bj,bf,a8⟩:=Zou (z:=z);left;refine Br (SqL.of e2) bf ?_;refine s_gname ?_;with_reducible refine s_seq ?_
  refine Cu (t:=Cm _ _ _) (R:=λU H'=>eX2 λ(j:Nat)(wd:Str)=>U=[some (.ref a),some (.ref pn),some (.int (dp:Nat)),some (.int z),some (.int (z / 13)),some (.ref ps),some (.str wd),none,none,none,none]/\H2=H'/\j<13/\W13[j]?=some wd/\(z=0->j=0)/\(dp=0->j<5)) ?_ ?_;rotate_left
  ·intro Y hY;left;refine Bf (λh=>?_) (λh=>?_)
   ·obtain⟨j,wd,h1,h2,h3,h4⟩:=Zsm (z:=z);left;refine Br (SqL.of e2) h3 ?_;exact hY _ _ ⟨j,wd,rfl,rfl,by lia,h2,h4,λ_=>h1⟩
   ·exact hY _ _ ⟨j0,bu,rfl,rfl,bn,bj,a8,λe=>absurd (dH (show V.int ((dp:Nat):Int)=.int 0 by rw[e];rfl)) h⟩
  rintro _ _ ⟨j,wd,rfl,rfl,hj,hw,bq,b0⟩;clear bj bf a8 bn;have leaf:∀(O:V)(H3:Hp),Same H2 H3->Db O=true->Dg wd (.flat O) 0->∀a0,H3 a0=none->∀a1,upd H3 a0 (.tup []) a1=none->Q (.ref a1) (upd (upd H3 a0 (.tup [])) a1 (.tup [.str wd,O,.ref a0])):=λO H3 s3 hf av a0 h0 a1 h1=>by
   have x0:=Same.upd (o:=.tup []) h0;have x1:=Same.upd (o:=.tup [.str wd,O,.ref a0]) h1;have x:=s3.trans (x0.trans x1);exact q _ _ _ Z (r2.trans (x.r a)) (x _ _ aj) (by lia) (Zag Ac (x1 _ _ Ac) hf) (Za7 av) (by rw[show(Tr.mk wd (.flat O) []).size=1 by simp[Tr.size,Bv]];lia)
  have a9:(10:Int) ^ Int.toNat 18=1000000000000000000:=by decide
  left;rw[Bu];refine Bf (λh=>?_) (λad=>?_)
  ·have h:=dJ h;left;rw[a9];generalize z / 13 % 1000000000000000000=i;refine⟨Bj,λa0 h0=>?_⟩;left;refine⟨Bs,λa1 h1=>?_⟩;exact leaf (.int i) H2 (Same.refl _) rfl (by rw[h];exact Zfl) a0 h0 a1 h1
  left;rw[Bu];refine Bf (λh=>?_) (λaf=>?_)
  ·have h:=dJ h;left;refine⟨Bj,λa0 h0=>?_⟩;left;refine⟨Bs,λa1 h1=>?_⟩;exact leaf (.bl _) H2 (Same.refl _) rfl (by rw[h];exact Zhw) a0 h0 a1 h1
  left;rw[Bu];refine Bf (λh=>?_) (λbb=>?_)
  ·have h:=dJ h;left;refine Cd (SqL.of I) ?_;rw[ac];refine s_rI (by decide) ?_;obtain⟨x,hx⟩:=nm (z / 13 % 5) (Qe _ (by decide)) (Qi _ (by decide));refine Br (SqL.of I) hx ?_;left;refine⟨Bj,λa0 h0=>?_⟩;left;refine⟨Bs,λa1 h1=>?_⟩;exact leaf (.str x) H2 (Same.refl _) rfl (by rw[h];exact O9) a0 h0 a1 h1
  left;rw[Bu];refine Bf (λh=>?_) (λa7=>?_)
  ·have h:=dJ h;left;rw[a9];have o0:0<=z / 13 % 1000000000000000000:=Qe _ (by decide);have o1:z / 13 % 1000000000000000000<10 ^ 18:=Int.lt_of_lt_of_le (Qi _ (by decide)) (by decide);revert o0 o1;generalize z / 13 % 1000000000000000000=i;intro o0 o1;refine Zi8 (Zfm o0 o1) ?_;have h3:(Qx "=").length=1:=by right
   refine Za9 (by rw[h3];have:=Zf5 o0 o1;lia) ?_;left;refine⟨Bj,λa0 h0=>?_⟩;left;refine⟨Bs,λa1 h1=>?_⟩;exact leaf (.str _) H2 (Same.refl _) rfl (by rw[h];exact Zf2) a0 h0 a1 h1
  have h4:wd≠"num"/\wd≠"truth"/\wd≠"name"/\wd≠"odd":=⟨λx=>ad (dH x),λx=>af (dH x),λx=>bb (dH x),λx=>a7 (dH x)⟩;clear ad af bb a7 leaf;obtain⟨k,hk,aq,k3,bi⟩:=Zp1 hj hw h4;walk_at "r1";walk_at "r1";walk_at "r1";walk_at "r1";refine s_gname ?_;obtain⟨x0,ay⟩:=nm (z / 13 % 5) (Qe _ (by decide)) (Qi _ (by decide));obtain⟨x1,b8⟩:=nm (z / 13 / 5 % 5) (Qe _ (by decide)) (Qi _ (by decide));with_reducible refine s_seq ?_
  refine Cu (t:=Cm _ _ _) (R:=λU H'=>∃O:V,U=[some (.ref a),some (.ref pn),some (.int (dp:Nat)),some (.int z),some (.int (z / 13)),some (.ref ps),some (.str wd),some O,none,none,none]/\H2=H'/\((wd="fn"\/wd="let")->O=.str x0)/\(¬(wd="fn"\/wd="let")->O=.non)) ?_ ?_;rotate_left
  ·intro Y hY;left;rw[Bu];refine Bf (λh=>?_) (λh1=>?_)
   ·left;refine Cd (SqL.of I) ?_;rw[ac];refine s_rI (by decide) ?_;refine Br (SqL.of I) ay ?_;exact hY _ _ ⟨_,rfl,rfl,λ_=>rfl,λx=>absurd (.inl (dJ h)) x⟩
   left;rw[Bu];refine Bf (λh=>?_) (λh2=>?_)
   ·left;refine Cd (SqL.of I) ?_;rw[ac];refine s_rI (by decide) ?_;refine Br (SqL.of I) ay ?_;exact hY _ _ ⟨_,rfl,rfl,λ_=>rfl,λx=>absurd (.inr (dJ h)) x⟩
   ·exact hY _ _ ⟨_,rfl,rfl,λx=>x.elim (λx=>absurd (dH x) h1) (λx=>absurd (dH x) h2),λ_=>rfl⟩
  rintro _ _ ⟨O,rfl,rfl,ad,af⟩;with_reducible refine s_seq ?_
  refine Cu (t:=Cm _ _ _) (R:=λU H'=>eX2 λ(O:V)(d:Dt)=>U=[some (.ref a),some (.ref pn),some (.int (dp:Nat)),some (.int z),some (.int (z / 13)),some (.ref ps),some (.str wd),some O,none,none,none]/\Same H2 H'/\IsN K H' O d/\Dg wd d k) ?_ ?_;rotate_left
  ·intro Y hY;left;rw[Bu];refine Bf (λh=>?_) (λh1=>?_)
   ·have h:=dJ h;left;refine Cd (SqL.of I) ?_;rw[ac];refine s_rI (by decide) ?_;refine Br (SqL.of I) ay ?_;left;refine Cd (SqL.of I) ?_;rw[ac];refine s_rI ⟨by decide,by decide⟩ ?_;left;refine Cd (SqL.of I) ?_;rw[ac];refine s_rI (by decide) ?_;refine Br (SqL.of I) b8 ?_;left;refine⟨Bl,λa3 h3=>?_⟩;have s3:=Same.upd (o:=.tup [.str x0,.str x1]) h3;refine hY _ _ ⟨_,.tup [.flat (.str x0),.flat (.str x1)],rfl,s3,.inr ⟨a3,[.str x0,.str x1],rfl,SqT.of Ac,rfl,rfl⟩,?_⟩;have bv:k=1:=by rw[h,show G5 "rec"=some 1 by right]at aq;exact(Qh aq).symm
    rw[h,bv];exact Zih
   ·refine hY _ _ ⟨O,.flat O,rfl,Same.refl _,?_,Ic aq ⟨h4.1,h4.2.1,h4.2.2.1⟩ ?_⟩
    ·by_cases e:wd="fn"\/wd="let"
     ·rw[ad e];exact .inl ⟨rfl,rfl⟩
     ·rw[af e];exact .inl ⟨rfl,rfl⟩
    ·exact⟨λe=>⟨x0,by rw[ad e]⟩,λe=>absurd (dH e) h1⟩
  clear ad af O;rintro _ H3 ⟨O,d,rfl,s3,bp,av⟩;have e3:=s3 _ _ e2;have bx:=s3 _ _ aj;have ba:=s3 _ _ I;left;refine⟨sz9,λa4 br=>?_⟩;have s4:=Same.upd (o:=.lst N9) br;have e4:upd H3 a4 (.lst N9) a4=some (.lst N9):=Ac;have al:=s4 _ _ e3;revert s4 e4 al;unfold N9;generalize upd H3 a4 _=H4;intro s4 e4 al;left;refine B7 (SqL.of al) ?_;left;refine⟨ps,wd,W13,j,rfl,rfl,SqL.of al,hw,Zvd j wd hj hw,by decide,?_⟩;left;refine⟨_,_,rfl,?_⟩;refine Br (SqL.of e4) hk ?_;have b4:=s3.trans s4;have be:=s4 _ _ bx;have ap:=s4 _ _ ba;have bh:=bp.same s4.t;left;refine⟨Bj,λpp aa=>?_⟩;have s5:=Same.upd (o:=.lst []) aa;have e5:upd H4 pp (.lst []) pp=some (.lst []):=Ac;have ag:pp≠a:=λx=>by rw[x,be]at aa;cases aa
  have r4:=r2.trans (b4.r a);have a6:H pp=none:=r4.free ag aa;have r5:=r4.trans (s5.r a);have ax:=s5 _ _ be;have ah:=s5 _ _ ap;have ai:=bh.same s5.t;have b9:pn≠pp:=λx=>by rw[<- x,ap]at aa;cases aa
  revert s5 e5 r5 ax ah ai;generalize upd H4 pp (.lst [])=H5;intro s5 e5 r5 ax ah ai;left;refine⟨by lia,by lia,?_⟩;refine F8 (n:=((k:Nat):Int).toNat) (AnyJ K a pn pp ts Z.length H H5 λvk=>[some (.ref a),some (.ref pn),some (.int (dp:Nat)),some (.int z),some (.int (z / 13)),some (.ref ps),some (.str wd),some O,some (.int (k:Nat)),some (.ref pp),vk])
   ⟨_,[],[],Z,rfl,e5,.nil,(λt h=>nomatch h),rfl,ax,Pm _,by rw[Bv];lia,r5,(Same.refl H5).t,ah⟩ ?_ ?_
  ·rintro i U H6 hi ⟨vk,pv,pt,aw,rfl,e6,ao,as,l6,am,b5,z6,r6,t6,ae⟩;have ci:0<k:=by lia
   have cc:1<=dp:=by
    by_cases e:dp=0
    ·have:=bi (b0 e);lia
    ·lia
   obtain⟨dq,rfl⟩:∃dq,dp=dq+1:=⟨dp-1,by lia⟩;left;refine B7 (SqL.of e6) ?_;left;refine⟨a,pn,ts,aw,dq,by rw[show(((dq+1:Nat):Int)-1)=((dq:Nat):Int) by lia];rfl,by lia,am,by lia,ae,au,lt,λv t H7 ca r7 cb ch ht bw sz=>?_⟩;have e7:=r7 _ _ ag e6;left;refine Cz e7 (by have:=ao.1;lia) ?_;have t7:=r7.t am;have tp:=SameT.set (o:=.lst (pv++[v])) e7;have t8:=t7.trans tp;refine⟨_,pv++[v],pt++[t],ca,rfl,Ac,(ao.mono λ_ _ h=>h.sameT t8).snoc (ht.sameT tp),λx hx=>?_,by rw[Pn,Pz];lia,by rw[Ah ag.symm];exact cb,by lia,by rw[Zgd,Bv,Bv];lia,(r6.trans r7).over a6,t6.trans t8,by rw[Ah b9];exact r7 _ _ au ae⟩;rcases Q5.mp hx with hx|hx
   ·exact as x hx
   ·rw[P8.mp hx];exact bw
  ·rintro U H6 ⟨vk,pv,pt,aw,rfl,e6,ao,as,l6,am,b5,z6,r6,t6,ae⟩;left;refine Zi2 (SqL.of e6) λp7 h7=>?_;have s7:=Same.upd (o:=.tup pv) h7;left;refine⟨Bs,λp8 h8=>?_⟩;have s8:=Same.upd (o:=.tup [.str wd,O,.ref p7]) h8;have ak:=s7.trans s8;have b6:pt.length=k:=by lia
   refine q (.ref p8) (.mk wd d pt) _ aw (r6.trans (ak.r a)) (ak _ _ am) (by lia) (Zd3 Ac ((ai.same t6).same ak.t) (s8 _ _ Ac) (ao.mono λ_ _ h=>h.same ak)) (.mk (by rw[b6];exact av) as) ?_;rw[Tr.size];rcases bt with hc|⟨hc,hz⟩
   ·lia
   ·have:=bi (by rw[bq hz];decide);lia
def Zfy (c:Int):∃so:Str,Cq [V.str "num",.str "truth",.str "fun"] (c % 3)=some (.str so):=by
 rcases (show c % 3=0\/c % 3=1\/c % 3=2 by lia) with h|h|h <;> rw[h] <;> exact⟨_,rfl⟩
def Dx:Bc ["_law_cells","_law_around","_law_names_here","_law_room","_law_sort","_law_cell_here","_law_pick","_law_one","_law_rest","_law_name","_law_kind","_law_first","_law_other","_law_more","_law_word"] pA (A7 Jz):=by walk_at "sc"
def Zs8 (F:Fu K "_law_form" Jz f fd)(T:Txt K mg)(kD:A5 P w K mg base 1 "_law_mixed" ["_law_cell_here","_law_k"] Mx)(kR:A5 P w K mg base 2 "_law_end" ["_law_cell_here","_law_around","_law_names_here","_law_sort"] (Zas K))(kA:A5 P w K mg base (n+3) "_law_form" ["_law_cells","_law_around","_law_names_here","_law_room","_law_sort"] (Ho K n)):FnOk P w K mg base As (n+4) f fd pA (Ho K (n+1)):=by
 refine F.okq Dx (λvs H Q E h=>?_) (λbi A outer s H vs Q E hr h=>?_)
 ·obtain⟨a,ar,pn,ts,m,I,so,rfl,_⟩:=h;rfl
 ·obtain⟨a,ar,pn,ts,m,I,so,rfl,S0,hm,h1,hn,q⟩:=h;refine⟨_,Ab (Ak 5 Dx Aa)
   (Ab (Ay (Bt Gz (B0 K T.len Ad) Aa) (A4 (Ak 5 Dx (Ot K Pw Ue Uf Ol Ad))) A2) (Ab (Ak 6 Dx (Ae Be (qv 5) Aa)) (Ab (Ak 5 Dx (Az kD (hr.mono (by lia)) (Ag (qv 5) (B0 K T.len Ad)))) (Ab (Ay (Bk K hr (qv 6) Aa) (A4 (Ak 4 Dx (Ai K (Bp (Bd Am Am Am)) (Ae Be (qv 5) Aa)))) A2) (Ab (Ay (QW.qt (C9 (Bt Ej A3 Aa) (Dm (Bt Ej (qv 6) Aa)))) (Ao (Az kR (hr.mono (by lia)) (Dj (qv 5) Af Av A6))) A2) (Ab (Ak 7 Dx (Ae (B5 K) Aa (Ae Be (qv 5) (Ae Du A3 Aa)))) (Ab (Ak 8 Dx (Ae Du (Ae Du A3 Aa) (qv 7))) (Ab (Ak 9 Dx (Ai K Av (Ae Be (Ae Cf (qv 5) Aa) Aa))) (Ab (Ay (Bt Ej (qv 6) Aa) (Ab (Ak 10 Dx (Ai K (Bp (Bd Am Am Am)) (Ae Be (Ae Cf (qv 5) Aa) Aa))) (Ab (Ak 11 Dx (Az kA (hr.mono (by lia)) (Eu Ad Af Av (qv 7) (qv 10)))) (Ao (Aj (Bd Am (qv 9) (Aj (Ag (qv 11) (Az kA (hr.mono (by lia)) (Eu Ad (Ae (B5 K) Af (Bp (Aw (Aj (Ag (qv 9) (qv 10)))))) Av (qv 8) A6))))))))) A2) (Ab (Ay (Bt Ej (qv 6) Aa) (Ab (Ak 11 Dx (Az kA (hr.mono (by lia)) (Eu Ad Af Av (qv 7) Am))) (Ab (Ak 12 Dx (Az kA (hr.mono (by lia)) (Eu Ad Af Av (Ae Cf (Ae (B5 K) (qv 8) Aa) Aa) A6))) (Ao (Aj (Bd Am Fm (Aj (Bd (qv 11) (qv 12) (Az kA (hr.mono (by lia)) (Eu Ad Af Av (Ae Cf (Ae (B5 K) (qv 8) Aa) Aa) A6))))))))) A2) (Ab (Ay (QW.qt (D3 (Bk K hr A6 Am) (D7 (Bt Ej (qv 6) Aa)))) (Ao (Aj (Bd Am (qv 9) (Aj (Aw (Az kA (hr.mono (by lia)) (Eu Ad (Ae (B5 K) Af (Bp (Aw (Aj (Ag (qv 9) Am))))) Av (Ae Du A3 Aa) Am))))))) A2) (Ab (Ay (Bk K hr A6 Am) (Ab (Ak 13 Dx (Ae (B5 K) Af (Bp (Ag (Aj (Ag (Ai K Av (Ae Be (Ae Cf (qv 5) Aa) Aa)) Am)) (Aj (Ag (qv 9) Am)))))) (Ao (Aj (Bd Am (Aj (Ag (Ai K Av (Ae Be (Ae Cf (qv 5) Aa) Aa)) (qv 9))) (Aj (Aw (Az kA (hr.mono (by lia)) (Eu Ad (qv 13) Av (Ae Du A3 Aa) Am)))))))) A2) (Ab (Ay (QW.qt (D3 (Bk K hr A6 Am) (D7 (Bt Gz (qv 6) Aa)))) (Ab (Ak 11 Dx (Az kA (hr.mono (by lia)) (Eu Ad Af Av (qv 7) Am))) (Ao (Aj (Bd Am Fm (Aj (Ag (qv 11) (Az kA (hr.mono (by lia)) (Eu Ad Af Av (qv 8) Am)))))))) A2) (Ab (Ak 14 Dx Am) (Ab (Ay (Bk K hr A6 Am) (A4 (Ak 14 Dx (Ai K (Bp (Bd Am Am Am)) (Ae Du (qv 6) Aa)))) A2) (Ab (Ak 11 Dx (Az kA (hr.mono (by lia)) (Eu Ad Af Av (qv 7) Am))) (Ao (Aj (Bd (qv 14) Fm (Aj (Ag (qv 11) (Az kA (hr.mono (by lia)) (Eu Ad Af Av (qv 8) Am))))))))))))))))))))))),?_⟩
  have bg:=big;with_reducible refine s_seq ?_
  with_reducible refine s_asg ?_
  with_reducible refine s_c ?_
  refine s_gname ?_;with_reducible refine s_seq ?_
  refine Cu (t:=Cm _ _ _) (R:=λae H'=>∃z:Int,ae=[some (.ref a),some (.ref ar),some (.ref pn),some (.int (I:Nat)),some (.str so),some (.int z),none,none,none,none,none,none,none,none,none]/\FR a H H') ?_ ?_;rotate_left
  ·intro Y hY;obtain⟨cs,ea,lc⟩:=S0.e;left;refine Cd (SqL.of ea) ?_;left;refine Bf (λh=>?_) (λ_=>?_)
   ·have h:(0:Int)<((cs.map V.int).length:Nat):=dJ h;rcases List.eq_nil_or_concat cs with e|⟨a4,z,e⟩
    ·rw[e]at h;exact absurd h (by decide)
    ·rw[List.concat_eq_append]at e;subst e;rw[Ql]at ea;rw[Pn]at lc;left;refine B7 (SqL.of ea) ?_;refine Ms ea ?_;exact hY _ _ ⟨z,rfl,λb o nb hb=>by rw[Ah nb];exact hb,a4,Ac,by lia⟩
   ·exact hY _ _ ⟨0,rfl,FR.refl S0⟩
  ·rintro _ H1 ⟨z,rfl,r1⟩;have S1:=S0.step r1;obtain⟨bb,aw,bj⟩:=r1.e;left;refine Cd (SqL.of aw) ?_;left;refine⟨z,_,rfl,by lia,by rw[Pq];lia,λc _ _=>?_⟩;refine s_gname ?_;with_reducible refine s_seq ?_
   refine Cu (t:=Cm _ _ _) (R:=λae H'=>∃Z:Str,ae=[some (.ref a),some (.ref ar),some (.ref pn),some (.int (I:Nat)),some (.str Z),some (.int c),some (.int (z % 13)),none,none,none,none,none,none,none,none]/\FR a H H') ?_ ?_;rotate_left
   ·intro Y hY;left;refine Bf (λ_=>?_) (λ_=>?_)
    ·left;refine⟨Bs,λa2 h2=>?_⟩;obtain⟨Z,ay⟩:=Zfy c;left;refine Br (SqL.of Ac) ay ?_;exact hY _ _ ⟨Z,rfl,r1.put (Same.upd h2)⟩
    ·exact hY _ _ ⟨so,rfl,r1⟩
   ·rintro _ H2 ⟨Z,rfl,r2⟩;have S2:=S0.step r2;have av:∀H3 v t,FR a H2 H3->TrAt K H3 v t->Tf t->t.size<=2->Q v H3:=λH3 v t r3 ht tf hz=>q v t H3 (r2.trans r3) ht tf (by lia);have aj:Zas K [.int c,.ref ar,.ref pn,.str Z] H2 Q E0:=⟨c,ar,pn,Z,ts,m,rfl,S2.bd,by lia,S2.hp,S2.lt,λv t H3 s3 ht tf hz=>av H3 v t ((FR.refl S2).put s3) ht tf hz⟩;left;refine Bf (λ_=>?_) (λh3=>?_)
    ·left;exact aj
    have h3:3<=I:=by
     by_cases y:(I:Int)<3
     ·exact absurd (dH y) h3
     ·lia
    left;refine Bf (λ_=>?_) (λ_=>?_)
    ·left;exact aj
    left;refine s_rI (by show(0:Int)<(I:Int)-2;lia) ?_;left;obtain⟨k1,au,bp,bn⟩:∃k:Nat,1+c % ((I:Int)-2)=(k:Int)/\1<=k/\k+2<=I:=by
     have y0:=Qe c (show(I:Int)-2≠0 by lia);have y1:=Qi c (show(0:Int)<(I:Int)-2 by lia);exact⟨(1+c % ((I:Int)-2)).toNat,by lia,by lia,by lia⟩
    rw[au];obtain⟨k2,aq,bf⟩:∃k:Nat,(I:Int)-1-(k1:Int)=(k:Int)/\k1+k+1=I:=⟨I-1-k1,by lia,by lia⟩;rw[aq];obtain⟨x,hx⟩:=S2.nm (i:=c / 7 % 4) (Qe _ (by decide)) (by lia);refine Br (SqL.of S2.hp) hx ?_;left;refine Bf (λ_=>?_) (λ_=>?_)
    ·left;refine⟨Bs,λa3 h3=>?_⟩;obtain⟨ki,a0⟩:=Zfy (c / 3);have r3:=(FR.refl S2).put (Same.upd (o:=.lst [.str "num",.str "truth",.str "fun"]) h3);left;refine Br (SqL.of Ac) a0 ?_;revert r3;generalize upd H2 a3 (.lst [.str "num",.str "truth",.str "fun"])=H3;intro r3;left;refine⟨a,ar,pn,ts,m,k1,ki,rfl,S2.step r3,by lia,by lia,by lia,λv1 t1 H4 r4 ac ad z1=>?_⟩;have ao:=r3.trans r4;have S4:=S2.step ao;obtain⟨bs,zs,b1,b2,b3⟩:=S4.bd;left;refine⟨Bl,λU h5=>?_⟩;left;refine⟨Dl,λa6 h6=>?_⟩;have s5:=Same.upd (o:=.tup [.str x,.str ki]) h5;have s6:=Same.upd (o:=.lst [.ref U]) h6;have O:=s5.trans s6;have e5:=s6 _ _ (show upd H4 U (.tup [.str x,.str ki]) U=some (.tup [.str x,.str ki]) from Ac);have e6:upd (upd H4 U (.tup [.str x,.str ki])) a6 (.lst [.ref U]) a6=some (.lst [.ref U]):=Ac;revert O e5 e6;generalize upd (upd H4 U (.tup [.str x,.str ki])) a6 (.lst [.ref U])=H6;intro O e5 e6;refine Ig (O _ _ b1) e6 (by show bs.length+1<=sizeLine;lia) λa7 h7=>?_;have S7:=(S4.step ((FR.refl S4).put O)).more (O _ _ b1) (b2.mono (PrW.same O.t)) b3 (ms:=[.ref U]) (ws:=[(x,ki)]) (Al.nil.snoc ⟨U,rfl,SqT.of e5⟩) rfl h7;have ak:=((FR.refl S4).put O).put (Same.upd (o:=.lst (bs++[.ref U])) h7);revert S7 ak;generalize upd H6 a7 (.lst (bs++[.ref U]))=H7;intro S7 ak;left;refine⟨a,a7,pn,ts,m+1,k2,Z,rfl,S7,by lia,by lia,by lia,λv2 t2 H8 r8 af ah z2=>?_⟩;have am:=ak.trans r8;left;refine⟨Bl,λp9 h9=>?_⟩;left;refine⟨Bs,λb9 aa=>?_⟩;obtain⟨R,TR⟩:=laid (us:=[v1,v2]) (ts:=[t1,t2]) (wd:="let") (nv:=.str x) (n:=.flat (.str x)) (r2.trans (ao.trans am)) (.inl ⟨rfl,rfl⟩) ((Al.nil.snoc (ac.sameT (am.t S4.e))).snoc af) h9 aa;exact q _ _ _ R TR (Zai Zvy ad ah) (by rw[Zce];lia)
    obtain⟨kr,al,bh⟩:∃k:Nat,(I:Int)-1=(k:Int)/\k+1=I:=⟨I-1,by lia,by lia⟩;left;refine Bf (λ_=>?_) (λp7=>?_)
    ·left;refine⟨a,ar,pn,ts,m,k1,"truth",rfl,S2,by lia,by lia,by lia,λv1 t1 H4 r4 ac ad z1=>?_⟩;have S4:=S2.step r4;obtain⟨kh,an,be,bo⟩:∃k:Nat,((k2:Int)+1) / 2=(k:Int)/\1<=k/\2*k<=k2+1:=⟨(k2+1) / 2,by lia,by lia,by lia⟩;left;rw[an];refine⟨a,ar,pn,ts,m,kh,Z,rfl,S4,by lia,by lia,by lia,λv2 t2 H5 r5 af ah z2=>?_⟩;have S5:=S4.step r5;left;rw[an];refine⟨a,ar,pn,ts,m,kh,Z,rfl,S5,by lia,by lia,by lia,λv3 t3 H6 r6 ap as z3=>?_⟩;left;refine⟨Bs,λp9 h9=>?_⟩;left;refine⟨Bs,λb9 aa=>?_⟩;obtain⟨R,TR⟩:=laid (us:=[v1,v2,v3]) (ts:=[t1,t2,t3]) (wd:="if") (nv:=.non) (n:=.flat .non) (r2.trans (r4.trans (r5.trans r6))) (.inl ⟨rfl,rfl⟩) (((Al.nil.snoc (ac.sameT ((r5.trans r6).t S4.e))).snoc (af.sameT (r6.t S5.e))).snoc ap) h9 aa;exact q _ _ _ R TR (tf_3 w_if ad ah as) (by rw[sz_3];lia)
    have p7:7<=z % 13:=by
     by_cases y:z % 13<7
     ·exact absurd (dH y) p7
     ·lia
    refine s_next ?_;with_reducible refine s_seq ?_
    refine Cu (t:=Cm _ _ _) (R:=λae H'=>ae=[some (.ref a),some (.ref ar),some (.ref pn),some (.int (I:Nat)),some (.str Z),some (.int c),some (.int (z % 13)),some (.int (k1:Nat)),some (.int (k2:Nat)),some (.str x),none,none,none,none,none]/\H2=H') ?_ ?_;rotate_left
    ·intro Y hY;have go:=hY _ _ ⟨rfl,rfl⟩;left;refine Bf (λ_=>?_) (λ_=>?_)
     ·left;refine Bf (λ_=>?_) (λ_=>go);left;obtain⟨bs,zs,b1,b2,b3⟩:=S2.bd;refine⟨Bl,λU h5=>?_⟩;left;refine⟨Dl,λa6 h6=>?_⟩;have s5:=Same.upd (o:=.tup [.str x,.str "num"]) h5;have s6:=Same.upd (o:=.lst [.ref U]) h6;have O:=s5.trans s6;have e5:=s6 _ _ (show upd H2 U (.tup [.str x,.str "num"]) U=some (.tup [.str x,.str "num"]) from Ac);have e6:upd (upd H2 U (.tup [.str x,.str "num"])) a6 (.lst [.ref U]) a6=some (.lst [.ref U]):=Ac;revert O e5 e6;generalize upd (upd H2 U (.tup [.str x,.str "num"])) a6 (.lst [.ref U])=H6;intro O e5 e6;refine Ig (O _ _ b1) e6 (by show bs.length+1<=sizeLine;lia) λa7 h7=>?_;have S7:=(S2.step ((FR.refl S2).put O)).more (O _ _ b1) (b2.mono (PrW.same O.t)) b3 (ms:=[.ref U]) (ws:=[(x,"num")]) (Al.nil.snoc ⟨U,rfl,SqT.of e5⟩) rfl h7;have ag:=((FR.refl S2).put O).put (Same.upd (o:=.lst (bs++[.ref U])) h7);revert S7 ag;generalize upd H6 a7 (.lst (bs++[.ref U]))=H7;intro S7 ag;left;rw[al];refine⟨a,a7,pn,ts,m+1,kr,"num",rfl,S7,by lia,by lia,by lia,λv1 t1 H8 r8 ac ad z1=>?_⟩;left;refine⟨Dl,λp9 h9=>?_⟩;left;refine⟨Bs,λb9 aa=>?_⟩;obtain⟨R,TR⟩:=laid (us:=[v1]) (ts:=[t1]) (wd:="fn") (nv:=.str x) (n:=.flat (.str x)) (r2.trans (ag.trans r8)) (.inl ⟨rfl,rfl⟩) (Al.nil.snoc ac) h9 aa;exact q _ _ _ R TR (tf_1 w_fn ad) (by rw[sz_1];lia)
     ·exact go
    rintro _ _ ⟨rfl,rfl⟩;left;refine Bf (λ_=>?_) (λ_=>?_)
    ·obtain⟨bs,zs,b1,b2,b3⟩:=S2.bd;obtain⟨y,hy⟩:=S2.nm (i:=c / 28 % 4) (Qe _ (by decide)) (by lia);left;refine Br (SqL.of S2.hp) hy ?_;left;refine⟨Bl,λU h5=>?_⟩;left;refine⟨Bl,λa6 h6=>?_⟩;left;refine⟨Bl,λa7 h7=>?_⟩;have s5:=Same.upd (o:=.tup [.str y,.str "fun"]) h5;have s6:=Same.upd (o:=.tup [.str x,.str "num"]) h6;have s7:=Same.upd (o:=.lst [.ref U,.ref a6]) h7;have ax:=s5.trans (s6.trans s7);have e5:=(s6.trans s7) _ _ (show upd H2 U (.tup [.str y,.str "fun"]) U=some (.tup [.str y,.str "fun"]) from Ac);have e6:=s7 _ _ (show upd (upd H2 U (.tup [.str y,.str "fun"])) a6 (.tup [.str x,.str "num"]) a6=some (.tup [.str x,.str "num"]) from Ac);have e7:upd (upd (upd H2 U (.tup [.str y,.str "fun"])) a6 (.tup [.str x,.str "num"])) a7 (.lst [.ref U,.ref a6]) a7=some (.lst [.ref U,.ref a6]):=Ac;revert ax e5 e6 e7;generalize upd (upd (upd H2 U (.tup [.str y,.str "fun"])) a6 (.tup [.str x,.str "num"])) a7 (.lst [.ref U,.ref a6])=H6;intro O e5 e6 e7;refine Ig (O _ _ b1) e7 (by show bs.length+2<=sizeLine;lia) λa8 h8=>?_;have S7:=(S2.step ((FR.refl S2).put O)).more (O _ _ b1) (b2.mono (PrW.same O.t)) b3 (ms:=[.ref U,.ref a6]) (ws:=[(y,"fun"),(x,"num")]) ((Al.nil.snoc ⟨U,rfl,SqT.of e5⟩).snoc ⟨a6,rfl,SqT.of e6⟩) rfl h8;have ag:=((FR.refl S2).put O).put (Same.upd (o:=.lst (bs++[.ref U,.ref a6])) h8);revert S7 ag;generalize upd H6 a8 (.lst (bs++[.ref U,.ref a6]))=H7;intro S7 ag;left;refine Br (SqL.of S7.hp) hy ?_;left;refine⟨Bl,λa9 h9=>?_⟩;have s9:=Same.upd (o:=.tup [.str y,.str x]) h9;have e9:upd H7 a9 (.tup [.str y,.str x]) a9=some (.tup [.str y,.str x]):=Ac;have ai:=(FR.refl S7).put s9;revert ai e9;generalize upd H7 a9 (.tup [.str y,.str x])=H9;intro e9 ai;have S9:=S7.step ai;left;rw[al];refine⟨a,a8,pn,ts,m+2,kr,"num",rfl,S9,by lia,by lia,by lia,λv1 t1 H8 r8 ac ad z1=>?_⟩;left;refine⟨Dl,λp9 h9=>?_⟩;left;refine⟨Bs,λb9 aa=>?_⟩;obtain⟨R,TR⟩:=laid (us:=[v1]) (ts:=[t1]) (wd:="rec") (nv:=.ref a9) (n:=.tup [.flat (.str y),.flat (.str x)]) (r2.trans (ag.trans (ai.trans r8))) (.inr ⟨a9,[.str y,.str x],rfl,SqT.of (((r8.t S9.e) a9).1 _ e9),rfl,rfl⟩) (Al.nil.snoc ac) h9 aa;exact q _ _ _ R TR (tf_1 Zih ad) (by rw[sz_1];lia)
    refine s_next ?_;with_reducible refine s_seq ?_
    refine Cu (t:=Cm _ _ _) (R:=λae H'=>ae=[some (.ref a),some (.ref ar),some (.ref pn),some (.int (I:Nat)),some (.str Z),some (.int c),some (.int (z % 13)),some (.int (k1:Nat)),some (.int (k2:Nat)),some (.str x),none,none,none,none,none]/\H2=H'/\(Z="num" -> z % 13<=9)) ?_ ?_;rotate_left
    ·intro Y hY;left;rw[Bu];by_cases hs:Z="num"
     ·rw[dH hs];left;refine Bf (λ_=>?_) (λy=>?_)
      ·left;refine⟨a,ar,pn,ts,m,k1,"fun",rfl,S2,by lia,by lia,by lia,λv1 t1 H4 r4 ac ad z1=>?_⟩;have S4:=S2.step r4;left;refine⟨a,ar,pn,ts,m,k2,"num",rfl,S4,by lia,by lia,by lia,λv2 t2 H5 r5 af ah z2=>?_⟩;left;refine⟨Bl,λp9 h9=>?_⟩;left;refine⟨Bs,λb9 aa=>?_⟩;obtain⟨R,TR⟩:=laid (us:=[v1,v2]) (ts:=[t1,t2]) (wd:="call") (nv:=.non) (n:=.flat .non) (r2.trans (r4.trans r5)) (.inl ⟨rfl,rfl⟩) ((Al.nil.snoc (ac.sameT (r5.t S4.e))).snoc af) h9 aa;exact q _ _ _ R TR (Zai (Ze0 (by right)) ad ah) (by rw[Zce];lia)
      ·refine hY _ _ ⟨rfl,rfl,λ_=>?_⟩;by_cases y':9<z % 13
       ·exact absurd (dH y') y
       ·lia
     ·rw[dI hs];left;exact hY _ _ ⟨rfl,rfl,λh=>absurd h hs⟩
    rintro _ _ ⟨rfl,rfl,p9⟩;with_reducible refine s_seq ?_
    with_reducible refine s_asg ?_
    with_reducible refine s_c ?_
    refine s_gname ?_;with_reducible refine s_seq ?_
    refine Cu (t:=Cm _ _ _) (R:=λae H'=>∃wd:Str,ae=[some (.ref a),some (.ref ar),some (.ref pn),some (.int (I:Nat)),some (.str Z),some (.int c),some (.int (z % 13)),some (.int (k1:Nat)),some (.int (k2:Nat)),some (.str x),none,none,none,none,some (.str wd)]/\wd∈TWO/\FR a H2 H') ?_ ?_;rotate_left
    ·intro Y hY;left;rw[Bu];by_cases hs:Z="num"
     ·have p9:=p9 hs;rw[dH hs];left;refine⟨Bs,λU h5=>?_⟩;obtain⟨wd,ba,hb⟩:∃wd:Str,Cq [V.str "plus",.str "plus",.str "minus"] (z % 13-7)=some (.str wd)/\wd∈TWO:=by
       rcases (show z % 13-7=0\/z % 13-7=1\/z % 13-7=2 by lia) with h|h|h <;> rw[h] <;> exact⟨_,rfl,by right⟩
      left;refine Br (SqL.of Ac) ba ?_;exact hY _ _ ⟨wd,rfl,hb,(FR.refl S2).put (Same.upd h5)⟩
     ·rw[dI hs];left;exact hY _ _ ⟨"less",rfl,by right,FR.refl S2⟩
    rintro _ H3 ⟨wd,rfl,hb,r3⟩;have r2:=r2.trans r3;have S2:=S2.step r3;left;refine⟨a,ar,pn,ts,m,k1,"num",rfl,S2,by lia,by lia,by lia,λv1 t1 H4 r4 ac ad z1=>?_⟩;have S4:=S2.step r4;left;refine⟨a,ar,pn,ts,m,k2,"num",rfl,S4,by lia,by lia,by lia,λv2 t2 H5 r5 af ah z2=>?_⟩;left;refine⟨Bl,λp9 h9=>?_⟩;left;refine⟨Bs,λb9 aa=>?_⟩;obtain⟨R,TR⟩:=laid (us:=[v1,v2]) (ts:=[t1,t2]) (wd:=wd) (nv:=.non) (n:=.flat .non) (r2.trans (r4.trans r5)) (.inl ⟨rfl,rfl⟩) ((Al.nil.snoc (ac.sameT (r5.t S4.e))).snoc af) h9 aa;exact q _ _ _ R TR (Zai (Ze0 hb) ad ah) (by rw[Zce];lia)
end
structure MdT (t:Tr)(o:Er):Prop where
 m:∀(j:Nat)(r:Rx),o.2.1[j]?=some r->∃x∈walk [] t,x.2.wd≠"let"/\Nk j x r
 l:o.2.1.length<=21
 t:TOk o.2.1.length o.1
 n:0<=o.2.2/\o.2.2<=500
def Os (s:K19.Sub t pl):pl.length+1<=t.size:=by
 induction s with
 |nil t=>cases t;rw[Tr.size];show 0+1<=_;lia
 | @cons w n ts j t r h s I =>
  rw[Tr.size,Qc];have:=Li h;lia
def Zl2 (s:K19.Sub t p)(hp:B1 t p=some u)(h0:u.ps=[]):∀{q:List Nat},K19.Sub t q->B1 t q=some v->v.ps=[]->p≠q->K19.Sub (K19.withAt t p f) q/\B1 (K19.withAt t p f) q=some v/\K19.withAt (K19.withAt t p f) q g=K19.withAt (K19.withAt t q g) p f:=by
 induction s with
 |nil t =>
  intro q s' _ _ ne;rw[Fd]at hp;cases hp;cases s' with
  |nil=>exact absurd rfl ne
  | @cons _ _ Z _ _ _ h _=>rw[show Z=[] from h0]at h;cases h
 | @cons w n ts j t r h s ih =>
  intro q s' O hv ne;rw[Em,h,Rn]at hp;have hj:=(Pt.mp h).1;cases s' with
  |nil =>
   rw[Fd]at O;cases O;rw[show ts=[] from hv]at h;cases h
  | @cons _ _ _ Y t' r' h' s' =>
   rw[Em,h',Rn]at O;have aa:=(Pt.mp h').1;rw[K19.with_cons h,K19.with_cons h'];by_cases e:j=Y
   ·subst e;cases h.symm.trans h';obtain⟨a,b,c⟩:=ih hp s' O hv λz=>ne (by rw[z]);have I:=K19.set_at (u:=K19.withAt t r f) h;have U:=K19.set_at (u:=K19.withAt t r' g) h;refine⟨.cons I a,by rw[Em,I];exact b,?_⟩;rw[K19.with_cons I,K19.with_cons U,List.set_set,List.set_set,c]
   ·have I:(ts.set j (K19.withAt t r f))[Y]?=some t':=by rw[Ss e];exact h'
    have U:(ts.set Y (K19.withAt t' r' g))[j]?=some t:=by rw[Ss (Px e)];exact h
    refine⟨.cons I s',by rw[Em,I];exact O,?_⟩;rw[K19.with_cons I,K19.with_cons U,List.set_comm _ _ e]
def Zhx (tf:Tf t)(h:B1 t p=some u)(hw:u.wd="gap"):u.ps=[]:=by
 have:=(Lu (Jt tf h).1).p;rw[hw,show G5 "gap"=some 0 by right]at this;exact R8 (Qh this).symm
mutual
theorem Zjz:∀(p:List Nat)(t:Tr),(walk p t).Pairwise λx y=>x.1≠y.1
 |p,.mk w n ps=>by
  rw[walk];refine List.pairwise_cons.mpr ⟨λy I e=>?_,Zkj p 0 ps⟩;obtain⟨k,q,_,h⟩:=Zbj p 0 ps y I;have:=congrArg Sl (e.trans h);simp at this
theorem Zkj:∀(p:List Nat)(i:Nat)(ts:List Tr),(Bo p i ts).Pairwise λx y=>x.1≠y.1
 |_,_,[]=>by rw[Bo];exact .nil
 |p,i,t::r=>by
  rw[Bo];refine List.pairwise_append.mpr ⟨Zjz _ t,Zkj p (i+1) r,λx O y I e=>?_⟩;obtain⟨q,h1⟩:=Za6 _ _ _ O;obtain⟨k,U,Y,h2⟩:=Zbj p (i+1) r y I;rw[h1,h2,Qd]at e;have:=Rc e;simp at this;lia
end
def Zu0 {t:Tr}{i j:Nat}{x y:List Nat×Tr}(hi:((walk [] t).filter Ez)[i]?=some x)(hj:((walk [] t).filter Ez)[j]?=some y)(ne:i≠j):x.1≠y.1:=by
 have h:=List.pairwise_iff_getElem.mp ((Zjz [] t).filter Ez);obtain⟨O,Y⟩:=Pt.mp hi;obtain⟨I,U⟩:=Pt.mp hj;rw[<- Y,<- U];rcases Nat.lt_or_gt_of_ne ne with l|l
 ·exact h i j O I l
 ·exact(h j i I O l).symm
def Zsn (F:Fil sub sub' p)(R:RsOk sub l n):Oo sub' p n l:=λj r Z=>by
 obtain⟨⟨b1,b2⟩,⟨a2,O,U⟩,Y,H⟩:=R j r Z;rw[show([]:List (Str×V)).length+j=j from Tc j];refine⟨b1,b2,a2,O,U,Y,λI=>?_⟩;obtain⟨d,hd⟩:=H.s;exact⟨⟨d,F.o _ _ hd λe=>I (by rw[H.p,e])⟩,H.p,H.t,H.i,H.l⟩
structure RcT (t:Tr)(o:Er):Prop where
 r:RsOk (Bw t) o.2.1 o.2.2
 l:(o.2.1.length:Int)<=21+4*o.2.2
 n:0<=o.2.2
 g:Gj o
def MdT.rc {t:Tr}{o:Er}(hz:t.size<=100)(md:MdT t o):RcT t o:=by
 have n0:=md.n.1;have ml:=md.l;have R:RsOk (Bw t) o.2.1 o.2.2:=λj r I=>by
  obtain⟨x,hx,O,m⟩:=md.m j r I;obtain⟨sx,ex⟩:=Zey t x hx;rw[Zeu sx]at ex;have lx:=Os sx;have Z:=m.p;have h2:=Zcx r.wd;have U:C8 r.pl=x.1:=by rw[Z,Fg]
  have Y:=m.n;have aa:=m.l;refine⟨⟨m.a,m.o⟩,⟨by rw[Z,Pg];lia,by lia,by lia⟩,λ_=>by lia,⟨⟨Gg x.2,by rw[U,Jf,ex,m.w];rfl⟩,by rw[U];exact Z,λh=>?_,λh=>?_,by rw[m.w];exact O⟩⟩
  ·rw[show E4 r.wd=2 by unfold E4;rw[if_pos h]]at Y
   match r.ops,Y with
   |[x,y],_=>exact⟨x,y,rfl⟩
  ·rw[h,show E4 "if"=1 by right]at Y
   match r.ops,Y with
   |[x],_=>exact⟨x,rfl⟩
 refine⟨R,by lia,n0,md.t,λk r I=>(R k r I).1,by lia,λr I=>?_,md.n.2⟩;obtain⟨k,hk⟩:=Wp I;obtain⟨_,⟨k1,k2,_⟩,_⟩:=R k r hk;obtain⟨_,_,_,m⟩:=md.m k r hk;exact⟨k1,k2,by have:=m.l;lia⟩
structure Crs (t f g:Tr)(p q:List Nat)(o:Er)(e1 e:Option Er):Prop where
 a:K8 (Bw (K19.withAt t p f)) p o.2.1 o.1 o.2.2 e1
 n:e1=none->e=none
 b:∀o1,e1=some o1->Gj o1/\K8 (Bw (K19.withAt (K19.withAt t p f) q g)) q o1.2.1 o1.1 o1.2.2 e
 z:Mu (Bw (K19.withAt (K19.withAt t p f) q g)) [Ap p,Ap q] o.2.1 o.1 o.2.2 e
 g:∀o',e=some o'->Gj o'
section
variable {t f g u v:Tr}{p q:List Nat}{o:Er}(tf:Tf t)(ff:Tf f)(fg:Tf g)(hz:t.size<=100)(hf:f.size<=100)(hg:g.size<=100)(sp:K19.Sub t p)(hu:B1 t p=some u)(wu:u.wd="gap")(sq:K19.Sub t q)(hv:B1 t q=some v)(wv:v.wd="gap")(ne:p≠q)
include tf ff fg hz hf hg sp hu wu sq hv wv ne
def two_of:K19.Sub (K19.withAt t p f) q/\B1 (K19.withAt t p f) q=some v/\K19.withAt (K19.withAt t p f) q g=K19.withAt (K19.withAt t q g) p f/\Fil (Bw t) (Bw (K19.withAt t p f)) p/\Fil (Bw (K19.withAt t p f)) (Bw (K19.withAt (K19.withAt t p f) q g)) q/\SubOk (Bw t)/\SubOk (Bw (K19.withAt t p f))/\SubOk (Bw (K19.withAt (K19.withAt t p f) q g))/\(Bw (K19.withAt t p f) p).isSome=true/\(Bw (K19.withAt (K19.withAt t p f) q g) q).isSome=true:=by
 obtain⟨a,b,c⟩:=Zl2 (f:=f) (g:=g) sp hu (Zhx tf hu wu) sq hv (Zhx tf hv wv) ne;obtain⟨U,p1⟩:=Zgw (f:=f) tf sp hu wu;have z1:=Mw (f:=f) sp;have I:=Zg3 sp tf ff;obtain⟨O,p2⟩:=Zgw (f:=g) I a b wv;have z2:=Mw (f:=g) a;exact⟨a,b,c,U,O,Zbi tf (by lia),Zbi I (by lia),Zbi (Zg3 a I fg) (by lia),p1,p2⟩
def Zht (R:RcT t o):eX2 λe1 e=>Crs t f g p q o e1 e:=by
 obtain⟨_,_,_,U,O,_,S1,S2,p1,p2⟩:=two_of tf ff fg hz hf hg sp hu wu sq hv wv ne;obtain⟨e1,e,G1,Z,n,b⟩:=Zrr S1 S2 O p1 p2 R.n R.g.s R.l R.g.t (Zsn U R.r);refine⟨e1,e,G1,n,λI h=>⟨(b I h).1,(b I h).2.1⟩,Z,λo' h=>?_⟩;cases e1 with
 |none=>rw[n rfl]at h;cases h
 |some I=>exact(b I rfl).2.2 o' h
end
def Zn5 (tf:Tf t)(ff:Tf f)(fg:Tf g)(hz:t.size<=100)(hf:f.size<=100)(hg:g.size<=100)(sp:K19.Sub t p)(hu:B1 t p=some u)(wu:u.wd="gap")(sq:K19.Sub t q)(hv:B1 t q=some v)(wv:v.wd="gap")(ne:p≠q)(h:Crs t f g p q o e1 e)(h':Crs t g f q p o e1' e'):e=e':=by
 have c:=(two_of tf ff fg hz hf hg sp hu wu sq hv wv ne).2.2.1;have z:=h'.z;rw[<- c]at z;exact Zlu h.z z λr _=>by simp only[Ps,P0,or_false];exact or_comm
def Zmx (tf:Tf t)(ff:Tf f)(fg:Tf g)(hz:t.size<=100)(hf:f.size<=100)(hg:g.size<=100)(sp:K19.Sub t p)(hu:B1 t p=some u)(wu:u.wd="gap")(sq:K19.Sub t q)(hv:B1 t q=some v)(wv:v.wd="gap")(ne:p≠q)(hr:Ex (Bw t) [] [] [] o.1 o.2.1 o.2.2)(h5:o.2.2<=500)(h:Crs t f g p q o e1 e)(R:Zam (Bw (K19.withAt (K19.withAt t p f) q g)) e'):e=e':=by
 obtain⟨_,_,_,I,O,S,S1,_,p1,_⟩:=two_of tf ff fg hz hf hg sp hu wu sq hv wv ne;have An:∀t:Tr,(Bw t []).isSome=true:=λt=>by rw[Jf,Fd];rfl
 exact Zwh S S1 I O (An _) (An _) p1 hr h5 h.z R
section
variable {P:Program}{w:World}{K:Pi}{mg:Str->Option Value}{base:Heap}
def Hk (K:Pi)(n:Nat):Sp:=λvs H Q _=>eX6 λ(v f:V)(t tf:Tr)(p:Addr)(pl:List Nat)=>vs=[v,.ref p,f]/\TrAt K H v t/\SqT K H p (A9 pl)/\K19.Sub t pl/\pl.length<n/\pl.length<=1000/\t.size<=1000/\TrAt K H f tf/\∀v' H',Same H H'->TrAt K H' v' (K19.withAt t pl tf)->Q v' H'
def Zhq:Bc ["_law_tree_here","_law_place","_law_form_here","_law_parts"] pD (A7 Ka):=by walk_at "sc"
def Zpt (F:Fu K "_law_filled" Ka f fd)(T:Txt K mg)(kE:A5 P w K mg base (n+1) "_law_filled" ["_law_tree_here","_law_place","_law_form_here"] (Hk K n)):FnOk P w K mg base As (n+2) f fd pD (Hk K (n+1)):=by
 refine F.okq Zhq (λvs H Q E h=>?_) (λal A outer s H vs Q E hr h=>?_)
 ·obtain⟨v,f,t,tf,p,pl,rfl,_⟩:=h;rfl
 ·obtain⟨v,f,t,tf,p,pl,rfl,ht,hp,hs,hl,ah,hz,hf,q⟩:=h;refine⟨_,Ab (Ay (Bt (Zku K hr.u200) Af (Aj Bm)) (Ao Av) A2)
   (Ab (Ak 3 Zhq (Ec (Zav K) T.list (Aw (Ai K Ad Aa)))) (Ab (Et (Az kE (hr.mono (by lia)) (Bd (Ai K A3 (Ai K Af Aa)) (Eg (Fc K) Af (Cv Aa) Fz) Av)) (Zm6 A3 (Ai K Af Aa) Znj)) (Ao (Aj (Bd (Ai K Ad Aa) (Ai K Ad Aa) (Ec (Zjl K) T.tuple (Aw A3))))))),?_⟩
  have bg:=big;left;refine⟨Bj,λa0 h0=>?_⟩;have s0:=Same.upd (o:=.tup []) h0;have e0:SqT K (upd H a0 (.tup [])) a0 (([]:List Int).map V.int):=SqT.of Ac;revert s0 e0;generalize upd H a0 (.tup [])=H0;intro s0 e0;refine Zfz (xs:=Ap pl) (ys:=[]) (by rw[Fh];exact s0.tup hp) e0 ?_;left;cases pl with
  |nil =>
   refine Fl (by rfl) ?_;left;refine q _ _ s0 ?_;cases t with
   |mk w nt ts=>exact hf.same s0
  |cons k rest =>
  refine Ew (dI (λe=>nomatch e)) ?_;cases hs with
  | @cons w nt ts _ u _ hu ai =>
  cases ht with
  | @mk b pp _ nv _ I _ qb hn qp l af =>
  have hk:k<ts.length:=(Pt.mp hu).1;have ad:k<I.length:=by lia
  have ag:=Pk ad;have am:=s0.tup hp;have lz:ts.length<=1000:=by
   have:ts.length<=Bv ts:=Zan ts;rw[Tr.size]at hz;lia
  left;refine A1 (s0.tup qb) rfl ?_;refine⟨pp,I,rfl,.inr (s0.tup qp),λlp ae=>?_⟩;have s1:=Same.upd (o:=.lst I) ae;have e1:upd H0 lp (.lst I) lp=some (.lst I):=Ac;have n1:H lp=none:=s0.free ae;revert s1 e1;generalize upd H0 lp (.lst I)=H1;intro s1 e1;have Y:=s0.trans s1;left;refine A1 (v:=.int (k:Nat)) (Y.tup hp) (Cs (j:=0) rfl) ?_;left;refine Br (SqL.of e1) (Cs ag) ?_;left;refine .inr (.inr ⟨p,_,rfl,Y.tup hp,?_,λk1 h1=>?_⟩)
  ·rintro⟨z,_⟩;have:HT.sIx (A9 (k::rest)).length 0 (some ((1:Nat):Int))=0:=z;rw[HT.sIx_nat]at this;rw[show(A9 (k::rest)).length=rest.length+1 by unfold A9;simp]at this;lia
  have ec:Ca (A9 (k::rest)) (some 1) none=A9 rest:=(Zel _ 1).trans rfl;rw[ec];have s2:=Same.upd (o:=.tup (A9 rest)) h1;have e2:SqT K (upd H1 k1 (.tup (A9 rest))) k1 (A9 rest):=SqT.of Ac;revert s2 e2;generalize upd H1 k1 (.tup (A9 rest))=H2;intro s2 e2;have aa:=Y.trans s2;rw[Qc]at hl ah;have ak:=Li hu;rw[Tr.size]at hz;left;refine⟨I[k],f,u,tf,k1,rest,rfl,(af k _ _ ag hu).same aa,e2,ai,by lia,by lia,by lia,hf.same aa,λv' H3 s3 aj=>?_⟩;have ac:=aa.trans s3;left;refine A1 (v:=.int (k:Nat)) (ac.tup hp) (Cs (j:=0) rfl) ?_;have e3:=(s2.trans s3) _ _ e1;refine Zvm e3 (k:=(k:Nat)) (j:=k) ?_ ?_
  ·unfold Fv;rw[if_pos (by lia),if_pos (by lia)];rfl
  have tS:=SameT.set (o:=.lst (I.set k v')) e3;have s4:=ac.over (o:=.lst (I.set k v')) n1;have e4:upd H3 lp (.lst (I.set k v')) lp=some (.lst (I.set k v')):=Ac;have Z:=aj.sameT tS;have O:∀j v t,I[j]?=some v->ts[j]?=some t->TrAt K (upd H3 lp (.lst (I.set k v'))) v t:=λj v t h1 h2=>((af j v t h1 h2).same ac).sameT tS;revert s4 e4 Z O;generalize upd H3 lp (.lst (I.set k v'))=H4;intro s4 e4 Z O;left;refine A1 (s4.tup qb) rfl ?_;left;refine A1 (s4.tup qb) rfl ?_;left;refine Zi2 (SqL.of e4) λp7 h7=>?_;have s7:=Same.upd (o:=.tup (I.set k v')) h7;left;refine⟨Bs,λp8 h8=>?_⟩;have s8:=Same.upd (o:=.tup [.str w,nv,.ref p7]) h8;have U:=s7.trans s8;refine q _ _ (s4.trans U) ?_;rw[K19.with_cons hu];refine .mk (SqT.of Ac) (hn.same (s4.trans U).t) (s8.tup (SqT.of Ac)) (by rw[To,To,l]) λj v t h1 h2=>?_;by_cases e:j=k
  ·subst e;rw[Sa ad]at h1;rw[Sa hk]at h2;cases h1;cases h2;exact Z.same U
  ·rw[Ss (λz=>e z.symm)]at h1 h2;exact(O j v t h1 h2).same U
noncomputable def LETS:Str:="abcdefghijklmnopqrstuvwxyz_"
def Zqc:LETS.cps.toList.length=27:=by right
def Zm4:LETS.length<=sizeLine:=by right
def Zsw (u v:Str):(u++v).length=u.length+v.length:=by
 show(u.cps++v.cps).size=_;simp[Str.length]
def Ze8 (c:Nat):(⟨#[c]⟩:Str).length=1:=rfl
def Ziv:Sp:=λvs H Q _=>∃(a:Int),vs=[.int a,.int 5]/\∀(p:Addr)(ts:List Str)(H':Hp),Same H H'->H p=none->ts.length=5->H' p=some (.lst (ts.map V.str))->Q (.ref p) H'
def E1:Bc ["_law_cell_here","_law_many","_law_signs","_law_kept","_law_size","_law_at","_law_names_here","_law_k","_law_word","_law_j","_law_step"] qF (A7 M8):=by walk_at "sc"
noncomputable def Oz:List V:=[.str "let",.str "in",.str "if",.str "then",.str "else",.str "fn",.str "rec",.str "yes",.str "no"]
def NmJ (H:Hp)(a:Int)(D p:Addr)(j:Nat)(σ':St)(H':Hp):Prop:=eX5 λ(v7 v8 v9 v10:Option V)(ts:List Str)=>σ'=[some (.int a),some (.int 5),some (.str LETS),some (.ref D),some (.int (1+a % 8)),some (.int (a / 8 % (1+a % 8))),some (.ref p),v7,v8,v9,v10]/\H' D=some (.lst Oz)/\H' p=some (.lst (ts.map V.str))/\ts.length=j/\Same H H'
def Zw3 (F:Fu K "_law_names" M8 f fd)(T:Txt K mg)(kD:A5 P w K mg base 1 "_law_mixed" ["_law_cell_here","_law_k"] Mx):FnOk P w K mg base As 2 f fd qF Ziv:=by
 refine F.okq E1 (λvs H Q E h=>?_) (λak A outer s H vs Q E hr h=>?_)
 ·obtain⟨a,rfl,_⟩:=h;rfl
 ·obtain⟨a0,rfl,q⟩:=h;refine⟨_,Ab (Ak 2 E1 Am)
   (Ab (Ak 3 E1 (Bp (Hw (xs:=[.str "let",.str "in",.str "if",.str "then",.str "else",.str "fn",.str "rec",.str "yes",.str "no"]) rfl))) (Ab (Ak 0 E1 (Az kD hr.m (Ag Ad Aa))) (Ab (Ak 4 E1 (Ae (B5 K) Aa (Ae Be Ad Aa))) (Ab (Ak 5 E1 (Ae Be (Ae Cf Ad Aa) A6)) (Ab (Ak 6 E1 (Bp Bm)) (Ab (Dk Qj rfl (Gk rfl T.range (Aw Af)) (C7 7 E1) (Ab (Ak 8 E1 Am) (Ab (Dk Qj rfl (Gk rfl T.range (Aw A6)) (C7 9 E1) (Ab (Ak 10 E1 (Ae (B5 K) (Ae Cf (Ae Cf Ad Aa) (Ae (B5 K) (qv 9) Aa)) (Ae E6 Aa (qv 9)))) (A4 (Ak 8 E1 (Ae (B5 K) (qv 8) (Ai K Av (Ae Be (Ae (B5 K) (qv 10) (Ae E6 (qv 7) (Ec N0 T.int (Aw (Fb K hr (qv 9) (qv 5)))))) Aa))))))) (Ab (Ay (Bt (G6 K) (qv 8) A3) (A4 (Ak 8 E1 (Ae (B5 K) (qv 8) Am))) A2) (A4 (B2 (Cn K Pw Qf Qg Cy (qv 6) (Aw (qv 8))))))))) (Ao (qv 6)))))))),?_⟩
  have bg:=big;left;refine⟨sz9,λD hD=>?_⟩;left;refine⟨a0,3,rfl,by decide,by decide,λa ao an=>?_⟩;have al:0<=a % 8:=Qe a (by decide);have am:a % 8<8:=Qi a (by decide);left;refine s_rI (by show(0:Int)<1+a % 8;lia) ?_;left;refine⟨Bj,λp hp=>?_⟩;have af:D≠p:=λz=>by rw[<- z,Ac]at hp;cases hp
  have ag:H p=none:=(Same.upd hD).free hp;have ah:Same H (upd (upd H D (.lst Oz)) p (.lst [])):=(Same.upd (o:=.lst Oz) hD).put hp;have aj:upd (upd H D (.lst Oz)) p (.lst []) D=some (.lst Oz):=by rw[Ah af];exact Ac
  left;refine⟨by decide,by decide,?_⟩;refine F8 (n:=5) (NmJ H a D p) ⟨_,_,_,_,[],rfl,aj,Ac,rfl,ah⟩ ?_ ?_
  ·rintro j O H2 hj ⟨v7,v8,v9,ac,ts,rfl,aa,I,Y,Z⟩;left;refine⟨by lia,by lia,?_⟩;refine F8 (n:=(1+a % 8).toNat) (λk O H'=>eX3 λv9 ac t=>O=[some (.int a),some (.int 5),some (.str LETS),some (.ref D),some (.int (1+a % 8)),some (.int (a / 8 % (1+a % 8))),some (.ref p),some (.int (0+j)),some (.str t),v9,ac]/\t.length=k/\H'=H2) ⟨_,_,Str.empty,rfl,rfl,rfl⟩ ?_ ?_
   ·rintro k O H3 hk ⟨ae,U,t,rfl,ai,rfl⟩;left;refine s_rI (by show(0:Int)<0+k+1/\(0:Int)+k+1<1073741824;lia) ?_;left;refine s_mul_r (by split <;> decide) (by split <;> decide) ?_;left;obtain⟨c,hc,_⟩:=Ma (xs:=LETS.cps.toList) (i:=(a / 64 / (0+(k:Int)+1)+5*(0+(k:Int))+(0+(j:Int))*(if decide (V.int (0+(k:Int))=V.int (a / 8 % (1+a % 8)))=true then 1 else 0)) % 27) (Qe _ (by decide)) (by rw[Zqc];exact Qi _ (by decide));refine Zqp Zm4 hc ?_;refine Za9 (by rw[Ze8];lia) ?_;exact⟨_,_,_,rfl,by rw[Zsw,Ze8];lia,rfl⟩
   ·rintro O H3 ⟨ae,U,t,rfl,ai,rfl⟩;left;refine Fn (.inl (SqL.of aa)) rfl rfl ?_;have ad:∀(t':Str),NmJ H a D p (j+1) [some (.int a),some (.int 5),some (.str LETS),some (.ref D),some (.int (1+a % 8)),some (.int (a / 8 % (1+a % 8))),some (.ref p),some (.int (0+(j:Int))),some (.str t'),ae,U] (upd H3 p (.lst (ts.map V.str++[.str t']))):=λt' =>
     ⟨_,_,_,_,ts++[t'],rfl,by rw[Ah af];exact aa,by rw[Ac,Ql];rfl,by simp[Y],Z.over ag⟩
    left;refine Bf (λ_=>?_) (λ_=>?_)
    ·left;have l1:(Qx "_").length=1:=by right
     refine Za9 (by rw[l1];lia) ?_;left;refine B7 (SqL.of I) ?_;left;refine Cz I (by rw[Pq];lia) ?_;exact ad _
    ·left;refine B7 (SqL.of I) ?_;left;refine Cz I (by rw[Pq];lia) ?_;exact ad _
  ·rintro O H2 ⟨v7,v8,v9,ac,ts,rfl,aa,I,Y,Z⟩;left;exact q p ts _ Z ag Y I
def O0 (K:Pi):Sp:=λvs H Q _=>∃(a:Addr),vs=[.ref a]/\Script K H a/\∀b,Q (.bl b) H
def Zog:Bc pV pV (A7 Mj):=by walk_at "sc"
def Ztj (F:Fu K "_law_is_free" Mj f fd)(T:Txt K mg)(kC:A5 P w K mg base 1 "_law_cell" ["_law_script","_law_k"] (Ly K)):FnOk P w K mg base As 2 f fd pV (O0 K):=by
 refine F.okq Zog (λvs H Q E h=>?_) (λO A outer s H vs Q E I h=>?_)
 ·obtain⟨a,rfl,_⟩:=h;rfl
 ·obtain⟨a,rfl,S,q⟩:=h;refine⟨_,Ao (Fb K I (Ae Be (Az kC I.m (Ag Ad Aa)) Aa) Aa),?_⟩;left;refine⟨a,0,rfl,S,by decide,by decide,λz=>?_⟩;left;exact q _
def Jn (K:Pi)(n:Nat):Sp:=λvs H Q _=>eX4 λ(x y:V)(d:Dt)(m:Nat)=>vs=[x,y]/\m<n/\IsD K H m x d/\IsD K H m y d/\Fo d/\∀H',Same H H'->Q (.bl true) H'
def Zj4:Bc ["_law_found","_law_due","_law_k"] pR (A7 Ju):=by walk_at "sc"
def Zws (F:Fu K "_law_same" Ju f fd)(T:Txt K mg)(kP:A5 P w K mg base (n+1) "_law_same" ["_law_found","_law_due"] (Jn K n)):FnOk P w K mg base As (n+2) f fd pR (Jn K (n+1)):=by
 refine F.okq Zj4 (λvs H Q E h=>?_) (λad A outer s H vs Q E hr h=>?_)
 ·obtain⟨x,y,d,m,rfl,_⟩:=h;rfl
 ·obtain⟨x,y,d,m,rfl,hm,hx,hy,hd,q⟩:=h;refine⟨_,Ab (Ay (QW.qt (C9 (Bx (B4 (Cb K "bool") T.isinstance (Ag Ad (Cc (v:=.ty "bool") (by rfl) T.bool (by right) rfl)))) (Dm (Bx (B4 (Cb K "bool") T.isinstance (Ag Af (Cc (v:=.ty "bool") (by rfl) T.bool (by right) rfl))))))) (Ao (F6 (B4 (Cb K "bool") T.isinstance (Ag Ad (Cc (v:=.ty "bool") (by rfl) T.bool (by right) rfl))) (F6 (B4 (Cb K "bool") T.isinstance (Ag Af (Cc (v:=.ty "bool") (by rfl) T.bool (by right) rfl))) (Go (Fb K hr Ad Af))))) A2)
   (Ab (Ay (QW.qt (C9 (Bx (B4 (Cb K "list") T.isinstance (Ag Af (Cc (v:=.ty "list") (by rfl) T.list (by right) rfl)))) (Dm (Bx (B4 (Cb K "tuple") T.isinstance (Ag Af (Cc (v:=.ty "tuple") (by rfl) T.tuple (by right) rfl))))))) (Ab (Ay (QW.qt (D3 (C2 (Bx (B4 (Cb K "list") T.isinstance (Ag Ad (Cc (v:=.ty "list") (by rfl) T.list (by right) rfl))))) (D7 (C2 (Bx (B4 (Cb K "tuple") T.isinstance (Ag Ad (Cc (v:=.ty "tuple") (by rfl) T.tuple (by right) rfl)))))))) (Ao Cw) A2) (Ab (Ay (QW.qt (C9 (Bt (Ft K hr.u200) (B4 (Cb K "list") T.isinstance (Ag Ad (Cc (v:=.ty "list") (by rfl) T.list (by right) rfl))) (B4 (Cb K "list") T.isinstance (Ag Af (Cc (v:=.ty "list") (by rfl) T.list (by right) rfl)))) (Dm (Bt (Ft K hr.u200) (B0 K T.len Ad) (B0 K T.len Af))))) (Ao Cw) A2) (Ab (Dk Qj rfl (Gk rfl T.range (Aw (B0 K T.len Af))) (C7 2 Zj4) (A4 (Ay (C2 (Bx (Az kP (hr.mono (by lia)) (Ag (Ai K Ad Av) (Ai K Af Av))))) (Ao Cw) A2))) (Ao Cw)))) A2) (Ab (Ay (Bx (B4 (Cb K "str") T.isinstance (Ag Af (Cc (v:=.ty "str") (by rfl) T.str (by right) rfl)))) (Ao (F6 (B4 (Cb K "str") T.isinstance (Ag Ad (Cc (v:=.ty "str") (by rfl) T.str (by right) rfl))) (Go (Fb K hr Ad Af)))) A2) (Ab (Ay (Bx (B4 (Cb K "int") T.isinstance (Ag Af (Cc (v:=.ty "int") (by rfl) T.int (by right) rfl)))) (Ao (F6 (B4 (Cb K "int") T.isinstance (Ag Ad (Cc (v:=.ty "int") (by rfl) T.int (by right) rfl))) (Go (Fb K hr Ad Af)))) A2) (Ao (F6 (Kn (Gn Ad)) (Go (Kn (Gn Af)))))))),?_⟩
  have bg:=big;cases hx with
  |flat hv =>
   cases hy with
   |flat _ =>
   cases x with
   |non =>
    left;refine B9 (b:=false) .non rfl ?_;left;refine B9 (b:=false) .non rfl ?_;left;refine B9 (b:=false) .non rfl ?_;left;refine B9 (b:=false) .non rfl ?_;left;refine B9 (b:=false) .non rfl ?_;left;refine B9 (b:=false) .non rfl ?_;left;rw[dH (Eq.refl _)];left;rw[dH (Eq.refl _)];left;exact q H (Same.refl _)
   |bl b =>
    left;refine B9 (b:=true) (.bl b) rfl ?_;left;refine B9 (b:=true) (.bl b) rfl ?_;left;refine B9 (b:=true) (.bl b) rfl ?_;left;rw[dH (Eq.refl _)];left;exact q H (Same.refl _)
   |int b =>
    left;refine B9 (b:=false) (.int b) rfl ?_;left;refine B9 (b:=false) (.int b) rfl ?_;left;refine B9 (b:=false) (.int b) rfl ?_;left;refine B9 (b:=false) (.int b) rfl ?_;left;refine B9 (b:=false) (.int b) rfl ?_;left;refine B9 (b:=true) (.int b) rfl ?_;left;refine B9 (b:=true) (.int b) rfl ?_;left;rw[dH (Eq.refl _)];left;exact q H (Same.refl _)
   |str b =>
    left;refine B9 (b:=false) (.str b) rfl ?_;left;refine B9 (b:=false) (.str b) rfl ?_;left;refine B9 (b:=false) (.str b) rfl ?_;left;refine B9 (b:=false) (.str b) rfl ?_;left;refine B9 (b:=true) (.str b) rfl ?_;left;refine B9 (b:=true) (.str b) rfl ?_;left;rw[dH (Eq.refl _)];left;exact q H (Same.refl _)
   |_=>exact absurd hv (by simp[Db])
  | @tup k a vs ds Y la ha =>
   cases hy with
   | @tup _ c ws _ U lc hc =>
   cases hd with
   |tup hl ac =>
   left;refine Fa (b:=false) Y rfl ?_;left;refine Fa (b:=false) U rfl ?_;left;refine Fa (b:=false) U rfl ?_;left;refine Fa (b:=true) U rfl ?_;left;refine Fa (b:=false) Y rfl ?_;left;refine Fa (b:=true) Y rfl ?_;left;refine Fa (b:=false) Y rfl ?_;left;refine Fa (b:=false) U rfl ?_;left;rw[dH (Eq.refl _)];left;refine Ei Y ?_;left;refine Ei U ?_;left;rw[la,lc,dH (Eq.refl _)];left;refine Ei U ?_;left;rw[lc];refine⟨by lia,by lia,?_⟩;refine F8 (n:=(ds.length:Int).toNat) (λi O H'=>∃v2,O=[some (.ref a),some (.ref c),v2]/\Same H H') ⟨none,rfl,Same.refl _⟩ ?_ ?_
   ·rintro i O H' hi ⟨v2,rfl,I⟩;have hi:i<ds.length:=by lia
    have e0:(0:Int)+(i:Int)=((i:Nat):Int):=by lia
    rw[e0];have Z:i<vs.length:=by lia
    have aa:i<ws.length:=by lia
    left;refine A1 (I.tup Y) (Cs (Pk Z)) ?_;left;refine A1 (I.tup U) (Cs (Pk aa)) ?_;left;refine⟨vs[i],ws[i],ds[i],k,rfl,by lia,(ha i _ _ (Pk Z) (Pk hi)).same I,(hc i _ _ (Pk aa) (Pk hi)).same I,ac _ (Vr hi),λH2 s2=>?_⟩;left;exact⟨_,rfl,I.trans s2⟩
   ·rintro O H' ⟨v2,rfl,I⟩;left;exact q H' I
  | @lst k a vs ds Y la ha =>
   cases hy with
   | @lst _ c ws _ U lc hc =>
   cases hd with
   |lst hl ac =>
   left;refine G8 (b:=false) Y rfl ?_;left;refine G8 (b:=false) U rfl ?_;left;refine G8 (b:=true) U rfl ?_;left;refine G8 (b:=true) Y rfl ?_;left;refine G8 (b:=true) Y rfl ?_;left;refine G8 (b:=true) U rfl ?_;left;rw[dH (Eq.refl _)];left;refine Cd Y ?_;left;refine Cd U ?_;left;rw[la,lc,dH (Eq.refl _)];left;refine Cd U ?_;left;rw[lc];refine⟨by lia,by lia,?_⟩;refine F8 (n:=(ds.length:Int).toNat) (λi O H'=>∃v2,O=[some (.ref a),some (.ref c),v2]/\Same H H') ⟨none,rfl,Same.refl _⟩ ?_ ?_
   ·rintro i O H' hi ⟨v2,rfl,I⟩;have hi:i<ds.length:=by lia
    have e0:(0:Int)+(i:Int)=((i:Nat):Int):=by lia
    rw[e0];have Z:i<vs.length:=by lia
    have aa:i<ws.length:=by lia
    left;refine Br (I.seq Y) (Cs (Pk Z)) ?_;left;refine Br (I.seq U) (Cs (Pk aa)) ?_;left;refine⟨vs[i],ws[i],ds[i],k,rfl,by lia,(ha i _ _ (Pk Z) (Pk hi)).same I,(hc i _ _ (Pk aa) (Pk hi)).same I,ac _ (Vr hi),λH2 s2=>?_⟩;left;exact⟨_,rfl,I.trans s2⟩
   ·rintro O H' ⟨v2,rfl,I⟩;left;exact q H' I
def Zee (ms:List Int)(lo hi:Option Int):∃ds:List Int,Ca (ms.map V.int) lo hi=ds.map V.int/\ds.length<=ms.length:=by
 refine⟨(ms.drop (HT.sIx (ms.map V.int).length 0 lo)).take (HT.sIx (ms.map V.int).length (ms.map V.int).length hi-HT.sIx (ms.map V.int).length 0 lo),?_,?_⟩
 ·unfold Ca;rw[List.map_take,List.map_drop]
 ·rw[Qq,Sw];lia
def Zb7 {ms:List Int}(h:ms.length<=63)(lo hi:Option Int):∃ds:List Int,D8 3 (Ca (ms.map V.int) lo hi)=ds.map V.int/\ds.length<=21:=by
 obtain⟨I,e,l⟩:=Zee ms lo hi;refine⟨D8 3 I,by rw[e,Zcy],?_⟩;have:=Zs3 I;lia
noncomputable def nG (t:Tr):Nat:=((walk [] t).filter Ez).length
def Zw4 (wd:Str)(n:Dt)(t:Tr)(h:wd≠"gap"):nG (.mk wd n [t,.mk "gap" (.flat .non) []])=nG t+1:=by
 unfold nG;have e:((walk [0] t).filter Ez).length=((walk [] t).filter Ez).length:=by
  rw[Za5 [0] t,List.filter_map,Pq];rfl
 rw[walk,Bo,Bo,Bo,Up,if_neg (by show ¬decide (wd="gap")=true;rw[decide_eq_true_iff];exact h),Wv,Pn,Q2,walk,Bo,Q6,e];rfl
inductive LT (K:Pi)(a pn:Addr)(H:Hp)(σ:St)(H':Hp):Prop
 |mk (v2:Option V) (tv:V) (t:Tr) (_:σ=[some (.ref a),some (.ref pn),v2,some tv,none]) (_:Same H H') (_:TrAt K H' tv t) (_:Tf t) (_:t.size<=64)
def Zhe (K:Pi):Sp:=λvs H Q _=>eX3 λ(a pn:Addr)(ts:List Str)=>vs=[.ref a,.ref pn]/\Script K H a/\H pn=some (.lst (ts.map V.str))/\ts.length=5/\∀v t H',Same H H'->TrAt K H' v t->Tf t->2<=nG t->t.size<=70->Q v H'
def K6:Bc ["_law_script","_law_names_here","_law_cells","_law_tree_here","_law_turn"] qC (A7 Lc):=by walk_at "sc"
def Zt6 (F:Fu K "_law_tree" Lc f fd)(T:Txt K mg)(kC:A5 P w K mg base 1 "_law_cell" ["_law_script","_law_k"] (Ly K))(kA:A5 P w K mg base 23 "_law_form" ["_law_cells","_law_around","_law_names_here","_law_room","_law_sort"] (Ho K 20))(kF:A5 P w K mg base 2 "_law_is_free" ["_law_script"] (O0 K))(kK:A5 P w K mg base 33 "_law_any" ["_law_cells","_law_names_here","_law_deep"] (Hj K 32))(kL:A5 P w K mg base 151 "_law_gaps" ["_law_form_here","_law_place","_law_bound"] (Ij K 150)):FnOk P w K mg base As 152 f fd qC (Zhe K):=by
 refine F.okq K6 (λvs H Q E h=>?_) (λav A outer s H vs Q E hr h=>?_)
 ·obtain⟨a,pn,ts,rfl,_⟩:=h;rfl
 ·obtain⟨a,pn,ts,rfl,SC,O,ai,q⟩:=h;refine⟨_,Ab (Ak 2 K6 (Lh K (Lh K (Eg (Fc K) Ad (Cv Aa) (Cv Aa)) (Cv Aa)) (Cv (Jl Jj Aa))))
   (Ab (Ay (Bx (Az kF hr.m (Aw Ad))) (A4 (Ak 3 K6 (Az kK hr.m (Bd Av Af Aa)))) (A4 (Ak 3 K6 (Az kA hr.m (Eu Av (Bp Bm) Af (Ae (B5 K) Aa (Ae Be (Az kC hr.m (Ag Ad Aa)) Aa)) Am))))) (Ab (Dk Qj rfl (Gk rfl T.range (Aw (Ae Du Aa (B4 (Zg2 rfl) T.min (Ag Aa (B0 K T.len (Az kL hr.m (Bd A3 (Aj Bm) (Bp Bm))))))))) (C7 4 K6) (A4 (Ak 3 K6 (Aj (Bd (Ai K (Bp (Ag Am Am)) A6) Fm (Aj (Ag A3 (Aj (Bd Am Fm (Aj Bm)))))))))) (Ao A3))),?_⟩
  have bg:=big;obtain⟨ms,ap,hn⟩:=SC.ex;left;dsimp only[Lr];left;refine Gv ap λp1 h1=>?_;left;refine⟨p1,_,3,rfl,rfl,by decide,SqL.of Ac,λp2 h2=>?_⟩;left;refine⟨p2,_,-1,rfl,rfl,by decide,SqL.of Ac,λI h3=>?_⟩;have ag:H I=none:=((Same.upd h1).trans (Same.upd h2)).free h3;obtain⟨d3,e3,l3⟩:=Zb7 hn (some 3) (some 63);rw[e3]at h3;rw[e3,Zcy];have lc:(D8 (-1) d3).length<=21:=P9 (Zdp _ _) l3;generalize D8 (-1) d3=dc at lc ⊢;have Z:=(Same.upd (o:=.lst (Ca (ms.map V.int) (some 3) (some 63))) h1).trans ((Same.upd (o:=.lst (d3.map V.int)) h2).trans (Same.upd (o:=.lst (dc.map V.int)) h3));have ec:(upd (upd (upd H p1 (.lst (Ca (ms.map V.int) (some 3) (some 63)))) p2 (.lst (d3.map V.int))) I (.lst (dc.map V.int))) I=some (.lst (dc.map V.int)):=Ac;revert Z ec;generalize (upd (upd (upd H p1 (.lst (Ca (ms.map V.int) (some 3) (some 63)))) p2 (.lst (d3.map V.int))) I (.lst (dc.map V.int)))=H3;intro Z ec;have ae:pn≠I:=λz=>by rw[z,ag]at O;cases O
  have up:∀{H6},SameR I H3 H6->Same H H6:=λr b o hb=>r b o (λz=>by rw[z,ag]at hb;cases hb) (Z _ _ hb);clear h1 h2 h3 e3 l3 ag;refine s_gname ?_;with_reducible refine s_seq ?_
  refine Cu (t:=Cm _ _ _) (R:=LT K a pn H) ?_ ?_;rotate_left
  ·intro Y hY;left;refine⟨a,rfl,SC.same Z,λbb=>?_⟩;left;refine Bf (λ_=>?_) (λ_=>?_)
   ·left;refine⟨I,pn,ts,dc,30,rfl,by decide,ec,by lia,Z _ _ O,ae,ai,λad t0 H4 aw fr _ _ T0 af as=>?_⟩;left;exact hY _ _ ⟨_,ad,t0,rfl,up fr,T0,af,by lia⟩
   ·left;refine⟨Bj,λar aa=>?_⟩;have sa:=Same.upd (o:=.lst []) aa;have aq:ar≠I:=λz=>by rw[z,ec]at aa;cases aa
    left;refine⟨a,0,rfl,SC.same (Z.trans sa),by decide,by decide,λz3=>?_⟩;obtain⟨an,er,rl,ru⟩:∃k:Nat,1+z3 % 14=(k:Int)/\1<=k/\k<=14:=⟨(1+z3 % 14).toNat,by lia,by lia,by lia⟩;left;rw[er];refine⟨I,ar,pn,ts,0,an,"num",rfl,⟨⟨dc,sa _ _ ec,by lia⟩,⟨[],[],Ac,.nil,Pm _⟩,aq,(Z.trans sa) _ _ O,ae,ai⟩,by lia,rl,by lia,λad t0 H4 fr T0 af as=>?_⟩;left;exact hY _ _ ⟨_,ad,t0,rfl,up λb o nb hb=>fr.r b o nb (sa _ _ hb),T0,af,by lia⟩
  clear up ec ae Z H3 I dc lc;rintro _ H4 ⟨v2,tv,t,rfl,s4,T4,tf,hz⟩;left;refine⟨Bj,λp5 h5=>?_⟩;have s5:=Same.upd (o:=.tup []) h5;left;refine⟨Bj,λp6 h6=>?_⟩;have U:=Same.upd (o:=.lst []) h6;left;refine⟨tv,t,p5,p6,[],0,140,F0,rfl,T4.same (s5.trans U),tf,U _ _ Ac,⟨[],[],Ac,.nil,Pm _⟩,by lia,by simp;lia,by lia,by decide,(λz hz=>hz.elim),id,λrg ws H5 s7 e7 al=>?_⟩;have sB:=s4.trans (s5.trans (U.trans s7));have TB:=T4.same (s5.trans (U.trans s7));have hg:ws.length=nG t:=al.1;left;refine Cd (SqL.of e7) ?_;left;obtain⟨k,ek,k2,kg⟩:∃k:Nat,(2:Int)-(if ((ws.length:Nat):Int)<2 then ((ws.length:Nat):Int) else 2)=(k:Nat)/\k<=2/\2<=k+nG t:=by
   rw[hg];split
   ·exact⟨2-nG t,by lia,by lia,by lia⟩
   ·exact⟨0,by lia,by lia,by lia⟩
  refine⟨2,_,rfl,?_⟩;left;rw[ek];refine⟨by lia,by lia,?_⟩;clear s4 s5 U s7 T4 h5 h6 e7 al ek;refine F8 (n:=((k:Nat):Int).toNat) (λi ac H'=>eX3 λ(v4:Option V)(uv:V)(u:Tr)=>ac=[some (.ref a),some (.ref pn),v2,some uv,v4]/\Same H H'/\TrAt K H' uv u/\Tf u/\nG u=nG t+i/\u.size=t.size+2*i) ⟨_,tv,t,rfl,sB,TB,tf,rfl,rfl⟩ ?_ ?_
  ·rintro i ac H6 hi ⟨v4,uv,u,rfl,U,T6,ah,g6,z6⟩;have hi:i<k:=by lia
   obtain⟨wd,hw,ao⟩:∃wd:Str,Cq [V.str "plus",.str "less"] ((i:Nat):Int)=some (.str wd)/\wd∈TWO:=by
    rcases (show i=0\/i=1 by lia) with rfl|rfl
    ·exact⟨"plus",rfl,by right⟩
    ·exact⟨"less",rfl,by right⟩
   left;refine⟨Bl,λg9 k9=>?_⟩;have y9:=Same.upd (o:=.lst [V.str "plus",.str "less"]) k9;left;rw[Rs];refine Br (SqL.of Ac) hw ?_;left;refine⟨Bj,λg0 k0=>?_⟩;have y0:=Same.upd (o:=.tup []) k0;left;refine⟨Bs,λg1 k1=>?_⟩;have y1:=Same.upd (o:=.tup [.str "gap",.non,.ref g0]) k1;left;refine⟨Bl,λg2 k2=>?_⟩;have y2:=Same.upd (o:=.tup [uv,.ref g1]) k2;left;refine⟨Bs,λg3 k3=>?_⟩;have y3:=Same.upd (o:=.tup [.str wd,.non,.ref g2]) k3;have am:=y2.trans y3;have ak:=y1.trans am;have au:=y0.trans ak;have aj:=y9.trans au;left;refine⟨_,.ref g3,.mk wd (.flat .non) [u,.mk "gap" (.flat .non) []],rfl,U.trans aj,Zd3 Ac (.inl ⟨rfl,rfl⟩) (y3 _ _ Ac) ((Al.nil.snoc (T6.same aj)).snoc (Zag (am _ _ Ac) (ak _ _ Ac) rfl)),Zai (Ze0 ao) ah (Za7 Zic),?_,?_⟩
   ·rw[Zw4 _ _ _ (two_no ao).2.2,g6];lia
   ·simp[Tr.size,Bv];lia
  ·rintro ac H6 ⟨v4,uv,u,rfl,U,T6,ah,g6,z6⟩;left;exact q uv u H6 U T6 ah (by lia) (by lia)
inductive RcH (K:Pi)(H:Hp)(r:Addr)(o:Er):Prop
 |mk (q:Addr) (av:V) (ws:List V) (_:SqT K H r [av,.ref q,.int o.2.2]) (_:ThAt K H av o.1) (_:H q=some (.lst ws)) (_:Al (RwX K (λb=>b=q) H) ws o.2.1)
inductive PfAt (K:Pi)(H:Hp)(a:Addr)(pl:List Nat)(f:Tr):Prop
 |mk (p:Addr) (fv:V) (_:SqT K H a [.ref p,fv]) (_:SqT K H p (A9 pl)) (_:TrAt K H fv f)
def PfAt.same (h:PfAt K H a pl f)(s:Same H H'):PfAt K H' a pl f:=by
 obtain⟨p,O,h1,h2,I⟩:=h;exact⟨p,O,s.tup h1,s.tup h2,I.same s⟩
def RcH.same (h:RcH K H r o)(s:Same H H'):RcH K H' r o:=by
 obtain⟨q,I,Y,h1,h2,O,U⟩:=h;exact⟨q,I,Y,s.tup h1,ThAt.same s.t _ _ h2,s _ _ O,U.mono (RwX.same s.a)⟩
def FdX.bas (h:FdX K H1 H' v e)(s:Same H H1):FdX K H H' v e:=by
 cases h with
 |none h1 h2=>exact .none h1 h2
 |some o q rd Y U h1 h2 Z h4 h5 O I =>
  refine .some o q rd Y U h1 h2 Z h4 h5 (O.mono (RwX.mono λb hb _=>?_)) ?_
  ·rcases hb with hb|hb
   ·exact .inl hb
   ·refine .inr ?_;cases e:H b with
    |none=>exact absurd e hb
    |some o=>rw[s _ _ e];exact λz=>nomatch z
  ·cases h:H rd with
   |none=>rfl
   |some o=>rw[s _ _ h]at I;cases I
def Zkm (K:Pi):Sp:=λvs H Q _=>eX14 λ(tv:V)(r a1 a2:Addr)(t f g u v:Tr)(pl ql:List Nat)(o:Er)(e1 e:Option Er)=>vs=[tv,.ref r,.ref a1,.ref a2]/\TrAt K H tv t/\t.size<=100/\f.size<=100/\g.size<=100/\RcH K H r o/\Gj o/\PfAt K H a1 pl f/\PfAt K H a2 ql g/\K19.Sub t pl/\B1 t pl=some u/\u.wd="gap"/\K19.Sub (K19.withAt t pl f) ql/\B1 (K19.withAt t pl f) ql=some v/\v.wd="gap"/\Crs t f g pl ql o e1 e/\∀v H',Same H H'->FdX K H H' v e->Q v H'
def Zge:Bc ["_law_tree_here","_law_record","_law_one","_law_other","_law_first"] pS (A7 My):=by walk_at "sc"
def Zsu (F:Fu K "_law_both" My f fd)(T:Txt K mg)(kY:A5 P w K mg base 9 "_law_go_on" ["_law_tree_here","_law_record","_law_place","_law_form_here"] (Zb8 K TL))(kH:A5 P w K mg base 3 "_law_is_record" ["_law_found"] (Zex K))(kE:A5 P w K mg base 202 "_law_filled" ["_law_tree_here","_law_place","_law_form_here"] (Hk K 201)):FnOk P w K mg base As 203 f fd pS (Zkm K):=by
 refine F.okq Zge (λvs H Q E h=>?_) (λap A outer s H vs Q E hr h=>?_)
 ·obtain⟨tv,r,a1,a2,t,f,g,u,v,pl,ql,o,e1,e,rfl,_⟩:=h;rfl
 ·obtain⟨tv,r,a1,a2,t,f,g,u,v,pl,ql,o,e1,e,rfl,T0,hz,hf,hg,R0,gd,P1,P2,sp,hu,wu,sq,hv,wv,C,q⟩:=h;obtain⟨rq,av,ws,r1,r2,r3,r4⟩:=R0;obtain⟨p,fv,U,ag,ae⟩:=P1;obtain⟨p',gv,aa,al,aj⟩:=P2;have lp:pl.length+1<=t.size:=Os sp;have lq:=Os sq;have z1:(K19.withAt t pl f).size<=t.size+f.size:=Mw sp;refine⟨_,Ab (Ak 4 Zge (Az kY hr.m (Dj Ad Af (Ai K Av Aa) (Ai K Av Aa))))
   (Ab (Ay (QW.qt (C9 (Oy (Gn A6)) (Dm (C2 (Bx (Az kH hr.m (Aw A6))))))) (Ao A6) A2) (Ao (Az kY hr.m (Dj (Az kE hr.m (Bd Ad (Ai K Av Aa) (Ai K Av Aa))) A6 (Ai K A3 Aa) (Ai K A3 Aa))))),?_⟩
  left;refine A1 U rfl ?_;left;refine A1 U rfl ?_;left;refine lgR (TL:=TL) (o:=o) T0 (by lia) ag (by lia) sp hu wu ae gd.s gd.n r1 r2 r3 r4 C.a λv1 H1 Y D1=>?_;left;cases D1 with
  |none ak Z =>
   subst Z;refine Fl (by simp) ?_;left;exact q _ _ Y (.none (C.n ak) rfl)
  |some o1 qf rf af am an Z ac ai ad ah ao =>
   subst Z;obtain⟨O,G2⟩:=C.b o1 an;refine Ew (by simp) ?_;left;refine⟨_,o1,rfl,⟨qf,rf,af,am,_,rfl,ac,ai,ad,ah.mono λ_ _ h=>h.1⟩,O.t,O.l,O.n,?_⟩;left;refine A1 (Y.tup U) rfl ?_;left;refine A1 (Y.tup U) rfl ?_;left;refine⟨tv,fv,t,f,p,pl,rfl,T0.same Y,Y.tup ag,sp,by lia,by lia,by lia,ae.same Y,λaq H2 s2 T2=>?_⟩;have I:=Y.trans s2;left;refine A1 (I.tup aa) rfl ?_;left;refine A1 (I.tup aa) rfl ?_;left;refine lgR (TL:=TL) (o:=o1) T2 (by lia) (I.tup al) (by lia) sq hv wv (aj.same I) O.s O.n (s2.tup ac) (ThAt.same s2.t _ _ ai) (s2 _ _ ad) ((ah.mono (RwX.mono λb hb _=>.inl hb)).mono (RwX.same s2.a)) G2 λv2 H3 s3 D2=>?_;exact q _ _ (I.trans s3) (D2.bas I)
def FR.of (s:Same H H')(e:∃cs:List Int,H a=some (.lst (cs.map V.int))/\cs.length<=63):FR a H H':=⟨λb o _ h=>s b o h,let ⟨cs,e,l⟩:=e;⟨cs,s _ _ e,l⟩⟩
def FR.tup (x:FR a H H')(e:∃cs:List Int,H a=some (.lst (cs.map V.int))/\cs.length<=63)(h:H p=some (.tup xs)):H' p=some (.tup xs):=x.r _ _ (λz=>by obtain⟨cs,e,_⟩:=e;rw[z,e]at h;cases h) h
def FR.bd (x:FR a H H')(e:∃cs:List Int,H a=some (.lst (cs.map V.int))/\cs.length<=63)(h:BdAt K H b n)(nb:b≠a):BdAt K H' b n:=by
 obtain⟨bs,zs,b1,b2,I⟩:=h;exact⟨bs,zs,x.r _ _ nb b1,b2.mono (PrW.same (x.t e)),I⟩
structure G1 (K:Pi)(pm o p c:Addr)(pl:List Nat)(H:Hp):Prop where
 q:SqT K H o [.ref p,.ref c]
 t:H p=some (.tup (A9 pl))
 b:BdAt K H c 140
 nb:c≠pm
structure LF (K:Pi)(pn pm:Addr)(ts:List Str)(o1 p1 b1:Addr)(pl:List Nat)(o2 p2 b2:Addr)(ql:List Nat)(H:Hp):Prop where
 n:H pn=some (.lst (ts.map V.str))
 np:pn≠pm
 g:G1 K pm o1 p1 b1 pl H
 h:G1 K pm o2 p2 b2 ql H
 e:∃cs:List Int,H pm=some (.lst (cs.map V.int))/\cs.length<=63
def G1.step {K:Pi}{pm o p b:Addr}{pl:List Nat}{H H':Hp}(h:G1 K pm o p b pl H)(x:FR pm H H')(e:∃cs:List Int,H pm=some (.lst (cs.map V.int))/\cs.length<=63):G1 K pm o p b pl H':=⟨(x.t e).tup h.q,x.tup e h.t,x.bd e h.b h.nb,h.nb⟩
def LF.step (h:LF K pn pm ts o1 p1 b1 pl o2 p2 b2 ql H)(x:FR pm H H'):LF K pn pm ts o1 p1 b1 pl o2 p2 b2 ql H':=⟨x.r _ _ h.np h.n,h.np,h.g.step x h.e,h.h.step x h.e,x.e⟩
def Zjd (K:Pi):Sp:=λvs H Q _=>eX6 λ(a pn sp:Addr)(ts:List Str)(ws:List V)(ss:List (List Nat×Tr))=>vs=[.ref a,.ref pn,.ref sp]/\Script K H a/\H pn=some (.lst (ts.map V.str))/\ts.length=5/\H sp=some (.lst ws)/\Al (GpAt K F0 140 H) ws ss/\2<=ws.length/\ws.length<=1000/\∀(r a1 a2:Addr)(H':Hp)(i j:Nat)(x y:List Nat×Tr)(f g:Tr),Same H H'->ss[i]?=some x->ss[j]?=some y->i≠j->SqT K H' r [.ref a1,.ref a2]->PfAt K H' a1 x.1 f->PfAt K H' a2 y.1 g->Tf f->Tf g->f.size<=66->g.size<=66->Q (.ref r) H'
def Ga:Bc ["_law_script","_law_names_here","_law_spots_here","_law_cell_here","_law_at","_law_step","_law_one","_law_other","_law_more","_law_first","_law_sort","_law_second"] pU (A7 Nc):=by walk_at "sc"
def Zo0 (F:Fu K "_law_fillings" Nc f fd)(T:Txt K mg)(kC:A5 P w K mg base 1 "_law_cell" ["_law_script","_law_k"] (Ly K))(kD:A5 P w K mg base 1 "_law_mixed" ["_law_cell_here","_law_k"] Mx)(kA:A5 P w K mg base 23 "_law_form" ["_law_cells","_law_around","_law_names_here","_law_room","_law_sort"] (Ho K 20))(kF:A5 P w K mg base 2 "_law_is_free" ["_law_script"] (O0 K))(kK:A5 P w K mg base 33 "_law_any" ["_law_cells","_law_names_here","_law_deep"] (Hj K 32)):FnOk P w K mg base As 34 f fd pU (Zjd K):=by
 refine F.okq Ga (λvs H Q E h=>?_) (λa3 A outer s H vs Q E hr h=>?_)
 ·obtain⟨a,pn,sp,ts,I,ss,rfl,_⟩:=h;rfl
 ·obtain⟨a,pn,sp,ts,I,ss,rfl,SC,ac,aa,O,al,w2,w3,q⟩:=h;refine⟨_,Ab (Ak 3 Ga (Az kD hr.m (Ag (Az kC hr.m (Ag Ad Aa)) Aa)))
   (Ab (Ak 4 Ga (Ae Be (Az kC hr.m (Ag Ad Aa)) (B0 K T.len Av))) (Ab (Ak 5 Ga (Ae (B5 K) Aa (Ae Be (Ae Cf A3 Aa) (Ae Du (B0 K T.len Av) Aa)))) (Ab (Ak 6 Ga (Ai K Av A6)) (Ab (Ak 7 Ga (Ai K Av (Ae Be (Ae (B5 K) A6 (qv 5)) (B0 K T.len Av)))) (Ab (Ak 8 Ga (Lh K (Lh K (Eg (Fc K) Ad (Cv Aa) (Cv Aa)) (Cv Aa)) (Cv (Jl Jj Aa)))) (Ab (Ay (Bx (Az kF hr.m (Aw Ad))) (Ab (Ak 9 Ga (Az kK hr.m (Bd (Eg (Fc K) (qv 8) Fz (Cv Aa)) Af Aa))) (Ao (Aj (Ag (Aj (Ag (Ai K (qv 6) Aa) (qv 9))) (Aj (Ag (Ai K (qv 7) Aa) (Az kK hr.m (Bd (Eg (Fc K) (qv 8) (Cv Aa) Fz) Af Aa)))))))) A2) (Ab (Ak 10 Ga (Ai K (Bp (Bd Am Am Am)) (Ae Be A3 Aa))) (Ab (Ak 9 Ga (Az kA hr.m (Eu (qv 8) (Ai K (qv 6) Aa) Af (Ae (B5 K) Aa (Ae Be (Ae Cf A3 Aa) Aa)) (qv 10)))) (Ab (Ak 11 Ga (Az kA hr.m (Eu (qv 8) (Ai K (qv 7) Aa) Af (Ae (B5 K) Aa (Ae Be (Ae Cf A3 Aa) Aa)) Am))) (Ao (Aj (Ag (Aj (Ag (Ai K (qv 6) Aa) (qv 9))) (Aj (Ag (Ai K (qv 7) Aa) (qv 11))))))))))))))),?_⟩
  have bg:=big;obtain⟨ms,ao,hn⟩:=SC.ex;left;refine⟨a,2,rfl,SC,by decide,by decide,λz2=>?_⟩;left;refine⟨z2,0,rfl,by decide,by decide,λc a5 a6=>?_⟩;left;refine⟨a,2,rfl,SC,by decide,by decide,λz3=>?_⟩;left;refine Cd (SqL.of O) ?_;left;refine s_rI (by lia) ?_;obtain⟨i,hi,ah⟩:∃i:Nat,z3 % (I.length:Nat)=(i:Nat)/\i<I.length:=by
   have b0:=Qe z3 (show((I.length:Nat):Int)≠0 by lia);have b1:=Qi z3 (show(0:Int)<(I.length:Nat) by lia);exact⟨(z3 % (I.length:Nat)).toNat,by lia,by lia⟩
  rw[hi];left;refine Cd (SqL.of O) ?_;left;refine s_rI (by lia) ?_;obtain⟨k,ek,k1,k2⟩:∃k:Nat,1+c / 192 % (((I.length:Nat):Int)-1)=(k:Nat)/\1<=k/\k<I.length:=by
   have b0:=Qe (c / 192) (show(((I.length:Nat):Int)-1)≠0 by lia);have b1:=Qi (c / 192) (show(0:Int)<((I.length:Nat):Int)-1 by lia);exact⟨(1+c / 192 % (((I.length:Nat):Int)-1)).toNat,by lia,by lia,by lia⟩
  have hw:=Pk ah;obtain⟨x,hx⟩:∃x,ss[i]?=some x:=⟨_,Pk (by rw[<- al.1];exact ah)⟩;obtain⟨o1,p1,b1,am,Aw,ap,ag,_⟩:=al.2 i _ _ hw hx;obtain⟨j,ej,jl,ij⟩:∃j:Nat,(((i:Nat):Int)+((k:Nat):Int)) % ((I.length:Nat):Int)=(j:Nat)/\j<I.length/\i≠j:=by
   refine⟨(i+k) % I.length,?_,Nat.mod_lt _ (by lia),λe=>?_⟩
   ·rw[Int.natCast_emod,Int.natCast_add]
   ·by_cases l:i+k<I.length
    ·rw[Nat.mod_eq_of_lt l]at e;lia
    ·rw[Nat.mod_eq_sub_mod (by lia),Nat.mod_eq_of_lt (by lia)]at e;lia
  have ad:=Pk jl;obtain⟨y,hy⟩:∃y,ss[j]?=some y:=⟨_,Pk (by rw[<- al.1];exact jl)⟩;obtain⟨o2,p2,b2,an,Ag,ak,af,_⟩:=al.2 j _ _ ad hy;left;rw[ek];refine Br (SqL.of O) (Cs hw) ?_;rw[am];left;refine Cd (SqL.of O) ?_;left;refine s_rI (by lia) ?_;rw[ej];refine Br (SqL.of O) (Cs ad) ?_;rw[an];left;dsimp only[Lr];left;refine Gv ao λq1 e1=>?_;left;refine⟨q1,_,3,rfl,rfl,by decide,SqL.of Ac,λq2 e2=>?_⟩;left;refine⟨q2,_,-1,rfl,rfl,by decide,SqL.of Ac,λpm e3=>?_⟩;have ai:H pm=none:=((Same.upd e1).trans (Same.upd e2)).free e3;obtain⟨d5,e5,l5⟩:=Zb7 hn (some 5) (some 63);rw[e5]at e3;rw[e5,Zcy];have ld:(D8 (-1) d5).length<=21:=P9 (Zdp _ _) l5;generalize D8 (-1) d5=dm at ld ⊢;have Y:=(Same.upd (o:=.lst (Ca (ms.map V.int) (some 5) (some 63))) e1).trans ((Same.upd (o:=.lst (d5.map V.int)) e2).trans (Same.upd (o:=.lst (dm.map V.int)) e3));have em:(upd (upd (upd H q1 (.lst (Ca (ms.map V.int) (some 5) (some 63)))) q2 (.lst (d5.map V.int))) pm (.lst (dm.map V.int))) pm=some (.lst (dm.map V.int)):=Ac;revert Y em;generalize (upd (upd (upd H q1 (.lst (Ca (ms.map V.int) (some 5) (some 63)))) q2 (.lst (d5.map V.int))) pm (.lst (dm.map V.int)))=Hm;intro Y em;have ne:∀{b:Addr}{o:HO},H b=some o->b≠pm:=λh z=>by rw[z,ai]at h;cases h
  have lf:LF K pn pm ts o1 p1 b1 x.1 o2 p2 b2 y.1 Hm:=⟨Y _ _ ac,ne ac,⟨Y.tup Aw,Y _ _ ap,ag.same Y,by obtain⟨bs,zs,h,_⟩:=ag;exact ne h⟩,⟨Y.tup Ag,Y _ _ ak,af.same Y,by obtain⟨bs,zs,h,_⟩:=af;exact ne h⟩,dm,em,by lia⟩;have au:=SC.same Y;have up:∀{H6},FR pm Hm H6->Same H H6:=λr b o hb=>r.r b o (ne hb) (Y _ _ hb);clear e1 e2 e3 e5 l5 ai ao hw ad am an Aw Ag ap ak ag af ek ej k1 k2 hi ah jl O al ac SC;left;refine⟨a,rfl,au,λbb=>?_⟩;left;refine Bf (λ_=>?_) (λ_=>?_)
  ·left;refine Gv (SqL.of em) λq1 k1=>?_;obtain⟨d6,e6,l6⟩:=Zee dm none (some 10);rw[e6];have s1:=Same.upd (o:=.lst (d6.map V.int)) k1;left;refine⟨q1,pn,ts,d6,20,rfl,by decide,Ac,by lia,s1 _ _ lf.n,(λz=>by have h:=lf.n;rw[z,k1]at h;cases h),aa,λfv f H6 a4 fr _ _ T6 ff a0=>?_⟩;have u6:Same Hm H6:=λb o hb=>fr b o (λz=>by rw[z,k1]at hb;cases hb) (s1 _ _ hb);have U:=lf.step (FR.of u6 lf.e);left;refine A1 U.g.q rfl ?_;left;refine⟨Bl,λa1 h1=>?_⟩;have y1:=Same.upd (o:=.tup [.ref p1,fv]) h1;left;refine A1 (y1.tup U.h.q) rfl ?_;left;refine Gv (SqL.of (y1 _ _ (u6 _ _ em))) λq3 k3=>?_;obtain⟨d7,e7,l7⟩:=Zee dm (some 10) none;rw[e7];have s3:=Same.upd (o:=.lst (d7.map V.int)) k3;have u3:=y1.trans s3;left;refine⟨q3,pn,ts,d7,20,rfl,by decide,Ac,by lia,u3 _ _ U.n,(λz=>by have h:=y1 _ _ U.n;rw[z,k3]at h;cases h),aa,λgv g H8 ax Z _ _ T8 fg aw=>?_⟩;have u8:Same (upd H6 a1 (.tup [.ref p1,fv])) H8:=λb o hb=>Z b o (λz=>by rw[z,k3]at hb;cases hb) (s3 _ _ hb);left;refine⟨Bl,λa2 h2=>?_⟩;have y2:=Same.upd (o:=.tup [.ref p2,gv]) h2;left;refine⟨Bl,λr h3=>?_⟩;have y3:=Same.upd (o:=.tup [.ref a1,.ref a2]) h3;have w3:=y2.trans y3;have w8:=u8.trans w3;have w1:=y1.trans w8;exact q r a1 a2 _ i j x y f g (Y.trans (u6.trans w1)) hx hy ij (SqT.of Ac) ⟨p1,fv,SqT.of (w8 _ _ Ac),SqT.of (w1 _ _ U.g.t),T6.same w1⟩ ⟨p2,gv,SqT.of (y3 _ _ Ac),SqT.of (w1 _ _ U.h.t),T8.same w3⟩ ff fg (by lia) (by lia)
  ·obtain⟨aj,er,rl,ru⟩:∃k:Nat,1+c / 3 % 8=(k:Int)/\1<=k/\k<=8:=⟨(1+c / 3 % 8).toNat,by lia,by lia,by lia⟩;obtain⟨ae,av,aq,ay⟩:∃k:Nat,1+c / 24 % 8=(k:Int)/\1<=k/\k<=8:=⟨(1+c / 24 % 8).toNat,by lia,by lia,by lia⟩;obtain⟨so,as⟩:∃so:Str,Cq [V.str "num",.str "truth",.str "fun"] (c % 3)=some (.str so):=by
    rcases (show c % 3=0\/c % 3=1\/c % 3=2 by lia) with h|h|h <;> rw[h] <;> exact⟨_,rfl⟩
   left;refine⟨Bs,λq1 k1=>?_⟩;have s1:=Same.upd (o:=.lst [.str "num",.str "truth",.str "fun"]) k1;left;refine Br (SqL.of Ac) as ?_;have x1:=FR.of s1 lf.e;have l1:=lf.step x1;left;refine A1 l1.g.q rfl ?_;left;rw[er];refine⟨pm,b1,pn,ts,140,aj,so,rfl,⟨l1.e,l1.g.b,l1.g.nb,l1.n,l1.np,aa⟩,by lia,rl,by lia,λfv f H7 fr T7 ff a7=>?_⟩;have l7:=l1.step fr;left;refine A1 l7.h.q rfl ?_;left;rw[av];refine⟨pm,b2,pn,ts,140,ae,"num",rfl,⟨l7.e,l7.h.b,l7.h.nb,l7.n,l7.np,aa⟩,by lia,aq,by lia,λgv g H8 Z T8 fg aw=>?_⟩;have l8:=l7.step Z;have T7:=T7.sameT (Z.t l7.e);left;refine A1 l8.g.q rfl ?_;left;refine⟨Bl,λa1 h1=>?_⟩;have y1:=Same.upd (o:=.tup [.ref p1,fv]) h1;left;refine A1 (y1.tup l8.h.q) rfl ?_;left;refine⟨Bl,λa2 h2=>?_⟩;have y2:=Same.upd (o:=.tup [.ref p2,gv]) h2;left;refine⟨Bl,λr h3=>?_⟩;have y3:=Same.upd (o:=.tup [.ref a1,.ref a2]) h3;have w3:=y2.trans y3;have w1:=y1.trans w3;exact q r a1 a2 _ i j x y f g ((up (x1.trans (fr.trans Z))).trans w1) hx hy ij (SqT.of Ac) ⟨p1,fv,SqT.of (w3 _ _ Ac),SqT.of (w1 _ _ l8.g.t),T7.same w1⟩ ⟨p2,gv,SqT.of (y3 _ _ Ac),SqT.of (w1 _ _ l8.h.t),T8.same w1⟩ ff fg (by lia) (by lia)
def MdC.t' {t:Tr}{us:List Str}{o:Er}(h:MdC ((walk [] t).filter (Eh us)) o)(hu:("let":Str)∈us):MdT t o:=by
 refine⟨λj r O=>?_,h.l,h.t,h.n⟩;obtain⟨x,I,m⟩:=h.m j r O;obtain⟨h1,h2⟩:=Tk.mp I;refine⟨x,h1,λe=>?_,m⟩;have h2:(!decide (x.2.wd∈us))=true:=h2;rw[e,dH hu]at h2;cases h2
def Zko {t:Tr}{i:Nat}{x:List Nat×Tr}(h:((walk [] t).filter Ez)[i]?=some x):K19.Sub t x.1/\B1 t x.1=some x.2/\x.2.wd="gap":=by
 obtain⟨h1,h2⟩:=Tk.mp (Qu h);obtain⟨I,O⟩:=Zey t x h1;exact⟨I,by rw[<- Zeu I];exact O,dJ h2⟩
def Zjf (h:2<=nG t):O5 t:=by
 obtain⟨x,I⟩:=List.exists_mem_of_length_pos (show 0<((walk [] t).filter Ez).length from by unfold nG at h;lia);obtain⟨h1,h2⟩:=Tk.mp I;exact⟨x,h1,dJ h2⟩
inductive AnW (K:Pi)(H:Hp)(v:V)(e:Option Er):Prop
 |some (o:Er) (r:Addr) (_:e=some o) (_:v=.ref r) (_:RcH K H r o)
 |none (_:e=none) (_:v=.non)
def AnW.same (h:AnW K H v e)(s:Same H H'):AnW K H' v e:=by
 cases h with
 |none h1 h2=>exact .none h1 h2
 |some o r h1 h2 I=>exact .some o r h1 h2 (I.same s)
def RcH.at (h:RcH K H r o):RcAt K H (.ref r) o:=by
 obtain⟨q,I,U,h1,h2,O,Y⟩:=h;exact⟨r,q,I,U,_,rfl,h1,h2,O,Y.mono λ_ _ h=>h.1⟩
def FdX.h (h:FdX K H H' v e):AnW K H' v e:=by
 cases h with
 |none h1 h2=>exact .none h1 h2
 |some o q rd U O h1 h2 Y Z h5 I h7=>exact .some o q h1 h2 ⟨rd,U,O,Y,Z,h5,I.mono (RwX.mono λb hb _=>.inl hb)⟩
inductive LK (K:Pi)(t t2:Tr)(st:V->V->Option V->St)(c:Int)(H:Hp)(σ:St)(H':Hp):Prop
 |mk (r:Addr) (o:Er) (av:V) (v8:Option V) (_:σ=st (.ref r) av v8) (_:Same H H') (_:RcH K H' r o) (_:RcT t o) (_:c % 2=0/\av=.non\/c % 2≠0/\Ex (Bw t) [] [] [] o.1 o.2.1 o.2.2/\o.2.2<=500/\∃e',AnW K H' av e'/\Zam (Bw t2) e')
def Zj6 (K:Pi):Sp:=λvs H Q _=>eX2 λ(a:Addr)(ns:List Int)=>vs=[.ref a]/\SqL K H a (ns.map V.int)/\ns.length<=63/\∀H',Q (.bl true) H'
def E9:Bc ["_law_script","_law_names_here","_law_tree_here","_law_one","_law_other","_law_record","_law_anew","_law_made","_law_filled_here","_law_left","_law_right"] pV (A7 Lk):=by walk_at "sc"
def Zt8 (F:Fu K "law" Lk f fd)(T:Txt K mg)(kC:A5 P w K mg base 1 "_law_cell" ["_law_script","_law_k"] (Ly K))(kD:A5 P w K mg base 1 "_law_mixed" ["_law_cell_here","_law_k"] Mx)(kP:A5 P w K mg base 8 "_law_same" ["_law_found","_law_due"] (Jn K 7))(cV:A5 P w K mg base 2 "_law_names" ["_law_cell_here","_law_many"] Ziv)(kF:A5 P w K mg base 2 "_law_is_free" ["_law_script"] (O0 K))(kH:A5 P w K mg base 3 "_law_is_record" ["_law_found"] (Zex K))(cF:A5 P w K mg base 8 "_law_run" ["_law_tree_here"] (Zk4 K))(kE:A5 P w K mg base 202 "_law_filled" ["_law_tree_here","_law_place","_law_form_here"] (Hk K 201))(kL:A5 P w K mg base 151 "_law_gaps" ["_law_form_here","_law_place","_law_bound"] (Ij K 150))(cB:A5 P w K mg base 73 "_law_free_record" ["_law_tree_here","_law_cells","_law_script"] (Zjy K))(cO:A5 P w K mg base 73 "_law_made_up" ["_law_tree_here","_law_cells","_law_steps"] (Zfg K))(cE:A5 P w K mg base 203 "_law_both" ["_law_tree_here","_law_record","_law_one","_law_other"] (Zkm K))(cX:A5 P w K mg base 152 "_law_tree" ["_law_script","_law_names_here"] (Zhe K))(cJ:A5 P w K mg base 34 "_law_fillings" ["_law_script","_law_names_here","_law_spots_here"] (Zjd K)):FnOk P w K mg base As 204 f fd pV (Zj6 K):=by
 refine F.okq E9 (λvs H Q E h=>?_) (λbr A outer s H vs Q E I h=>?_)
 ·obtain⟨a,ns,rfl,_⟩:=h;rfl
 ·obtain⟨a,ms,rfl,hS,hn,q⟩:=h;refine⟨_,Ab (Ak 1 E9 (Az cV I.m (Ag (Az kC I.m (Ag Ad Aa)) Aa)))
   (Ab (Ak 2 E9 (Az cX I.m (Ag Ad Af))) (Ab (Et (Az cJ I.m (Bd Ad Af (Az kL I.m (Bd Av (Aj Bm) (Bp Bm))))) (G0 K E9 3 4)) (Ab (Ak 5 E9 (Az cF I.m (Aw Av))) (Ab (Ak 6 E9 Fm) (Ab (Ak 7 E9 (Az kD I.m (Ag (Az kC I.m (Ag Ad Aa)) Aa))) (Ab (Ay (Bk K I (Ae Be (qv 7) Aa) Aa) (Ab (Ak 5 E9 (Az cO I.m (Bd Av (Lh K (Eg (Fc K) Ad (Cv Aa) (Cv Aa)) (Cv Aa)) (Ae Be (Ae Cf (qv 7) Aa) Aa)))) (A4 (Ay (Bx (Az kF I.m (Aw Ad))) (A4 (Ak 5 E9 (Az cB I.m (Bd Av (Lh K (Eg (Fc K) Ad (Cv Aa) (Cv Aa)) (Cv Aa)) Ad)))) A2))) (A4 (Ay (QW.qt (C9 (Oy (Gn (qv 5))) (Dm (C2 (Bx (Az kH I.m (Aw (qv 5)))))))) (Ao (Kn (Gn (qv 5)))) (Ab (Ak 8 E9 (Az kE I.m (Bd Av (Ai K A3 Aa) (Ai K A3 Aa)))) (A4 (Ak 6 E9 (Az cF I.m (Aw (Az kE I.m (Bd (qv 8) (Ai K A6 Aa) (Ai K A6 Aa))))))))))) (Ab (Ak 9 E9 (Az cE I.m (Dj Av (qv 5) A3 A6))) (Ab (Ak 10 E9 (Az cE I.m (Dj Av (qv 5) A6 A3))) (Ab (Ay (QW.qt (C9 (Oy (Gn (qv 9))) (Dm (Oy (Gn (qv 10)))))) (Ao (F6 (Kn (Gn (qv 9))) (F6 (Kn (Gn (qv 10))) (Go (Kn (Gn (qv 6))))))) A2) (Ab (Ay (QW.qt (C9 (C2 (Bx (Az kH I.m (Aw (qv 9))))) (Dm (C2 (Bx (Az kP I.m (Ag (qv 10) (qv 9)))))))) (Ao Cw) A2) (Ab (Ay (Bk K I (Ae Be (qv 7) Aa) Aa) (Ao Cw) A2) (Ao (F6 (Kn (Zlq (qv 6))) (Go (Az kP I.m (Ag (qv 6) (qv 9))))))))))))))))),?_⟩
  have bg:=big;left;refine⟨a,1,rfl,⟨ms,hS,hn⟩,by decide,by decide,λz1=>?_⟩;left;refine⟨z1,rfl,λpn ts Hn sn bp ao as=>?_⟩;have aa:=sn.seq hS;have am:Script K Hn a:=⟨ms,aa,hn⟩;clear hS bp sn;left;refine⟨a,pn,ts,rfl,am,as,ao,λtv t H1 s1 T1 tf ng hz=>?_⟩;left;refine⟨Bj,λp5 h5=>?_⟩;have s5:=Same.upd (o:=.tup []) h5;left;refine⟨Bj,λp6 h6=>?_⟩;have U:=Same.upd (o:=.lst []) h6;left;refine⟨tv,t,p5,p6,[],0,140,F0,rfl,T1.same (s5.trans U),tf,U _ _ Ac,⟨[],[],Ac,.nil,Pm _⟩,by lia,by simp;lia,by lia,by decide,(λz hz=>hz.elim),id,λrg ws H2 s7 e7 af=>?_⟩;have aj:=s5.trans (U.trans s7);have ac:=s1.trans aj;have hg:ws.length=nG t:=af.1;have lg:nG t<=t.size:=by unfold nG;exact P9 (Th _ _) (Nat.le_of_eq (J1 [] t))
  left;refine⟨a,pn,rg,ts,ws,_,rfl,am.same ac,ac _ _ as,ao,e7,af,by lia,by lia,λrf a1 a2 H3 i j x y fl gl s3 hx hy ij qf P1 P2 ff fg zf zg=>?_⟩;left;refine Dv qf rfl ?_;have aq:=ac.trans s3;have T3:=T1.same (aj.trans s3);obtain⟨sp,hu,wu⟩:=Zko hx;obtain⟨sq,hv,wv⟩:=Zko hy;have ne:=Zu0 hx hy ij;have S:=Zbi tf (show t.size<=5000 by lia);have An:∀t:Tr,(Bw t []).isSome=true:=λt=>by rw[Jf,Fd];rfl
  obtain⟨e0,m0,RZ,RX⟩:=Zhu S (An t);clear s5 U s7 h5 h6 e7 af aj ac s1 T1;left;refine⟨tv,t,e0,m0,rfl,T3,by lia,RX,λv0 H4 s4 D0=>?_⟩;have A0:=D0.h;have ax:=aq.trans s4;have T4:=T3.same s4;have P1:=P1.same s4;have P2:=P2.same s4;have ag:=am.same ax;clear s4 D0 aq T3 s3 qf;left;refine⟨a,0,rfl,ag,by decide,by decide,λz3=>?_⟩;left;refine⟨z3,0,rfl,by decide,by decide,λc bv bw=>?_⟩;have aa:=ax.seq aa;have z1:t.size<=100:=by lia
  have z2:fl.size<=100:=by lia
  have O:gl.size<=100:=by lia
  obtain⟨ae,be,ww,F1,F2,_,S1,S2,bu,bt⟩:=two_of tf ff fg z1 z2 O sp hu wu sq hv wv ne;obtain⟨a6,ba,_,_⟩:=two_of tf fg ff z1 O z2 sq hv wv sp hu wu ne.symm;have lx:=Os sp;have ly:=Os sq;have zt:(K19.withAt t x.1 fl).size<=t.size+fl.size:=Mw sp;have bx:(K19.withAt (K19.withAt t x.1 fl) y.1 gl).size<=(K19.withAt t x.1 fl).size+gl.size:=Mw ae;refine s_gname ?_;with_reducible refine s_seq ?_
  refine Cu (t:=Cm _ _ _) (R:=LK K t (K19.withAt (K19.withAt t x.1 fl) y.1 gl) (λr av v8=>[some (.ref a),some (.ref pn),some tv,some (.ref a1),some (.ref a2),some r,some av,some (.int c),v8,none,none]) c H4) ?_ ?_;rotate_left
  ·intro Y hY;left;by_cases hc:c % 2=0
   ·obtain⟨d4,e4,l4⟩:=Zb7 hn (some 4) (some 63);have done:∀{H7:Hp}{v:V}{o:Er}{us:List Str}{H6:Hp}{Z:Prop},Same H4 H6->Zdw K H6 H7 ((walk [] t).filter (Eh us)) v o->("let":Str)∈us->(∀r,v=.ref r->Same H4 H7->RcH K H7 r o->RcT t o->Z)->Z:=λs R hu z=>by
     obtain⟨r,rd,av,rv,e,s',q,th,er,_,al,m⟩:=R;exact z r e (s.trans s') ⟨rd,av,rv,q,th,er,al.mono (RwX.mono λb hb _=>.inl hb)⟩ ((m.t' hu).rc z1)
    refine Fl (by rw[hc];rfl) ?_;left;dsimp only[Lr];left;refine Gv aa λq1 k1=>?_;left;refine⟨q1,_,3,rfl,rfl,by decide,SqL.of Ac,λq2 k2=>?_⟩;rw[e4];have U:=(Same.upd (o:=.lst (Ca (ms.map V.int) (some 4) (some 63))) k1).trans (Same.upd (o:=.lst (d4.map V.int)) k2);left;refine⟨tv,q2,c / 2 % 99,t,d4,rfl,T4.same U,tf,hz,Zjf ng,Ac,l4,by lia,by lia,λv o H7 R=>done U R (by right) λr ev s7 R7 RT=>?_⟩;subst ev;left;refine⟨a,rfl,ag.same s7,λbb=>?_⟩;left;refine Bf (λ_=>?_) (λ_=>?_)
    ·left;dsimp only[Lr];left;refine Gv (s7.seq aa) λq3 k3=>?_;left;refine⟨q3,_,3,rfl,rfl,by decide,SqL.of Ac,λq4 k4=>?_⟩;rw[e4];have s8:=s7.trans ((Same.upd (o:=.lst (Ca (ms.map V.int) (some 4) (some 63))) k3).trans (Same.upd (o:=.lst (d4.map V.int)) k4));left;refine⟨tv,q4,a,t,d4,rfl,T4.same s8,tf,hz,Zjf ng,Ac,l4,ag.same s8,λv o H9 R=>done s8 R (by right) λr ev s9 R9 RT=>?_⟩;subst ev;left;exact hY _ _ ⟨r,o,.non,_,rfl,s9,R9,RT,.inl ⟨hc,rfl⟩⟩
    ·left;exact hY _ _ ⟨r,o,.non,_,rfl,s7,R7,RT,.inl ⟨hc,rfl⟩⟩
   ·refine Ew (dI λh=>hc (V.int.inj h)) ?_;left;cases A0 with
    |none bq ak =>
     subst ak;refine Fl (by simp) ?_;left;exact q _
    |some o0 r0 bn ak R0 =>
     subst ak;obtain⟨x0,n0⟩:=RZ.1 o0 bn;obtain⟨g0,g1,g2,g3⟩:=Zju S x0 n0;obtain⟨p1,fv,ay,bi,bh⟩:=P1;obtain⟨p2,gv,ap,a9,a5⟩:=P2;obtain⟨e9,m9,bo,a7⟩:=Zhu S2 (An _);refine Ew (by simp) ?_;left;refine⟨_,o0,rfl,R0.at,g0.t,g0.l,g0.n,?_⟩;left;refine A1 ay rfl ?_;left;refine A1 ay rfl ?_;left;refine⟨tv,fv,t,fl,p1,x.1,rfl,T4,bi,sp,by lia,by lia,by lia,bh,λbf H5 s5 T5=>?_⟩;left;refine A1 (s5.tup ap) rfl ?_;left;refine A1 (s5.tup ap) rfl ?_;left;refine⟨bf,gv,_,gl,p2,y.1,rfl,T5,s5.tup a9,ae,by lia,by lia,by lia,a5.same s5,λa3 H6 U T6=>?_⟩;left;refine⟨a3,_,e9,m9,rfl,T6,by lia,a7,λv9 H7 s7 D9=>?_⟩;left;have au:=s5.trans (U.trans s7);exact hY _ _ ⟨r0,o0,v9,_,rfl,au,R0.same au,⟨g1,g2,g3,g0⟩,.inr ⟨hc,x0,n0,e9,D9.h,bo⟩⟩
  rintro _ H5 ⟨r,o,av,v8,rfl,s5,R5,RT,ad⟩;obtain⟨e1,e,C⟩:=Zht tf ff fg z1 z2 O sp hu wu sq hv wv ne RT;obtain⟨a4,e',C'⟩:=Zht tf fg ff z1 O z2 sq hv wv sp hu wu ne.symm RT;have ee:=Zn5 tf ff fg z1 z2 O sp hu wu sq hv wv ne C C';subst ee;have T5:=T4.same s5;have a0:=P1.same s5;have an:=P2.same s5;have ad:c % 2=0/\av=.non\/c % 2≠0/\AnW K H5 av e:=by
   rcases ad with h|⟨h1,h2,h3,e',h4,h5⟩
   ·exact .inl h
   ·have:=Zmx tf ff fg z1 z2 O sp hu wu sq hv wv ne h2 h3 C h5;rw[this];exact .inr ⟨h1,h4⟩
  left;refine⟨tv,r,a1,a2,t,fl,gl,x.2,y.2,x.1,y.1,o,e1,e,rfl,T5,z1,z2,O,R5,RT.g,a0,an,sp,hu,wu,ae,be,wv,C,λvL H6 U DL=>?_⟩;left;refine⟨tv,r,a2,a1,t,gl,fl,y.2,x.2,y.1,x.1,o,a4,e,rfl,T5.same U,z1,O,z2,R5.same U,RT.g,an.same U,a0.same U,sq,hv,wv,a6,ba,wu,C',λvR H7 s7 DR=>?_⟩;have AL:=DL.h.same s7;have AR:=DR.h;have a8:=U.trans s7;left;cases AL with
  |none en ah =>
   subst ah;cases AR with
   |some o2 r2 e2=>rw[en]at e2;cases e2
   |none _ ai =>
    subst ai;have aw:av=.non:=by
     rcases ad with h|⟨_,h⟩
     ·exact h.2
     ·cases h with
      |none _ h=>exact h
      |some o2 r2 e2=>rw[en]at e2;cases e2
    subst aw;refine Fl (by simp) ?_;left;refine Fl (by simp) ?_;left;refine Fl (by simp) ?_;left;exact q _
  |some oL rL eL ah RL =>
   subst ah;cases AR with
   |none en _=>rw[en]at eL;cases eL
   |some oR rR eR ai RR =>
    subst ai;rw[eL]at eR;cases eR;have gd:=C.g oL eL;refine Ew (by simp) ?_;left;refine Ew (by simp) ?_;left;refine⟨_,oL,rfl,RL.at,gd.t,gd.l,gd.n,?_⟩;left;refine⟨_,_,_,6,rfl,by decide,RR.at.d,RL.at.d,Zh3 gd,λH8 s8=>?_⟩;left;rcases ad with⟨hc,aw⟩|⟨hc,h⟩
    ·refine Fl (by rw[hc];rfl) ?_;left;exact q _
    ·refine Ew (dI λh=>hc (V.int.inj h)) ?_;cases h with
     |none en _=>rw[en]at eL;cases eL
     |some oA rA eA bj RA =>
      subst bj;rw[eL]at eA;cases eA;left;refine Fl (by simp) ?_;left;refine⟨_,_,_,6,rfl,by decide,(RA.same (a8.trans s8)).at.d,(RL.same s8).at.d,Zh3 gd,λH9 s9=>?_⟩;left;exact q _
end
local macro_rules | `(tactic| walk_at "zA")=>`(tactic| exact(let +zeta a:=_; let +zeta b:=_; let +zeta c:=_; have +usedOnly q:(‹Stmt›:Stmt)=.Assign a b c:=rfl; .Assign a b c))
local macro_rules | `(tactic| walk_at "zC")=>`(tactic| exact(let +zeta a:=_; let +zeta b:=_; let +zeta c:=_; let +zeta d:=_; let +zeta e:=_; let +zeta f:=_; let +zeta g:=_; let +zeta h:=_; let +zeta i:=_; let +zeta j:=_; let +zeta k:=_; have +usedOnly q:(‹Stmt›:Stmt)=.ClassDef a b c d e f g h i j k:=rfl; .ClassDef a b c d e f g h i j k))
local macro_rules | `(tactic| walk_at "zF")=>`(tactic| exact(let +zeta a:=_; let +zeta b:=_; let +zeta c:=_; let +zeta d:=_; let +zeta e:=_; let +zeta f:=_; let +zeta g:=_; let +zeta h:=_; let +zeta i:=_; let +zeta j:=_; have +usedOnly q:(‹Stmt›:Stmt)=.FunctionDef a b c d e f g h i j:=rfl; .FunctionDef a b c d e f g h i j))
noncomputable def w0:Stmt:=by let +zeta s:=An 0;walk_at "zA"
noncomputable def w1:Stmt:=by let +zeta s:=An 1;walk_at "zC"
noncomputable def w2:Stmt:=by let +zeta s:=An 2;walk_at "zC"
noncomputable def w3:Stmt:=by let +zeta s:=An 3;walk_at "zC"
noncomputable def w4:Stmt:=by let +zeta s:=An 4;walk_at "zC"
noncomputable def w5:Stmt:=by let +zeta s:=An 5;walk_at "zA"
noncomputable def w6:Stmt:=by let +zeta s:=An 6;walk_at "zF"
noncomputable def w7:Stmt:=by let +zeta s:=An 7;walk_at "zA"
noncomputable def w8:Stmt:=by let +zeta s:=An 8;walk_at "zF"
noncomputable def w9:Stmt:=by let +zeta s:=An 9;walk_at "zF"
noncomputable def w10:Stmt:=by let +zeta s:=An 10;walk_at "zF"
noncomputable def w11:Stmt:=by let +zeta s:=An 11;walk_at "zF"
noncomputable def w12:Stmt:=by let +zeta s:=An 12;walk_at "zF"
noncomputable def w13:Stmt:=by let +zeta s:=An 13;walk_at "zF"
noncomputable def w14:Stmt:=by let +zeta s:=An 14;walk_at "zA"
noncomputable def w15:Stmt:=by let +zeta s:=An 15;walk_at "zF"
noncomputable def w16:Stmt:=by let +zeta s:=An 16;walk_at "zA"
noncomputable def w17:Stmt:=by let +zeta s:=An 17;walk_at "zF"
noncomputable def w18:Stmt:=by let +zeta s:=An 18;walk_at "zA"
noncomputable def w19:Stmt:=by let +zeta s:=An 19;walk_at "zF"
noncomputable def w20:Stmt:=by let +zeta s:=An 20;walk_at "zA"
noncomputable def w21:Stmt:=by let +zeta s:=An 21;walk_at "zA"
noncomputable def w22:Stmt:=by let +zeta s:=An 22;walk_at "zA"
noncomputable def w23:Stmt:=by let +zeta s:=An 23;walk_at "zA"
noncomputable def w24:Stmt:=by let +zeta s:=An 24;walk_at "zF"
noncomputable def w25:Stmt:=by let +zeta s:=An 25;walk_at "zF"
noncomputable def Zmr:Stmt:=by let +zeta s:=(Co 26 0);walk_at "zF"
noncomputable def Zwl:Stmt:=by let +zeta s:=(Co 26 1);walk_at "zF"
noncomputable def Zt7:Stmt:=by let +zeta s:=(Co 26 2);walk_at "zF"
noncomputable def Zpd:Stmt:=by let +zeta s:=(Co 26 3);walk_at "zF"
noncomputable def Zvf:Stmt:=by let +zeta s:=(Co 26 4);walk_at "zF"
noncomputable def Zwi:Stmt:=by let +zeta s:=(Co 26 5);walk_at "zF"
noncomputable def Zua:Stmt:=by let +zeta s:=(Co 26 6);walk_at "zF"
noncomputable def Zsz:Stmt:=by let +zeta s:=(Co 26 7);walk_at "zF"
noncomputable def Zm3:Stmt:=by let +zeta s:=(Co 26 8);walk_at "zF"
noncomputable def Zuf:Stmt:=by let +zeta s:=(Co 26 9);walk_at "zF"
noncomputable def Zol:Stmt:=by let +zeta s:=(Co 26 10);walk_at "zF"
noncomputable def Zmw:Stmt:=by let +zeta s:=(Co 26 11);walk_at "zF"
noncomputable def Zo1:Stmt:=by let +zeta s:=(Co 26 12);walk_at "zF"
noncomputable def w26:Stmt:=let +zeta a:=_;let +zeta b:=_;let +zeta c:=_;let +zeta d:=_;let +zeta e:=_;let +zeta f:=_;let +zeta g:=_;let +zeta h:=_;let +zeta i:=_;let +zeta j:=_;let +zeta k:=_;have +usedOnly q:An 26=.ClassDef a b c d e f g h i j k:=rfl;.ClassDef a b c [Zmr,Zwl,Zt7,Zpd,Zvf,Zwi,Zua,Zsz,Zm3,Zuf,Zol,Zmw,Zo1] e f g h i j k
noncomputable def w27:Stmt:=by let +zeta s:=An 27;walk_at "zA"
noncomputable def w28:Stmt:=by let +zeta s:=An 28;walk_at "zF"
noncomputable def w29:Stmt:=by let +zeta s:=An 29;walk_at "zF"
noncomputable def w30:Stmt:=by let +zeta s:=An 30;walk_at "zF"
noncomputable def w31:Stmt:=by let +zeta s:=An 31;walk_at "zA"
noncomputable def w32:Stmt:=by let +zeta s:=An 32;walk_at "zF"
noncomputable def w33:Stmt:=by let +zeta s:=An 33;walk_at "zA"
noncomputable def w34:Stmt:=by let +zeta s:=An 34;walk_at "zF"
noncomputable def w35:Stmt:=by let +zeta s:=An 35;walk_at "zF"
noncomputable def w36:Stmt:=by let +zeta s:=An 36;walk_at "zF"
noncomputable def w37:Stmt:=by let +zeta s:=An 37;walk_at "zF"
noncomputable def w38:Stmt:=by let +zeta s:=An 38;walk_at "zF"
noncomputable def w39:Stmt:=by let +zeta s:=An 39;walk_at "zF"
noncomputable def w40:Stmt:=by let +zeta s:=An 40;walk_at "zF"
noncomputable def w41:Stmt:=by let +zeta s:=An 41;walk_at "zF"
noncomputable def w42:Stmt:=by let +zeta s:=An 42;walk_at "zF"
noncomputable def w43:Stmt:=by let +zeta s:=An 43;walk_at "zF"
noncomputable def w44:Stmt:=by let +zeta s:=An 44;walk_at "zF"
noncomputable def w45:Stmt:=by let +zeta s:=An 45;walk_at "zF"
noncomputable def w46:Stmt:=by let +zeta s:=An 46;walk_at "zF"
noncomputable def w47:Stmt:=by let +zeta s:=An 47;walk_at "zF"
noncomputable def w48:Stmt:=by let +zeta s:=An 48;walk_at "zF"
noncomputable def w49:Stmt:=by let +zeta s:=An 49;walk_at "zF"
noncomputable def w50:Stmt:=by let +zeta s:=An 50;walk_at "zF"
noncomputable def w51:Stmt:=by let +zeta s:=An 51;walk_at "zF"
noncomputable def w52:Stmt:=by let +zeta s:=An 52;walk_at "zF"
noncomputable def w53:Stmt:=by let +zeta s:=An 53;walk_at "zF"
noncomputable def w54:Stmt:=by let +zeta s:=An 54;walk_at "zF"
noncomputable def w55:Stmt:=by let +zeta s:=An 55;walk_at "zF"
noncomputable def w56:Stmt:=by let +zeta s:=An 56;walk_at "zF"
noncomputable def w57:Stmt:=by let +zeta s:=An 57;walk_at "zF"
noncomputable def w58:Stmt:=by let +zeta s:=An 58;walk_at "zF"
noncomputable def w59:Stmt:=by let +zeta s:=An 59;walk_at "zF"
noncomputable def w60:Stmt:=by let +zeta s:=An 60;walk_at "zF"
noncomputable def w61:Stmt:=by let +zeta s:=An 61;walk_at "zF"
noncomputable section
def pk0 (r:List Stmt):List Stmt:=w0::w1::w2::w3::w4::w5::w6::w7::r
def pk1 (r:List Stmt):List Stmt:=w8::w9::w10::w11::w12::w13::w14::w15::r
def pk2 (r:List Stmt):List Stmt:=w16::w17::w18::w19::w20::w21::w22::w23::r
def pk3 (r:List Stmt):List Stmt:=w24::w25::w26::w27::w28::w29::w30::w31::r
def pk4 (r:List Stmt):List Stmt:=w32::w33::w34::w35::w36::w37::w38::w39::r
def pk5 (r:List Stmt):List Stmt:=w40::w41::w42::w43::w44::w45::w46::w47::r
def pk6 (r:List Stmt):List Stmt:=w48::w49::w50::w51::w52::w53::w54::w55::r
def pk7 (r:List Stmt):List Stmt:=w56::w57::w58::w59::w60::w61::r
def PWc:Program:=let +zeta a:=_;let +zeta b:=_;let +zeta c:=_;let +zeta d:=_;let +zeta e:=_;let +zeta f:=_;let +zeta g:=_;let +zeta h:=_;let +zeta i:=_;let +zeta j:=_;have +usedOnly q:Te=⟨⟨a,b,c,d,e⟩,f,g,h,i,j⟩:=rfl;⟨⟨pk0 (pk1 (pk2 (pk3 (pk4 (pk5 (pk6 (pk7 []))))))),b,c,d,e⟩,f,g,h,i,j⟩
end
theorem e_PW:PWc=PWc:=rfl
name_quick x_PW for K54.PWc by K54.e_PW
end K54
namespace PySem.W.Fast
noncomputable def tw7738105337095147873:PySem.Program:=tw4556179217369732120
theorem te7738105337095147873:Te=tw7738105337095147873:=(rfl:Te=K54.PWc).trans te4556179217369732120
end PySem.W.Fast
namespace K54
open PySem L2
noncomputable section
def vk0 (r:List Stmt):List Stmt:=w1::w2::w3::w4::w6::w8::w9::w10::r
def vk1 (r:List Stmt):List Stmt:=w11::w12::w13::w15::w17::w19::w21::w22::r
def vk2 (r:List Stmt):List Stmt:=w23::w24::w25::w26::w28::w29::w30::w32::r
def vk3 (r:List Stmt):List Stmt:=w34::w35::w36::w37::w38::w39::w40::w41::r
def vk4 (r:List Stmt):List Stmt:=w42::w43::w44::w45::w46::w47::w48::w49::r
def vk5 (r:List Stmt):List Stmt:=w50::w51::w52::w53::w54::w55::w56::w57::r
def vk6 (r:List Stmt):List Stmt:=w58::w59::w60::w61::r
def VWc:Program:={ Te with main:={ Te.main with body:=vk0 (vk1 (vk2 (vk3 (vk4 (vk5 (vk6 [])))))) } }
def S0:List Stmt:=[w53,w54,w55,w56,w57,w58,w59,w60,w61]
def S1:List Stmt:=[w26]
def S2:List Stmt:=[w11,w12,w13,w14,w15,w16,w17,w18,w19,w20,w21,w22,w23,w24]
def S3:List Stmt:=[w0,w1]
def S4:List Stmt:=[w2]
def S5:List Stmt:=[w4,w5,w6,w7,w8,w9,w10]
def S6:List Stmt:=[w25]
def S7:List Stmt:=[w3]
def S8:List Stmt:=[w27,w28,w29,w30,w31,w32,w33,w34,w35,w36,w37,w38,w39,w40]
def S9:List Stmt:=[w41,w42,w43,w44,w45,w46,w47,w48,w49,w50,w51,w52]
def SB:Program×List (List Stmt):=(VWc,[S0,S1,S2,S3,S4,S5,S6,S7,S8,S9])
end
theorem e_SB:SB=SB:=rfl
name_quick x_SB for K54.SB by K54.e_SB
end K54
namespace PySem.W.Fast
noncomputable def tw7872788860458768135:PySem.Program:=tw3941503054412062582
theorem te7872788860458768135:K54.VWc=tw7872788860458768135:=te3941503054412062582
noncomputable def tw3344591991639179650:List Ru:=tw8804389307587319490
theorem te3344591991639179650:K54.S0=tw3344591991639179650:=te8804389307587319490
noncomputable def tw13439482770258408740:List Ru:=tw3669846705432885703
theorem te13439482770258408740:K54.S1=tw13439482770258408740:=te3669846705432885703
noncomputable def tw9394807989060494696:List Ru:=tw4184001634058564536
theorem te9394807989060494696:K54.S2=tw9394807989060494696:=te4184001634058564536
noncomputable def tw17886793591924814347:List Ru:=tw7056631641511152134
theorem te17886793591924814347:K54.S3=tw17886793591924814347:=te7056631641511152134
noncomputable def tw4194295007049550642:List Ru:=tw5954995468459375899
theorem te4194295007049550642:K54.S4=tw4194295007049550642:=te5954995468459375899
noncomputable def tw8495231466907487699:List Ru:=tw12409367495178973875
theorem te8495231466907487699:K54.S5=tw8495231466907487699:=te12409367495178973875
noncomputable def tw10664979985936130262:List Ru:=tw9945156535764973658
theorem te10664979985936130262:K54.S6=tw10664979985936130262:=te9945156535764973658
noncomputable def tw3466205174365442297:List Ru:=tw16764648838040226522
theorem te3466205174365442297:K54.S7=tw3466205174365442297:=te16764648838040226522
noncomputable def tw9303846701404556956:List Ru:=tw9544858477206159005
theorem te9303846701404556956:K54.S8=tw9303846701404556956:=te9544858477206159005
noncomputable def tw2891655033660155165:List Ru:=tw12465608878262031798
theorem te2891655033660155165:K54.S9=tw2891655033660155165:=te12465608878262031798
end PySem.W.Fast
namespace K54
open PySem L2 PySem.W
noncomputable def zs (i j:Nat):Stmt:=match An i with|.ClassDef _ _ _ b _ _ _ _ _ _ _=>b.getD j (.Pass ⟨0,0,0,0⟩)|s=>s
noncomputable def ze (P:Params)(s:Str)(t:Tok)(v:Value):DictEntry:=⟨PyData.keyHash P s,.str s t,v⟩
noncomputable abbrev B:=Rb
noncomputable def evb (l:List Obj):Bool->List Obj:=@List.rec Obj (λ_=>Bool->List Obj) (λ_=>[]) (λa _ I b=>@Bool.rec (λ_=>List Obj) (I true) (a::I false) b) l
noncomputable def tO (l:List Obj):B:=@Nat.rec (λ_=>List Obj->B) (λ_=>.nil) (λ_ I l=>@List.rec Obj (λ_=>B) .nil (λx r _=>.node x (I (evb r true)) (I (evb r false))) l) 12 l
noncomputable def zv:List (Str×Tok)->List Value
 |[]=>[]
 | (a,b)::t=>.str a b::zv t
noncomputable def zu (l:List (Str×Tok)):Obj:=⟨.type "tuple",none,.seq ⟨zv l⟩,#[]⟩
noncomputable def zt (c:String)(d:Data):Obj:=⟨.type c,none,d,#[]⟩
noncomputable def zf (n q:Str)(s:Stmt)(m:Str)(t:Tok)(c:Addr):Obj:=⟨.type "function",none,.func (Sk n q (Iq s) (Gh s) (A7 s) .none .none .none (.str m t) none (.ref c) .none),#[]⟩
noncomputable def zh (n q:Str)(s:Stmt):Obj:=⟨.none,none,.func ⟨n,q,Iq s,.stmts (Gh s),A7 s,0,[],.none,.none,.none,.none,none,.none,.none,0⟩,#[]⟩
noncomputable def zk (n q:Str)(t:Tok)(l a g:Int)(r:Addr)(b:Bool)(x:Value)(u:Int)(v:Tok):Obj:=⟨.type "code",none,.fields #[.str n t,.str q (t+1),.str "/claim/cut.py" (t+2),.int l 0,.int a 0,.int 0 0,.int 0 0,.int g 0,.ref r,.bool b,.int 181 0,.ref (r+1),.none,.none,.none,x,.int u 0,.int l 0,.str "/claim/cut.py" v],#[]⟩
noncomputable def zw:List (Int×Int×Addr)->List Value
 |[]=>[]
 | (a,b,c)::t=>.int a 0::.int b 0::.ref c::zw t
noncomputable def zy (l:List (Int×Int×Addr)):Obj:=⟨.none,none,.fields ⟨zw l⟩,#[]⟩
noncomputable def zc (n q:Str)(t:Tok)(l a g:Int)(r:Addr)(u:Int)(v:Tok):Obj:=⟨.type "code",none,.fields #[.str n t,.str q (t+1),.str "/claim/cut.py" (t+2),.int l 0,.int a 0,.int 0 0,.int 0 0,.int g 0,.ref r,.bool true,.int 181 0,.ref (r+1),.none,.ref (r+2),.ref (r+3),.ref (r+4),.int u 0,.int l 0,.str "/claim/cut.py" v],#[]⟩
structure zG where
 n:Str
 q:Str
 m:Str×Tok
 t:Tok
 r:Addr
def zA (n:Str)(m:Str×Tok)(t:Tok)(r:Addr):zG:=⟨n,n,m,t,r⟩
noncomputable def zN:List (Str×NameKind)->Tok->List Value
 |[],_=>[]
 | (n,.local)::l,t=>.str n t::zN l (t+1)
 |_::l,t=>zN l t
noncomputable def zln (s:Stmt):Int:=match s with|.FunctionDef _ _ _ _ _ _ _ _ _ p=>p.line|_=>0
noncomputable section
def Bh (g:zG)(s:Stmt):Obj:=zf g.n g.q s g.m.1 g.m.2 (g.r+5)
def zjo (g:zG)(s:Stmt):Obj:=zf g.n g.q s g.m.1 g.m.2 (g.r+3)
def zal (s:Stmt):Int:=(Iq s).args.length
def Bg (g:zG)(s:Stmt):Obj:=zc g.n g.q g.t (zln s) (zal s) 3 g.r (g.t+3+(zN (A7 s).names 0).length:Nat) (g.t+4+(zN (A7 s).names 0).length)
def zko (g:zG)(s:Stmt):Obj:=zk g.n g.q g.t (zln s) (zal s) 3 g.r true (.ref (g.r+2)) (g.t+3:Nat) (g.t+4)
def zem:Obj:=zt "tuple" (.seq #[])
end
noncomputable def zmt:Obj:=⟨.none,none,.fields #[],#[]⟩
noncomputable def A8 (g:zG)(s:Stmt)(t:List Obj):List Obj:=zem::zmt::zt "tuple" (.seq ⟨zN (A7 s).names (g.t+3)⟩)::zem::zh g.n g.q s::Bg g s::Bh g s::t
noncomputable def E3 (g:zG)(s:Stmt)(t:List Obj):List Obj:=zem::zmt::zh g.n g.q s::zko g s::zjo g s::t
noncomputable section
def d0 (P:Params):=[ze P "__name__" 165 (.str "gapscribe.errors" 187),ze P "__doc__" 166 .none,ze P "__package__" 167 .none,ze P "__loader__" 168 (.builtin "__main__.__loader__#opaque"),ze P "__spec__" 169 .none,ze P "__annotations__" 170 (.ref 6),ze P "__builtins__" 171 (.ref 4),ze P "__file__" 173 (.str "/claim/cut.py" 172),ze P "__cached__" 174 .none,ze P "GapError" 206 (.ref 24),ze P "NoDeed" 222 (.ref 37)]
def z0 (P:Params):=zt "dict" (.dict ⟨d0 P⟩ 11)
def z1:=zt "tuple" (.seq #[])
noncomputable def y0:List (Int×Int×Addr):=[(2,0,20),(4,0,33)]
def z2:=zy y0
def z3:=zk "<module>" "<module>" 182 1 0 0 11 false .none 185 186
noncomputable def Md (x0:Nat)(x1:Nat)(x2:Str)(x3:Nat):Obj:=Obj.mk (.type "frame") none Data.plain #[some (.ref x0),some (.ref 3),some (.ref x1),none,some (.str x2 x3),none,some (.ref 0)]
def z4:=Md 13 3 "__main__" 164
def z5:=zt "tuple" (.seq #[.type "ValueError"])
def z6:=zt "builtin_function_or_method" (.fields #[.builtin "type.__prepare__",.type "type"])
def zq1 (P:Params)(x0:Nat)(x1:Str)(x2:Int)(x3:Nat):Obj:=zt "dict" (.dict #[ze P "__module__" x0 (.str "gapscribe.errors" 187),ze P "__qualname__" (x0+2) (.str x1 (x0+1)),ze P "__firstlineno__" (x0+4) (.int x2 (x0+3)),ze P "__static_attributes__" (x0+5) (.ref x3)] 4)
def z7 (P:Params):=zq1 P 196 "GapError" 2 22
noncomputable def z8:=Obj.mk .none none (.fields #[]) #[]
def z9:=zk "GapError" "GapError" 191 2 0 0 18 false .none 194 195
def z10:=Md 20 17 "gapscribe.errors" 187
def z11 (P:Params):=zt "dict" (.dict #[ze P "__module__" 196 (.str "gapscribe.errors" 187),ze P "__firstlineno__" 200 (.int 2 199),ze P "__static_attributes__" 201 (.ref 22),ze P "__weakref__" 203 (.ref 25),ze P "__doc__" 204 .none] 3)
noncomputable def zq2 (x0:List Value):Obj:=Obj.mk (.type "type") none (.cls (ClassData.mk "GapError" [.type "ValueError"] [.ref 24,.type "ValueError",.type "Exception",.type "BaseException",.type "object"] 23 "GapError" true [] x0 false none false)) #[some (.ref 15),none,some (.str "GapError" 189),some (.str "GapError" 197),some (.builtin "ValueError.__new__"),some (.bool true)]
def z12:=zq2 [.ref 37]
def z13:=zt "getset_descriptor" (.fields #[.str "__weakref__" 202,.ref 24,.builtin "ExceptionGroup.__weakref__",.none])
def z14:=zt "super" (.fields #[.ref 24,.ref 24,.ref 24])
def zq3 (x0:Nat):Obj:=zt "builtin_function_or_method" (.fields #[.builtin "object.__init_subclass__",.ref x0])
def z15:=zq3 24
def z16:=zt "tuple" (.seq #[.ref 24])
def z17 (P:Params):=zq1 P 214 "NoDeed" 4 35
def z18:=zk "NoDeed" "NoDeed" 209 4 0 0 31 false .none 212 213
def z19:=Md 33 30 "gapscribe.errors" 187
def z20 (P:Params):=zt "dict" (.dict #[ze P "__module__" 214 (.str "gapscribe.errors" 187),ze P "__firstlineno__" 218 (.int 4 217),ze P "__static_attributes__" 219 (.ref 35),ze P "__doc__" 220 .none] 2)
noncomputable def zq4 (x0:Str)(x1:Nat)(x2:Nat)(x3:Nat)(x4:Nat):Obj:=Obj.mk (.type "type") none (.cls (ClassData.mk x0 [.ref 24] [.ref x1,.ref 24,.type "ValueError",.type "Exception",.type "BaseException",.type "object"] x2 x0 true [] [] false none false)) #[some (.ref x3),none,some (.str x0 x4),some (.str x0 (x4+8)),some (.builtin "ValueError.__new__"),some (.bool true)]
def z21:=zq4 "NoDeed" 37 36 28 207
def z22:=zt "super" (.fields #[.ref 37,.ref 37,.ref 37])
def z23:=zq3 37
def h0_0 (P:Params)(t:List Obj):=(boot_o_0 P)::(boot_o_1 P)::(boot_o_2 P)::(z0 P)::(boot_o_4 P)::(boot_o_5 P)::(boot_o_6 P)::(boot_o_7 P)::(boot_o_8 P)::(boot_o_9 P)::(boot_o_10 P)::z1::z2::z3::t
def h1_0 (P:Params)(t:List Obj):=z4::z5::z6::(z7 P)::z1::z8::z9::z10::z1::(z11 P)::z12::z13::z14::z15::t
def h2_0 (P:Params)(t:List Obj):=z16::z6::(z17 P)::z1::z8::z18::z19::z1::(z20 P)::z21::z22::z23::t
def Rtree_78:Params->B:=λP=>tO (h0_0 P (h1_0 P (h2_0 P [])))
def d1 (P:Params):=d0 P++[ze P "TooLong" 238 (.ref 49)]
def z24 (P:Params):=zt "dict" (.dict ⟨d1 P⟩ 12)
def y1:List (Int×Int×Addr):=y0++[(6,0,45)]
def z25:=zy y1
def z26:=zq2 [.ref 37,.ref 49]
def z27 (P:Params):=zq1 P 230 "TooLong" 6 47
def z28:=zk "TooLong" "TooLong" 225 6 0 0 43 false .none 228 229
def z29:=Md 45 42 "gapscribe.errors" 187
def z30 (P:Params):=zt "dict" (.dict #[ze P "__module__" 230 (.str "gapscribe.errors" 187),ze P "__firstlineno__" 234 (.int 6 233),ze P "__static_attributes__" 235 (.ref 47),ze P "__doc__" 236 .none] 2)
def z31:=zq4 "TooLong" 49 48 40 223
def z32:=zt "super" (.fields #[.ref 49,.ref 49,.ref 49])
def z33:=zq3 49
def Hb (P:Params)(x0 x1:Obj)(t:List Obj):List Obj:=(boot_o_0 P)::(boot_o_1 P)::(boot_o_2 P)::x0::(boot_o_4 P)::(boot_o_5 P)::(boot_o_6 P)::(boot_o_7 P)::(boot_o_8 P)::(boot_o_9 P)::(boot_o_10 P)::z1::x1::z3::t
def h3_0 (P:Params)(t:List Obj):=Hb P (z24 P) z25 t
def h4_0 (P:Params)(t:List Obj):=z4::z5::z6::(z7 P)::z1::z8::z9::z10::z1::(z11 P)::z26::z13::z14::z15::t
def Gr (P:Params)(t:List Obj):List Obj:=z16::z6::(z17 P)::z1::z8::z18::z19::z1::(z20 P)::z21::z22::z23::z16::z6::t
def h6_0 (P:Params)(t:List Obj):=(z27 P)::z1::z8::z28::z29::z1::(z30 P)::z31::z32::z33::t
def Rtree_93:Params->B:=λP=>tO (h3_0 P (h4_0 P (Gr P (h6_0 P []))))
def d2 (P:Params):=[ze P "__name__" 165 (.str "gapscribe.places" 273),ze P "__doc__" 166 .none,ze P "__package__" 167 .none,ze P "__loader__" 168 (.builtin "__main__.__loader__#opaque"),ze P "__spec__" 169 .none,ze P "__annotations__" 170 (.ref 6),ze P "__builtins__" 171 (.ref 4),ze P "__file__" 173 (.str "/claim/cut.py" 172),ze P "__cached__" 174 .none,ze P "GapError" 206 (.ref 24),ze P "NoDeed" 222 (.ref 37),ze P "TooLong" 238 (.ref 49),ze P "NoPlace" 263 (.ref 68),ze P "is_whole" 272 (.ref 77),ze P "placed_forms" 286 (.ref 84),ze P "has_part" 294 (.ref 91),ze P "forms_down_to" 304 (.ref 98)]
def z34 (P:Params):=zt "dict" (.dict ⟨d2 P⟩ 17)
def y2:List (Int×Int×Addr):=y1++[(8,0,57),(13,0,76),(16,0,83),(25,0,90),(27,0,97)]
def z35:=zy y2
def z36:=zq2 [.ref 37,.ref 49,.ref 68]
def d3 (P:Params):=[ze P "__module__" 246 (.str "gapscribe.errors" 187),ze P "__qualname__" 248 (.str "NoPlace" 247),ze P "__firstlineno__" 250 (.int 8 249),ze P "__init__" 258 (.ref 65),ze P "__static_attributes__" 260 (.ref 66)]
def z37 (P:Params):=zt "dict" (.dict ⟨d3 P⟩ 5)
noncomputable def y3:List (Int×Int×Addr):=[(10,4,64)]
def z38:=zy y3
def z39:=zk "NoPlace" "NoPlace" 241 8 0 0 55 false .none 244 245
def z40:=Md 57 54 "gapscribe.errors" 187
def gm0:Str×Tok:=("gapscribe.errors",187)
def g0:zG:=zG.mk "__init__" "NoPlace.__init__" gm0 251 59
def z41:=zu [("place",259)]
def z42 (P:Params):=zt "dict" (.dict #[ze P "__module__" 246 (.str "gapscribe.errors" 187),ze P "__firstlineno__" 250 (.int 8 249),ze P "__init__" 258 (.ref 65),ze P "__static_attributes__" 260 (.ref 66),ze P "__doc__" 261 .none] 2)
def z43:=zq4 "NoPlace" 68 67 52 239
def z44:=zt "super" (.fields #[.ref 68,.ref 68,.ref 68])
def z45:=zq3 68
def gm1:Str×Tok:=("gapscribe.forms",264)
def g1:zG:=zA "is_whole" gm1 266 71
def Nj:Str×Tok:=("gapscribe.places",273)
def g2:zG:=zA "placed_forms" Nj 275 78
def g3:zG:=zA "has_part" Nj 287 85
def g4:zG:=zA "forms_down_to" Nj 295 92
def h7_0 (P:Params)(t:List Obj):=Hb P (z34 P) z35 t
def Gu (P:Params)(t:List Obj):List Obj:=z4::z5::z6::(z7 P)::z1::z8::z9::z10::z1::(z11 P)::z36::z13::z14::z15::t
def Gw (P:Params)(t:List Obj):List Obj:=(z27 P)::z1::z8::z28::z29::z1::(z30 P)::z31::z32::z33::z16::z6::(z37 P)::z1::t
def Zv7 (P:Params)(t:List Obj):List Obj:=z38::z39::z40::A8 g0 (Co 4 0) (z41::(z42 P)::z43::z44::z45::A8 g1 Js (A8 g2 Jx (A8 g3 Jw (A8 g4 Kw t))))
def Rtree_143:Params->B:=λP=>tO (h7_0 P (Gu P (Gr P (Gw P (Zv7 P [])))))
def d4 (P:Params):=[ze P "__name__" 165 (.str "gapscribe.machine" 364),ze P "__doc__" 166 .none,ze P "__package__" 167 .none,ze P "__loader__" 168 (.builtin "__main__.__loader__#opaque"),ze P "__spec__" 169 .none,ze P "__annotations__" 170 (.ref 6),ze P "__builtins__" 171 (.ref 4),ze P "__file__" 173 (.str "/claim/cut.py" 172),ze P "__cached__" 174 .none,ze P "GapError" 206 (.ref 24),ze P "NoDeed" 222 (.ref 37),ze P "TooLong" 238 (.ref 49),ze P "NoPlace" 263 (.ref 68),ze P "is_whole" 272 (.ref 77),ze P "placed_forms" 286 (.ref 84),ze P "has_part" 294 (.ref 91),ze P "forms_down_to" 304 (.ref 98),ze P "form_at" 312 (.ref 105),ze P "with_part" 322 (.ref 112),ze P "with_at" 334 (.ref 119),ze P "refuse_no_gap" 343 (.ref 126),ze P "is_finished" 353 (.ref 133),ze P "names_bound" 363 (.ref 140),ze P "MOST_STEPS" 367 (.int 500 366),ze P "PARTS_AWAITED" 390 (.ref 141),ze P "WORDS_WITH_AROUND" 395 (.ref 148),ze P "are_numbers" 401 (.ref 153)]
def z46 (P:Params):=zt "dict" (.dict ⟨d4 P⟩ 27)
def y4:List (Int×Int×Addr):=y2++[(34,0,104),(36,0,111),(39,0,118),(45,0,125),(49,0,132),(52,0,139),(64,0,152)]
def z47:=zy y4
def g5:zG:=zA "form_at" Nj 305 99
def g6:zG:=zA "with_part" Nj 313 106
def g7:zG:=zA "with_at" Nj 323 113
def gm3:Str×Tok:=("gapscribe.deeds",335)
def g8:zG:=zA "refuse_no_gap" gm3 337 120
def gm4:Str×Tok:=("gapscribe.rows",344)
def g9:zG:=zA "is_finished" gm4 346 127
def gm5:Str×Tok:=("gapscribe.scopes",354)
def g10:zG:=zA "names_bound" gm5 356 134
def z48 (P:Params):=zt "dict" (.dict #[ze P "plus" 368 (.ref 142),ze P "minus" 371 (.ref 143),ze P "less" 374 (.ref 144),ze P "call" 377 (.ref 145),ze P "if" 380 (.ref 146),ze P "let" 382 (.ref 147)] 6)
def z49:=zt "tuple" (.seq #[.int 1 369,.int 0 370])
def z50:=zt "tuple" (.seq #[.int 1 372,.int 0 373])
def z51:=zt "tuple" (.seq #[.int 1 375,.int 0 376])
def z52:=zt "tuple" (.seq #[.int 1 378,.int 0 379])
def z53:=zt "tuple" (.seq #[.int 0 381])
def z54:=zt "tuple" (.seq #[.int 0 383])
def z55:=zu [("gap",391),("fn",392),("rec",393),("if",394)]
def Ed:Str×Tok:=("gapscribe.machine",364)
def g11:zG:=zA "are_numbers" Ed 396 149
def Zto (P:Params)(t:List Obj):List Obj:=Hb P (z46 P) z47 t
def Hz (P:Params)(t:List Obj):List Obj:=z38::z39::z40::A8 g0 (Co 4 0) (z41::(z42 P)::z43::z44::z45::A8 g1 Js (A8 g2 Jx (A8 g3 Jw (A8 g4 Kw (A8 g5 Nf t)))))
def Hx (P:Params)(t:List Obj):List Obj:=A8 g6 Lg (A8 g7 K9 (A8 g8 Lv (A8 g9 Mt (A8 g10 K5 ((z48 P)::z49::z50::z51::z52::z53::z54::z55::E3 g11 Mn t)))))
def Rtree_200:Params->B:=λP=>tO (Zto P (Gu P (Gr P (Gw P (Hz P (Hx P []))))))
def d5 (P:Params):=d4 P++[ze P "reckoned" 410 (.ref 160)]
def z56 (P:Params):=zt "dict" (.dict ⟨d5 P⟩ 28)
def y5:List (Int×Int×Addr):=y4++[(66,0,159)]
def z57:=zy y5
def Jh:zG:=zA "reckoned" Ed 402 154
def Zlh (P:Params)(t:List Obj):List Obj:=Hb P (z56 P) z57 t
def Znf (P:Params)(t:List Obj):List Obj:=A8 Jh Jc t
def Rtree_211:Params->B:=λP=>tO (Zlh P (Gu P (Gr P (Gw P (Hz P (Hx P (Znf P [])))))))
def d6 (P:Params):=d5 P++[ze P "Machine" 560 (.ref 259)]
def z58 (P:Params):=zt "dict" (.dict ⟨d6 P⟩ 29)
def y6:List (Int×Int×Addr):=y5++[(72,0,166)]
def z59:=zy y6
def d7 (P:Params):=[ze P "__module__" 418 (.str "gapscribe.machine" 364),ze P "__qualname__" 420 (.str "Machine" 419),ze P "__firstlineno__" 422 (.int 72 421),ze P "__init__" 431 (.ref 174),ze P "make_steps" 439 (.ref 181),ze P "new_row" 451 (.ref 188),ze P "thing_of_form" 460 (.ref 195),ze P "thing_of_parts" 470 (.ref 202),ze P "thing_at_the_end" 480 (.ref 209),ze P "come_to" 486 (.ref 214),ze P "thing_of_leaf" 498 (.ref 221),ze P "go_further" 509 (.ref 228),ze P "taken_things" 518 (.ref 235),ze P "is_function" 526 (.ref 242),ze P "call" 535 (.ref 249),ze P "go_within" 547 (.ref 256),ze P "__static_attributes__" 553 (.ref 257)]
def z60 (P:Params):=zt "dict" (.dict ⟨d7 P⟩ 17)
noncomputable def y7:List (Int×Int×Addr):=[(74,4,173),(82,4,180),(87,4,187),(92,4,194),(96,4,201),(101,4,208),(110,4,213),(120,4,220),(128,4,227),(142,4,234),(147,4,241),(150,4,248),(154,4,255)]
def z61:=zy y7
def z62:=zk "Machine" "Machine" 413 72 0 0 164 false .none 416 417
def z63:=Md 166 163 "gapscribe.machine" 364
def Me:zG:=zG.mk "__init__" "Machine.__init__" Ed 423 168
def g14:zG:=zG.mk "make_steps" "Machine.make_steps" Ed 432 175
def g15:zG:=zG.mk "new_row" "Machine.new_row" Ed 440 182
def g16:zG:=zG.mk "thing_of_form" "Machine.thing_of_form" Ed 452 189
def g17:zG:=zG.mk "thing_of_parts" "Machine.thing_of_parts" Ed 461 196
def g18:zG:=zG.mk "thing_at_the_end" "Machine.thing_at_the_end" Ed 471 203
def g19:zG:=zG.mk "come_to" "Machine.come_to" Ed 481 210
def g20:zG:=zG.mk "thing_of_leaf" "Machine.thing_of_leaf" Ed 487 215
def g21:zG:=zG.mk "go_further" "Machine.go_further" Ed 499 222
def g22:zG:=zG.mk "taken_things" "Machine.taken_things" Ed 510 229
def g23:zG:=zG.mk "is_function" "Machine.is_function" Ed 519 236
def g24:zG:=zG.mk "call" "Machine.call" Ed 527 243
def g25:zG:=zG.mk "go_within" "Machine.go_within" Ed 536 250
def z64:=zu [("forms",548),("rows",549),("steps",550),("things",551),("waiting",552)]
def d8 (P:Params):=[ze P "__module__" 418 (.str "gapscribe.machine" 364),ze P "__firstlineno__" 422 (.int 72 421),ze P "__init__" 431 (.ref 174),ze P "make_steps" 439 (.ref 181),ze P "new_row" 451 (.ref 188),ze P "thing_of_form" 460 (.ref 195),ze P "thing_of_parts" 470 (.ref 202),ze P "thing_at_the_end" 480 (.ref 209),ze P "come_to" 486 (.ref 214),ze P "thing_of_leaf" 498 (.ref 221),ze P "go_further" 509 (.ref 228),ze P "taken_things" 518 (.ref 235),ze P "is_function" 526 (.ref 242),ze P "call" 535 (.ref 249),ze P "go_within" 547 (.ref 256),ze P "__static_attributes__" 553 (.ref 257),ze P "__dict__" 555 (.ref 260),ze P "__weakref__" 557 (.ref 261),ze P "__doc__" 558 .none]
def z65 (P:Params):=zt "dict" (.dict ⟨d8 P⟩ 4)
noncomputable def z66:=Obj.mk (.type "type") none (.cls (ClassData.mk "Machine" [.type "object"] [.ref 259,.type "object"] 258 "Machine" true [] [] false none false)) #[none,none,some (.str "Machine" 411),some (.str "Machine" 419),some (.builtin "object.__new__"),some (.bool true)]
def z67:=zt "getset_descriptor" (.fields #[.str "__dict__" 554,.ref 259,.builtin "function.__dict__",.builtin "function.__dict__#set"])
def z68:=zt "getset_descriptor" (.fields #[.str "__weakref__" 556,.ref 259,.builtin "ExceptionGroup.__weakref__",.none])
def z69:=zt "super" (.fields #[.ref 259,.ref 259,.ref 259])
def z70:=zq3 259
def Zu9 (P:Params)(t:List Obj):List Obj:=Hb P (z58 P) z59 t
def On (P:Params)(t:List Obj):List Obj:=A8 Jh Jc (z1::z6::(z60 P)::z1::z61::z62::z63::A8 Me Kg (A8 g14 Hr (A8 g15 Kl (A8 g16 Kq (A8 g17 Kt t)))))
def Nl (P:Params)(t:List Obj):List Obj:=A8 g18 Ku (E3 g19 Hv (A8 g20 Ko (A8 g21 Jo (A8 g22 J9 (A8 g23 J8 t)))))
def Zwy (P:Params)(t:List Obj):List Obj:=A8 g24 Ke (A8 g25 J7 (z64::(z65 P)::z66::z67::z68::z69::z70::t))
def Rtree_316:Params->B:=λP=>tO (Zu9 P (Gu P (Gr P (Gw P (Hz P (Hx P (On P (Nl P (Zwy P [])))))))))
def d9 (P:Params):=[ze P "__module__" 418 (.str "gapscribe.machine" 364),ze P "__qualname__" 420 (.str "Machine" 419),ze P "__firstlineno__" 422 (.int 72 421),ze P "__init__" 431 (.ref 174),ze P "make_steps" 439 (.ref 181),ze P "new_row" 451 (.ref 188),ze P "thing_of_form" 460 (.ref 195),ze P "thing_of_parts" 470 (.ref 202),ze P "thing_at_the_end" 480 (.ref 209),ze P "come_to" 486 (.ref 214),ze P "thing_of_leaf" 498 (.ref 221),ze P "go_further" 509 (.ref 228),ze P "taken_things" 518 (.ref 235)]
def z71 (P:Params):=zt "dict" (.dict ⟨d9 P⟩ 13)
noncomputable def y8:List (Int×Int×Addr):=[(74,4,173),(82,4,180),(87,4,187),(92,4,194),(96,4,201),(101,4,208),(110,4,213),(120,4,220),(128,4,227),(142,4,234)]
def z72:=zy y8
def z73:=zu [("self",522),("thing",523)]
def z74:=zh "is_function" "Machine.is_function" J8
def z75:=zc "is_function" "Machine.is_function" 519 147 2 3 236 524 525
def Zre (P:Params)(t:List Obj):List Obj:=Hb P (z56 P) z59 t
def Zw6 (P:Params)(t:List Obj):List Obj:=A8 Jh Jc (z1::z6::(z71 P)::z1::z72::z62::z63::A8 Me Kg (A8 g14 Hr (A8 g15 Kl (A8 g16 Kq (A8 g17 Kt t)))))
def Zrc (P:Params)(t:List Obj):List Obj:=A8 g18 Ku (E3 g19 Hv (A8 g20 Ko (A8 g21 Jo (A8 g22 J9 (z1::z8::z73::z1::z74::z75::t)))))
def Rtree_398:Params->B:=λP=>tO (Zre P (Gu P (Gr P (Gw P (Hz P (Hx P (Zw6 P (Zrc P []))))))))
def d10 (P:Params):=[ze P "__name__" 165 (.str "law_gapscribe_k54_whole_gaps_in_either_order" 604),ze P "__doc__" 166 .none,ze P "__package__" 167 .none,ze P "__loader__" 168 (.builtin "__main__.__loader__#opaque"),ze P "__spec__" 169 .none,ze P "__annotations__" 170 (.ref 6),ze P "__builtins__" 171 (.ref 4),ze P "__file__" 173 (.str "/claim/cut.py" 172),ze P "__cached__" 174 .none,ze P "GapError" 206 (.ref 24),ze P "NoDeed" 222 (.ref 37),ze P "TooLong" 238 (.ref 49),ze P "NoPlace" 263 (.ref 68),ze P "is_whole" 272 (.ref 77),ze P "placed_forms" 286 (.ref 84),ze P "has_part" 294 (.ref 91),ze P "forms_down_to" 304 (.ref 98),ze P "form_at" 312 (.ref 105),ze P "with_part" 322 (.ref 112),ze P "with_at" 334 (.ref 119),ze P "refuse_no_gap" 343 (.ref 126),ze P "is_finished" 353 (.ref 133),ze P "names_bound" 363 (.ref 140),ze P "MOST_STEPS" 367 (.int 500 366),ze P "PARTS_AWAITED" 390 (.ref 141),ze P "WORDS_WITH_AROUND" 395 (.ref 148),ze P "are_numbers" 401 (.ref 153),ze P "reckoned" 410 (.ref 160),ze P "Machine" 560 (.ref 259),ze P "thing_now" 570 (.ref 270),ze P "thing_of_row" 576 (.ref 275),ze P "go_on" 592 (.ref 282),ze P "run" 603 (.ref 289),ze P "_law_cell" 613 (.ref 296),ze P "_law_mixed" 621 (.ref 303),ze P "_law_same" 630 (.ref 310),ze P "_law_names" 647 (.ref 317),ze P "_law_number" 654 (.ref 324),ze P "_law_is_free" 661 (.ref 331),ze P "_law_any" 678 (.ref 338)]
def z76 (P:Params):=zt "dict" (.dict ⟨d10 P⟩ 40)
def y9:List (Int×Int×Addr):=y6++[(158,0,269),(160,0,274),(169,0,281),(178,0,288),(183,0,295),(187,0,302),(189,0,309),(206,0,316),(222,0,323),(228,0,330),(230,0,337)]
def z77:=zy y9
def gm7:Str×Tok:=("gapscribe.going",561)
def g26:zG:=zA "thing_now" gm7 563 264
def g27:zG:=zA "thing_of_row" gm7 571 271
def g28:zG:=zA "go_on" gm7 577 276
def gm8:Str×Tok:=("gapscribe.runs",593)
def g29:zG:=zA "run" gm8 595 283
def Cp:Str×Tok:=("law_gapscribe_k54_whole_gaps_in_either_order",604)
def g30:zG:=zA "_law_cell" Cp 606 290
def g31:zG:=zA "_law_mixed" Cp 614 297
def g32:zG:=zA "_law_same" Cp 622 304
def g33:zG:=zA "_law_names" Cp 631 311
def g34:zG:=zA "_law_number" Cp 648 318
def g35:zG:=zA "_law_is_free" Cp 655 325
def g36:zG:=zA "_law_any" Cp 662 332
def Zvu (P:Params)(t:List Obj):List Obj:=Hb P (z76 P) z77 t
def Zbd (P:Params)(t:List Obj):List Obj:=A8 g24 Ke (A8 g25 J7 (z64::(z65 P)::z66::z67::z68::z69::z70::A8 g26 Kz (E3 g27 Lz (A8 g28 Le (A8 g29 Lo t)))))
def O4 (P:Params)(t:List Obj):List Obj:=A8 g30 Lw (A8 g31 Nd (A8 g32 Ju (A8 g33 M8 (A8 g34 Mv (A8 g35 Mj t)))))
def Ztt (P:Params)(t:List Obj):List Obj:=A8 g36 Ir t
def Rtree_478:Params->B:=λP=>tO (Zvu P (Gu P (Gr P (Gw P (Hz P (Hx P (On P (Nl P (Zbd P (O4 P (Ztt P [])))))))))))
def d11 (P:Params):=d10 P++[ze P "_law_end" 684 (.ref 343),ze P "_law_form" 705 (.ref 350),ze P "_law_is_thing" 713 (.ref 357),ze P "_law_is_row" 723 (.ref 364),ze P "_law_is_record" 731 (.ref 371),ze P "_law_run" 739 (.ref 378),ze P "_law_go_on" 750 (.ref 385),ze P "_law_filled" 760 (.ref 392),ze P "_law_gaps" 775 (.ref 399),ze P "_law_next" 783 (.ref 406),ze P "_law_thing" 791 (.ref 413),ze P "_law_spots" 807 (.ref 420)]
def z78 (P:Params):=zt "dict" (.dict ⟨d11 P⟩ 52)
def y10:List (Int×Int×Addr):=y9++[(257,0,342),(274,0,349),(308,0,356),(318,0,363),(334,0,370),(343,0,377),(350,0,384),(357,0,391),(363,0,398),(376,0,405),(378,0,412),(384,0,419)]
def z79:=zy y10
def g37:zG:=zA "_law_end" Cp 679 339
def g38:zG:=zA "_law_form" Cp 685 344
def g39:zG:=zA "_law_is_thing" Cp 706 351
def g40:zG:=zA "_law_is_row" Cp 714 358
def g41:zG:=zA "_law_is_record" Cp 724 365
def g42:zG:=zA "_law_run" Cp 732 372
def g43:zG:=zA "_law_go_on" Cp 740 379
def g44:zG:=zA "_law_filled" Cp 751 386
def g45:zG:=zA "_law_gaps" Cp 761 393
def g46:zG:=zA "_law_next" Cp 776 400
def g47:zG:=zA "_law_thing" Cp 784 407
def g48:zG:=zA "_law_spots" Cp 792 414
def Zrp (P:Params)(t:List Obj):List Obj:=Hb P (z78 P) z79 t
def Zc3 (P:Params)(t:List Obj):List Obj:=A8 g36 Ir (E3 g37 Mb (A8 g38 Jz (A8 g39 Mf (A8 g40 Ng (A8 g41 Ni t)))))
def Zeq (P:Params)(t:List Obj):List Obj:=A8 g42 Lx (A8 g43 La (A8 g44 Ka (A8 g45 Jq (A8 g46 Ln (A8 g47 K7 t)))))
def Zsp (P:Params)(t:List Obj):List Obj:=A8 g48 Ik t
def Rtree_562:Params->B:=λP=>tO (Zrp P (Gu P (Gr P (Gw P (Hz P (Hx P (On P (Nl P (Zbd P (O4 P (Zc3 P (Zeq P (Zsp P [])))))))))))))
def d12 (P:Params):=d11 P++[ze P "_law_digit" 816 (.ref 427),ze P "_law_free_row" 834 (.ref 434),ze P "_law_free_record" 848 (.ref 441),ze P "_law_row" 865 (.ref 448),ze P "_law_made_up" 878 (.ref 455),ze P "_law_both" 889 (.ref 462),ze P "_law_tree" 900 (.ref 469),ze P "_law_fillings" 918 (.ref 476),ze P "law" 935 (.ref 483)]
def z80 (P:Params):=zt "dict" (.dict ⟨d12 P⟩ 61)
def y11:List (Int×Int×Addr):=y10++[(397,0,426),(405,0,433),(418,0,440),(425,0,447),(438,0,454),(447,0,461),(452,0,468),(461,0,475),(475,0,482)]
def z81:=zy y11
def g49:zG:=zA "_law_digit" Cp 808 421
def g50:zG:=zA "_law_free_row" Cp 817 428
def g51:zG:=zA "_law_free_record" Cp 835 435
def g52:zG:=zA "_law_row" Cp 849 442
def g53:zG:=zA "_law_made_up" Cp 866 449
def g54:zG:=zA "_law_both" Cp 879 456
def g55:zG:=zA "_law_tree" Cp 890 463
def g56:zG:=zA "_law_fillings" Cp 901 470
def g57:zG:=zA "law" Cp 919 477
def Zfx (P:Params)(t:List Obj):List Obj:=Hb P (z80 P) z81 t
def Zft (P:Params)(t:List Obj):List Obj:=A8 g48 Ik (A8 g49 L7 (A8 g50 L9 (A8 g51 Lb (A8 g52 Mz (A8 g53 Nh t)))))
def Ziz (P:Params)(t:List Obj):List Obj:=A8 g54 My (A8 g55 Lc (A8 g56 Nc (A8 g57 Lk t)))
def Rtree_627:Params->B:=λP=>tO (Zfx P (Gu P (Gr P (Gw P (Hz P (Hx P (On P (Nl P (Zbd P (O4 P (Zc3 P (Zeq P (Zft P (Ziz P []))))))))))))))
def Rheap_628:Params->Heap:=λP=>⟨⟨Zfx P (Gu P (Gr P (Gw P (Hz P (Hx P (On P (Nl P (Zbd P (O4 P (Zc3 P (Zeq P (Zft P (Ziz P [])))))))))))))⟩,Life.mk [] [] [] 0 [] [] false #[] [] 0 false false false 0 [2000,10,10] false 0 true [] [] 0 false⟩
end
noncomputable section
def KK:Params->Pi:=λP=>(nat_lit 2,boot_o_2 P)::(nat_lit 3,z80 P)::(nat_lit 23,z11 P)::(nat_lit 24,z36)::(nat_lit 36,z20 P)::(nat_lit 37,z21)::(nat_lit 48,z30 P)::(nat_lit 49,z31)::(nat_lit 67,z42 P)::(nat_lit 68,z43)::(nat_lit 76,Bg g1 Js)::(nat_lit 77,Bh g1 Js)::(nat_lit 83,Bg g2 Jx)::(nat_lit 84,Bh g2 Jx)::(nat_lit 90,Bg g3 Jw)::(nat_lit 91,Bh g3 Jw)::(nat_lit 97,Bg g4 Kw)::(nat_lit 98,Bh g4 Kw)::(nat_lit 104,Bg g5 Nf)::(nat_lit 105,Bh g5 Nf)::(nat_lit 111,Bg g6 Lg)::(nat_lit 112,Bh g6 Lg)::(nat_lit 118,Bg g7 K9)::(nat_lit 119,Bh g7 K9)::(nat_lit 125,Bg g8 Lv)::(nat_lit 126,Bh g8 Lv)::(nat_lit 132,Bg g9 Mt)::(nat_lit 133,Bh g9 Mt)::(nat_lit 139,Bg g10 K5)::(nat_lit 140,Bh g10 K5)::(nat_lit 141,z48 P)::(nat_lit 142,z49)::(nat_lit 143,z50)::(nat_lit 144,z51)::(nat_lit 145,z52)::(nat_lit 146,z53)::(nat_lit 147,z54)::(nat_lit 148,z55)::(nat_lit 152,zko g11 Mn)::(nat_lit 153,zjo g11 Mn)::(nat_lit 159,Bg Jh Jc)::(nat_lit 160,Bh Jh Jc)::(nat_lit 173,Bg Me Kg)::(nat_lit 174,Bh Me Kg)::(nat_lit 180,Bg g14 Hr)::(nat_lit 181,Bh g14 Hr)::(nat_lit 187,Bg g15 Kl)::(nat_lit 188,Bh g15 Kl)::(nat_lit 194,Bg g16 Kq)::(nat_lit 195,Bh g16 Kq)::(nat_lit 201,Bg g17 Kt)::(nat_lit 202,Bh g17 Kt)::(nat_lit 208,Bg g18 Ku)::(nat_lit 209,Bh g18 Ku)::(nat_lit 213,zko g19 Hv)::(nat_lit 214,zjo g19 Hv)::(nat_lit 220,Bg g20 Ko)::(nat_lit 221,Bh g20 Ko)::(nat_lit 227,Bg g21 Jo)::(nat_lit 228,Bh g21 Jo)::(nat_lit 234,Bg g22 J9)::(nat_lit 235,Bh g22 J9)::(nat_lit 241,Bg g23 J8)::(nat_lit 242,Bh g23 J8)::(nat_lit 248,Bg g24 Ke)::(nat_lit 249,Bh g24 Ke)::(nat_lit 255,Bg g25 J7)::(nat_lit 256,Bh g25 J7)::(nat_lit 258,z65 P)::(nat_lit 259,z66)::(nat_lit 269,Bg g26 Kz)::(nat_lit 270,Bh g26 Kz)::(nat_lit 274,zko g27 Lz)::(nat_lit 275,zjo g27 Lz)::(nat_lit 281,Bg g28 Le)::(nat_lit 282,Bh g28 Le)::(nat_lit 288,Bg g29 Lo)::(nat_lit 289,Bh g29 Lo)::(nat_lit 295,Bg g30 Lw)::(nat_lit 296,Bh g30 Lw)::(nat_lit 302,Bg g31 Nd)::(nat_lit 303,Bh g31 Nd)::(nat_lit 309,Bg g32 Ju)::(nat_lit 310,Bh g32 Ju)::(nat_lit 316,Bg g33 M8)::(nat_lit 317,Bh g33 M8)::(nat_lit 323,Bg g34 Mv)::(nat_lit 324,Bh g34 Mv)::(nat_lit 330,Bg g35 Mj)::(nat_lit 331,Bh g35 Mj)::(nat_lit 337,Bg g36 Ir)::(nat_lit 338,Bh g36 Ir)::(nat_lit 342,zko g37 Mb)::(nat_lit 343,zjo g37 Mb)::(nat_lit 349,Bg g38 Jz)::(nat_lit 350,Bh g38 Jz)::(nat_lit 356,Bg g39 Mf)::(nat_lit 357,Bh g39 Mf)::(nat_lit 363,Bg g40 Ng)::(nat_lit 364,Bh g40 Ng)::(nat_lit 370,Bg g41 Ni)::(nat_lit 371,Bh g41 Ni)::(nat_lit 377,Bg g42 Lx)::(nat_lit 378,Bh g42 Lx)::(nat_lit 384,Bg g43 La)::(nat_lit 385,Bh g43 La)::(nat_lit 391,Bg g44 Ka)::(nat_lit 392,Bh g44 Ka)::(nat_lit 398,Bg g45 Jq)::(nat_lit 399,Bh g45 Jq)::(nat_lit 405,Bg g46 Ln)::(nat_lit 406,Bh g46 Ln)::(nat_lit 412,Bg g47 K7)::(nat_lit 413,Bh g47 K7)::(nat_lit 419,Bg g48 Ik)::(nat_lit 420,Bh g48 Ik)::(nat_lit 426,Bg g49 L7)::(nat_lit 427,Bh g49 L7)::(nat_lit 433,Bg g50 L9)::(nat_lit 434,Bh g50 L9)::(nat_lit 440,Bg g51 Lb)::(nat_lit 441,Bh g51 Lb)::(nat_lit 447,Bg g52 Mz)::(nat_lit 448,Bh g52 Mz)::(nat_lit 454,Bg g53 Nh)::(nat_lit 455,Bh g53 Nh)::(nat_lit 461,Bg g54 My)::(nat_lit 462,Bh g54 My)::(nat_lit 468,Bg g55 Lc)::(nat_lit 469,Bh g55 Lc)::(nat_lit 475,Bg g56 Nc)::(nat_lit 476,Bh g56 Nc)::(nat_lit 482,Bg g57 Lk)::(nat_lit 483,Bh g57 Lk)::[]
def kk0 (P:Params)(r:Pi):Pi:=(nat_lit 2,boot_o_2 P)::(nat_lit 3,z80 P)::(nat_lit 23,z11 P)::(nat_lit 24,z36)::(nat_lit 36,z20 P)::(nat_lit 37,z21)::(nat_lit 48,z30 P)::(nat_lit 49,z31)::(nat_lit 67,z42 P)::(nat_lit 68,z43)::(nat_lit 76,Bg g1 Js)::r
def kk1 (P:Params)(r:Pi):Pi:=(nat_lit 77,Bh g1 Js)::(nat_lit 83,Bg g2 Jx)::(nat_lit 84,Bh g2 Jx)::(nat_lit 90,Bg g3 Jw)::(nat_lit 91,Bh g3 Jw)::(nat_lit 97,Bg g4 Kw)::(nat_lit 98,Bh g4 Kw)::(nat_lit 104,Bg g5 Nf)::(nat_lit 105,Bh g5 Nf)::(nat_lit 111,Bg g6 Lg)::(nat_lit 112,Bh g6 Lg)::r
def kk2 (P:Params)(r:Pi):Pi:=(nat_lit 118,Bg g7 K9)::(nat_lit 119,Bh g7 K9)::(nat_lit 125,Bg g8 Lv)::(nat_lit 126,Bh g8 Lv)::(nat_lit 132,Bg g9 Mt)::(nat_lit 133,Bh g9 Mt)::(nat_lit 139,Bg g10 K5)::(nat_lit 140,Bh g10 K5)::(nat_lit 141,z48 P)::(nat_lit 142,z49)::(nat_lit 143,z50)::r
def kk3 (P:Params)(r:Pi):Pi:=(nat_lit 144,z51)::(nat_lit 145,z52)::(nat_lit 146,z53)::(nat_lit 147,z54)::(nat_lit 148,z55)::(nat_lit 152,zko g11 Mn)::(nat_lit 153,zjo g11 Mn)::(nat_lit 159,Bg Jh Jc)::(nat_lit 160,Bh Jh Jc)::(nat_lit 173,Bg Me Kg)::(nat_lit 174,Bh Me Kg)::r
def kk4 (P:Params)(r:Pi):Pi:=(nat_lit 180,Bg g14 Hr)::(nat_lit 181,Bh g14 Hr)::(nat_lit 187,Bg g15 Kl)::(nat_lit 188,Bh g15 Kl)::(nat_lit 194,Bg g16 Kq)::(nat_lit 195,Bh g16 Kq)::(nat_lit 201,Bg g17 Kt)::(nat_lit 202,Bh g17 Kt)::(nat_lit 208,Bg g18 Ku)::(nat_lit 209,Bh g18 Ku)::(nat_lit 213,zko g19 Hv)::r
def kk5 (P:Params)(r:Pi):Pi:=(nat_lit 214,zjo g19 Hv)::(nat_lit 220,Bg g20 Ko)::(nat_lit 221,Bh g20 Ko)::(nat_lit 227,Bg g21 Jo)::(nat_lit 228,Bh g21 Jo)::(nat_lit 234,Bg g22 J9)::(nat_lit 235,Bh g22 J9)::(nat_lit 241,Bg g23 J8)::(nat_lit 242,Bh g23 J8)::(nat_lit 248,Bg g24 Ke)::(nat_lit 249,Bh g24 Ke)::r
def kk6 (P:Params)(r:Pi):Pi:=(nat_lit 255,Bg g25 J7)::(nat_lit 256,Bh g25 J7)::(nat_lit 258,z65 P)::(nat_lit 259,z66)::(nat_lit 269,Bg g26 Kz)::(nat_lit 270,Bh g26 Kz)::(nat_lit 274,zko g27 Lz)::(nat_lit 275,zjo g27 Lz)::(nat_lit 281,Bg g28 Le)::(nat_lit 282,Bh g28 Le)::(nat_lit 288,Bg g29 Lo)::r
def kk7 (P:Params)(r:Pi):Pi:=(nat_lit 289,Bh g29 Lo)::(nat_lit 295,Bg g30 Lw)::(nat_lit 296,Bh g30 Lw)::(nat_lit 302,Bg g31 Nd)::(nat_lit 303,Bh g31 Nd)::(nat_lit 309,Bg g32 Ju)::(nat_lit 310,Bh g32 Ju)::(nat_lit 316,Bg g33 M8)::(nat_lit 317,Bh g33 M8)::(nat_lit 323,Bg g34 Mv)::(nat_lit 324,Bh g34 Mv)::r
def kk8 (P:Params)(r:Pi):Pi:=(nat_lit 330,Bg g35 Mj)::(nat_lit 331,Bh g35 Mj)::(nat_lit 337,Bg g36 Ir)::(nat_lit 338,Bh g36 Ir)::(nat_lit 342,zko g37 Mb)::(nat_lit 343,zjo g37 Mb)::(nat_lit 349,Bg g38 Jz)::(nat_lit 350,Bh g38 Jz)::(nat_lit 356,Bg g39 Mf)::(nat_lit 357,Bh g39 Mf)::(nat_lit 363,Bg g40 Ng)::r
def kk9 (P:Params)(r:Pi):Pi:=(nat_lit 364,Bh g40 Ng)::(nat_lit 370,Bg g41 Ni)::(nat_lit 371,Bh g41 Ni)::(nat_lit 377,Bg g42 Lx)::(nat_lit 378,Bh g42 Lx)::(nat_lit 384,Bg g43 La)::(nat_lit 385,Bh g43 La)::(nat_lit 391,Bg g44 Ka)::(nat_lit 392,Bh g44 Ka)::(nat_lit 398,Bg g45 Jq)::(nat_lit 399,Bh g45 Jq)::r
def kk10 (P:Params)(r:Pi):Pi:=(nat_lit 405,Bg g46 Ln)::(nat_lit 406,Bh g46 Ln)::(nat_lit 412,Bg g47 K7)::(nat_lit 413,Bh g47 K7)::(nat_lit 419,Bg g48 Ik)::(nat_lit 420,Bh g48 Ik)::(nat_lit 426,Bg g49 L7)::(nat_lit 427,Bh g49 L7)::(nat_lit 433,Bg g50 L9)::(nat_lit 434,Bh g50 L9)::(nat_lit 440,Bg g51 Lb)::r
def kk11 (P:Params)(r:Pi):Pi:=(nat_lit 441,Bh g51 Lb)::(nat_lit 447,Bg g52 Mz)::(nat_lit 448,Bh g52 Mz)::(nat_lit 454,Bg g53 Nh)::(nat_lit 455,Bh g53 Nh)::(nat_lit 461,Bg g54 My)::(nat_lit 462,Bh g54 My)::(nat_lit 468,Bg g55 Lc)::(nat_lit 469,Bh g55 Lc)::(nat_lit 475,Bg g56 Nc)::(nat_lit 476,Bh g56 Nc)::r
def kk12 (P:Params)(r:Pi):Pi:=(nat_lit 482,Bg g57 Lk)::(nat_lit 483,Bh g57 Lk)::r
def KKc:Params->Pi:=λP=>kk0 P (kk1 P (kk2 P (kk3 P (kk4 P (kk5 P (kk6 P (kk7 P (kk8 P (kk9 P (kk10 P (kk11 P (kk12 P []))))))))))))
end
theorem e_KC:KKc=KKc:=rfl
name_quick x_KC for K54.KKc by K54.e_KC
noncomputable def KA:List Addr:=[2,3,23,24,36,37,48,49,67,68,76,77,83,84,90,91,97,98,104,105,111,112,118,119,125,126,132,133,139,140,141,142,143,144,145,146,147,148,152,153,159,160,173,174,180,181,187,188,194,195,201,202,208,209,213,214,220,221,227,228,234,235,241,242,248,249,255,256,258,259,269,270,274,275,281,282,288,289,295,296,302,303,309,310,316,317,323,324,330,331,337,338,342,343,349,350,356,357,363,364,370,371,377,378,384,385,391,392,398,399,405,406,412,413,419,420,426,427,433,434,440,441,447,448,454,455,461,462,468,469,475,476,482,483]
noncomputable def RB (P:Params):List Rb×List Heap:=([Rtree_78 P,Rtree_93 P,Rtree_143 P,Rtree_200 P,Rtree_211 P,Rtree_316 P,Rtree_398 P,Rtree_478 P,Rtree_562 P,Rtree_627 P],[Rheap_628 P])
theorem e_RB:RB=RB:=rfl
name_quick x_RB for K54.RB by K54.e_RB
end K54
namespace PySem.W.Fast
noncomputable def tw5680244403354708593:PySem.Params->Pi:=tw8546876208386806615
theorem te5680244403354708593:K54.KK=tw5680244403354708593:=(rfl:K54.KK=K54.KKc).trans te8546876208386806615
noncomputable def tw1849856051309427787:Rh->Rb:=tw14225817402194078378
theorem te1849856051309427787:K54.Rtree_78=tw1849856051309427787:=te14225817402194078378
noncomputable def tw5404381443179367857:Rh->Rb:=tw1646852091651092175
theorem te5404381443179367857:K54.Rtree_93=tw5404381443179367857:=te1646852091651092175
noncomputable def tw12532645220710877576:Rh->Rb:=tw9988156278896551276
theorem te12532645220710877576:K54.Rtree_143=tw12532645220710877576:=te9988156278896551276
noncomputable def tw14198149205810428224:Rh->Rb:=tw9203030025537299447
theorem te14198149205810428224:K54.Rtree_200=tw14198149205810428224:=te9203030025537299447
noncomputable def tw15780542378546134677:Rh->Rb:=tw17351577104770537345
theorem te15780542378546134677:K54.Rtree_211=tw15780542378546134677:=te17351577104770537345
noncomputable def tw2197720577171718174:Rh->Rb:=tw5287201137858996266
theorem te2197720577171718174:K54.Rtree_316=tw2197720577171718174:=te5287201137858996266
noncomputable def tw1494245643712495589:Rh->Rb:=tw10031108773514223455
theorem te1494245643712495589:K54.Rtree_398=tw1494245643712495589:=te10031108773514223455
noncomputable def tw17709392046862955624:Rh->Rb:=tw15348005701765206426
theorem te17709392046862955624:K54.Rtree_478=tw17709392046862955624:=te15348005701765206426
noncomputable def tw12960331526372884958:Rh->Rb:=tw12370932754056140949
theorem te12960331526372884958:K54.Rtree_562=tw12960331526372884958:=te12370932754056140949
noncomputable def tw12757527767375326820:Rh->Rb:=tw381176883346832248
theorem te12757527767375326820:K54.Rtree_627=tw12757527767375326820:=te381176883346832248
noncomputable def tw15774813418504113201:Rh->PySem.Heap:=tw14186336611490384745
theorem te15774813418504113201:K54.Rheap_628=tw15774813418504113201:=te14186336611490384745
end PySem.W.Fast
local macro_rules | `(tactic| walk_at "gd")=>`(tactic| (refine'⟨?ka,_,L2.fun_mk ?kl ?kc ?kk⟩; (case ka=>k_is); (case kl=>k_is); (case kc=>k_is); (case kk=>k_is)))
local macro_rules | `(tactic| walk_at "gm")=>`(tactic| (refine'⟨?ka,?ki,_,L2.fun_mk ?kl ?kc ?kk⟩; (case ka=>k_is); (case ki=>k_is); (case kl=>k_is); (case kc=>k_is); (case kk=>k_is)))
namespace K54
open PySem L2
noncomputable abbrev Zc8:=Zj6
def all1 {α:Type}{P:List α->Prop}(h:∀a,P [a]):∀us:List α,us.length=1->P us
 |[a],_=>h a
def all2 {α:Type}{P:List α->Prop}(h:∀a b,P [a,b]):∀us:List α,us.length=2->P us
 |[a,b],_=>h a b
def all3 {α:Type}{P:List α->Prop}(h:∀a b c,P [a,b,c]):∀us:List α,us.length=3->P us
 |[a,b,c],_=>h a b c
def all4 {α:Type}{P:List α->Prop}(h:∀a b c d,P [a,b,c,d]):∀us:List α,us.length=4->P us
 |[a,b,c,d],_=>h a b c d
def all5 {α:Type}{P:List α->Prop}(h:∀a b c d e,P [a,b,c,d,e]):∀us:List α,us.length=5->P us
 |[a,b,c,d,e],_=>h a b c d e
local macro_rules | `(tactic| walk_at "bi")=>`(tactic| first|exact λ_ _ _ _ _ _=>K54.all1 λ_=>rfl|exact λ_ _ _ _ _ _=>K54.all2 λ_ _=>rfl|exact λ_ _ _ _ _ _=>K54.all3 λ_ _ _=>rfl|exact λ_ _ _ _ _ _=>K54.all4 λ_ _ _ _=>rfl|exact λ_ _ _ _ _ _=>K54.all5 λ_ _ _ _ _=>rfl)
theorem Zk9 (F:Fu K "_law_same" Ju f fd)(T:Txt K mg)(mk:∀n,FnOk P w K mg base As (n+1) f fd pR (Jn K n)->A5 P w K mg base (n+1) "_law_same" ["_law_found","_law_due"] (Jn K n)):∀n,FnOk P w K mg base As (n+1) f fd pR (Jn K n)
 |0=>by
  have no:∀vs H Q E,¬Jn K 0 vs H Q E:=by
   rintro vs H Q E ⟨x,y,d,m,_,h,_⟩;exact absurd h (Xb _)
  exact⟨λvs H Q E h=>absurd h (no _ _ _ _),λA outer s H I O vs Q E _ _ _ _ h=>absurd h (no _ _ _ _)⟩
 |n+1=>Zws F T (mk n (Zk9 F T mk n))
theorem Zg6 (F:Fu K "_law_filled" Ka f fd)(T:Txt K mg)(mk:∀n,FnOk P w K mg base As (n+1) f fd pD (Hk K n)->A5 P w K mg base (n+1) "_law_filled" ["_law_tree_here","_law_place","_law_form_here"] (Hk K n)):∀n,FnOk P w K mg base As (n+1) f fd pD (Hk K n)
 |0=>by
  have no:∀vs H Q E,¬Hk K 0 vs H Q E:=by
   rintro vs H Q E ⟨_,_,_,_,_,_,_,_,_,_,h,_⟩;exact absurd h (Xb _)
  exact⟨λvs H Q E h=>absurd h (no _ _ _ _),λA outer s H I O vs Q E _ _ _ _ h=>absurd h (no _ _ _ _)⟩
 |n+1=>Zpt F T (mk n (Zg6 F T mk n))
theorem Zff (F:Fu K "_law_gaps" Jq f fd)(T:Txt K mg)(mk:∀n,FnOk P w K mg base As (n+1) f fd pE (Ij K n)->A5 P w K mg base (n+1) "_law_gaps" ["_law_form_here","_law_place","_law_bound"] (Ij K n)):∀n,FnOk P w K mg base As (n+1) f fd pE (Ij K n)
 |0=>by
  have no:∀vs H Q E,¬Ij K 0 vs H Q E:=by
   rintro vs H Q E ⟨_,t,_,_,_,_,_,_,_,_,_,_,_,h,_⟩;cases t;rw[Tr.size]at h;lia
  exact⟨λvs H Q E h=>absurd h (no _ _ _ _),λA outer s H I O vs Q E _ _ _ _ h=>absurd h (no _ _ _ _)⟩
 |n+1=>Zw7 F T (mk n (Zff F T mk n))
theorem Zje (F:Fu K "_law_spots" Ik f fd)(T:Txt K mg)(mk:∀n,FnOk P w K mg base As (n+1) f fd pC (Ja K n)->A5 P w K mg base (n+1) "_law_spots" ["_law_form_here","_law_place","_law_bound","_law_none"] (Ja K n)):∀n,FnOk P w K mg base As (n+1) f fd pC (Ja K n)
 |0=>by
  have no:∀vs H Q E,¬Ja K 0 vs H Q E:=by
   rintro vs H Q E ⟨_,t,_,_,_,_,_,_,_,_,_,_,_,_,_,h,_⟩;cases t;rw[Tr.size]at h;lia
  exact⟨λvs H Q E h=>absurd h (no _ _ _ _),λA outer s H I O vs Q E _ _ _ _ h=>absurd h (no _ _ _ _)⟩
 |n+1=>Zqr F T (mk n (Zje F T mk n))
theorem Zg0 (F:Fu K "_law_any" Ir f fd)(T:Txt K mg)(mk:∀n,FnOk P w K mg base As (n+1) f fd pF (Hj K n)->A5 P w K mg base (n+1) "_law_any" ["_law_cells","_law_names_here","_law_deep"] (Hj K n)):∀n,FnOk P w K mg base As (n+1) f fd pF (Hj K n)
 |0=>by
  have no:∀vs H Q E,¬Hj K 0 vs H Q E:=by
   rintro vs H Q E ⟨_,_,_,_,_,_,h,_⟩;exact absurd h (Xb _)
  exact⟨λvs H Q E h=>absurd h (no _ _ _ _),λA outer s H I O vs Q E _ _ _ _ h=>absurd h (no _ _ _ _)⟩
 |n+1=>Zr6 F T (mk n (Zg0 F T mk n))
theorem Zhc (F:Fu K "_law_form" Jz f fd)(T:Txt K mg)(kD:A5 P w K mg base 1 "_law_mixed" ["_law_cell_here","_law_k"] Mx)(kR:A5 P w K mg base 2 "_law_end" ["_law_cell_here","_law_around","_law_names_here","_law_sort"] (Zas K))(mk:∀n,FnOk P w K mg base As (n+3) f fd pA (Ho K n)->A5 P w K mg base (n+3) "_law_form" ["_law_cells","_law_around","_law_names_here","_law_room","_law_sort"] (Ho K n)):∀n,FnOk P w K mg base As (n+3) f fd pA (Ho K n)
 |0=>by
  have no:∀vs H Q E,¬Ho K 0 vs H Q E:=by
   rintro vs H Q E ⟨_,_,_,_,_,_,_,_,_,_,h1,h2,_⟩;lia
  exact⟨λvs H Q E h=>absurd h (no _ _ _ _),λA outer s H I O vs Q E _ _ _ _ h=>absurd h (no _ _ _ _)⟩
 |n+1=>Zs8 F T kD kR (mk n (Zhc F T kD kR mk n))
def Zvr (ho:K.lookup GE=some ⟨cG,ddG,.cls cdG,slG⟩)(hok:Tt K cdG.ns=true)(hni:Qa K cdG.ns "__init__"=some none):Ts K VE (.ref GE::VE)=true/\(Tw K GE).isSome=true:=by
 have e:Ts K VE VE=true:=by unfold Ts;rfl
 refine⟨?_,by unfold Tw;rw[ho];rfl⟩;unfold Ts;dsimp only;rw[ho];dsimp only;rw[hok,hni,e];simp
def Znh (hC:K.lookup C=some ⟨.type "type",ddC,.cls cdC,slC⟩)(hm:cdC.mro=.ref C::.ref GE::VE)(hs:slC.toList=[k0,k1,k2,k3,some (.builtin "ValueError.__new__"),k5])(hd:cdC.hasDel=false)(h:Ts K VE (.ref GE::VE)=true)(hok:Tt K cdC.ns=true)(hni:Qa K cdC.ns "__init__"=some none):Zbe K C:=by
 obtain⟨nm,bs,mro,ns,U,O,sn,sub,ab,col,I⟩:=cdC;obtain⟨l⟩:=slC;dsimp only at hm hd hok hni hs;subst hm hd hs;exact⟨_,_,_,_,_,_,_,_,_,_,_,_,_,_,_,_,hC,h,hok,hni⟩
noncomputable def Kx (t1 t2 t3 t4 t5 t6:Addr):List (Str×V):=[("plus",.ref t1),("minus",.ref t2),("less",.ref t3),("call",.ref t4),("if",.ref t5),("let",.ref t6)]
def Zt2:((Kx t1 t2 t3 t4 t5 t6).map (·.1)).Nodup:=by
 show(["plus","minus","less","call","if","let"]:List Str).Nodup;right
def Zqw (h1:∀H,SqT K H t1 ([1,0].map V.int))(h2:∀H,SqT K H t2 ([1,0].map V.int))(h3:∀H,SqT K H t3 ([1,0].map V.int))(h4:∀H,SqT K H t4 ([1,0].map V.int))(h5:∀H,SqT K H t5 ([0].map V.int))(h6:∀H,SqT K H t6 ([0].map V.int))(wd:Str) :
  (Dz (Kx t1 t2 t3 t4 t5 t6) wd).isSome=(Bq wd).isSome/\∀ns,Bq wd=some ns->∃b,Dz (Kx t1 t2 t3 t4 t5 t6) wd=some (.ref b)/\∀H,SqT K H b (ns.map V.int):=by
 by_cases O:wd="plus"
 ·subst O;have p:Bq "plus"=some [1,0]:=by right
  exact⟨by rw[p];rfl,λns h=>by rw[p]at h;cases h;exact⟨t1,rfl,h1⟩⟩
 by_cases U:wd="minus"
 ·subst U;have p:Bq "minus"=some [1,0]:=by right
  exact⟨by rw[p];rfl,λns h=>by rw[p]at h;cases h;exact⟨t2,rfl,h2⟩⟩
 by_cases I:wd="less"
 ·subst I;have p:Bq "less"=some [1,0]:=by right
  exact⟨by rw[p];rfl,λns h=>by rw[p]at h;cases h;exact⟨t3,rfl,h3⟩⟩
 by_cases Y:wd="call"
 ·subst Y;have p:Bq "call"=some [1,0]:=by right
  exact⟨by rw[p];rfl,λns h=>by rw[p]at h;cases h;exact⟨t4,rfl,h4⟩⟩
 by_cases Z:wd="if"
 ·subst Z;have p:Bq "if"=some [0]:=by right
  exact⟨by rw[p];rfl,λns h=>by rw[p]at h;cases h;exact⟨t5,rfl,h5⟩⟩
 by_cases e6:wd="let"
 ·subst e6;have p:Bq "let"=some [0]:=by right
  exact⟨by rw[p];rfl,λns h=>by rw[p]at h;cases h;exact⟨t6,rfl,h6⟩⟩
 have p:Bq wd=none:=by
  unfold Bq;rw[if_neg (by simp[O,U,I,Y]),if_neg (by simp[Z,e6])]
 have q:Dz (Kx t1 t2 t3 t4 t5 t6) wd=none:=by
  unfold Dz Kx;simp[Px O,Px U,Px I,Px Y,Px Z,Px e6]
 rw[p,q];exact⟨rfl,λns h=>nomatch h⟩
noncomputable abbrev Gd (K:Pi)(n:Str)(st:Stmt)(f:Addr):Prop:=Qa K mainGlobals n=some (some (.ref f))/\∃fd,Fun K n n st f fd
noncomputable abbrev Gm (K:Pi)(C:Addr)(n q:Str)(st:Stmt)(f:Addr):Prop:=Qn K (.ref C) n=some (some (.ref f))/\V8 K (.ref f)=true/\∃fd,Fun K n q st f fd
noncomputable abbrev Bi (n q:Str)(st:Stmt)(ps:List Str):Prop:=∀(kV doc pm:Value)(an:Option Addr)(cdv ct:Value)(us:List Value),us.length=ps.length->bindArgs (Sk n q (Iq st) (Gh st) (A7 st) .none kV doc pm an cdv ct) ⟨us,[]⟩=pure (ps.zip us)
section
variable {P:Program}{w:World}{K:Pi}{mg:Str->Option Value}{base h:Heap}(X:K.In h)(G:h.Ns mainGlobals mg){n q:Str}{st:Stmt}{f C:Addr}{k:Nat}{ps:List Str}{sp:Sp}
include X G
def cal (g:Gd K n st f)(ok:∀fd,Fun K n n st f fd->FnOk P w K mg base As k f fd ps sp)(b:Bi n n st ps:=by walk_at "bi"):A5 P w K mg base k n ps sp:=by
 obtain⟨a,fd,F⟩:=g;exact Kd (ok fd F) (V6 X G a) F.kp (F.binds b)
def calx (g:Gd K n st f)(ok:∀fd,Fun K n n st f fd->FnOk P w K mg base (Bz P w) k f fd ps sp)(b:Bi n n st ps:=by walk_at "bi"):Ki P w K mg base k n ps sp:=by
 obtain⟨a,fd,F⟩:=g;exact Zr8 (ok fd F) (V6 X G a) F.kp (F.binds b)
omit X G
def met {CX:C3}(cl:Cls K C)(g:Gm K C n q st f)(ok:∀fd,Fun K n q st f fd->FnOk P w K mg base CX k f fd ps sp)(b:Bi n q st ps:=by walk_at "bi"):Dc CX P w K mg base k C n ps sp:=by
 obtain⟨a,i,fd,F⟩:=g;exact⟨f,fd,ok fd F,cl,⟨a,i,F.kp⟩,F.binds b⟩
end
def all_mk {l:W8}{w:World}{K:Pi}{h:Heap}{mg:Str->Option Value}{fa f1 f2 f3 f4 f5 f6 f7 f8 f9 f10 f11 f12 f13 f14 f15 f16 f17 f18 f19 f20 f21 f22 f23 f24 f25 f26 f27 f28 f29 f30 f31 f32 f33 f34 f35 f36 f37 f38 f39 f40 f41 f42 f43 f44:Addr}(X:K.In h)(G:h.Ns mainGlobals mg)(hfa:mg "law"=some (.ref fa))
  (a1:Gd K "is_whole" Js f1) (a2:Gd K "placed_forms" Jx f2) (a3:Gd K "has_part" Jw f3) (a4:Gd K "forms_down_to" Kw f4) (a5:Gd K "form_at" Nf f5) (a6:Gd K "with_part" Lg f6) (a7:Gd K "with_at" K9 f7) (a8:Gd K "refuse_no_gap" Lv f8) (a9:Gd K "is_finished" Mt f9) (a10:Gd K "names_bound" K5 f10) (a11:Gd K "are_numbers" Mn f11) (a12:Gd K "reckoned" Jc f12) (a13:Gd K "thing_now" Kz f13) (a14:Gd K "thing_of_row" Lz f14) (a15:Gd K "go_on" Le f15)
  (a16:Gd K "run" Lo f16) (a17:Gd K "_law_cell" Lw f17) (a18:Gd K "_law_mixed" Nd f18) (a19:Gd K "_law_same" Ju f19) (a20:Gd K "_law_names" M8 f20) (a21:Gd K "_law_number" Mv f21) (a22:Gd K "_law_is_free" Mj f22) (a23:Gd K "_law_any" Ir f23) (a24:Gd K "_law_end" Mb f24) (a25:Gd K "_law_form" Jz f25) (a26:Gd K "_law_is_thing" Mf f26) (a27:Gd K "_law_is_row" Ng f27) (a28:Gd K "_law_is_record" Ni f28) (a29:Gd K "_law_run" Lx f29) (a30:Gd K "_law_go_on" La f30)
  (a31:Gd K "_law_filled" Ka f31) (a32:Gd K "_law_gaps" Jq f32) (a33:Gd K "_law_next" Ln f33) (a34:Gd K "_law_thing" K7 f34) (a35:Gd K "_law_digit" L7 f35) (a36:Gd K "_law_spots" Ik f36) (a37:Gd K "_law_free_row" L9 f37) (a38:Gd K "_law_row" Mz f38) (a39:Gd K "_law_free_record" Lb f39) (a40:Gd K "_law_made_up" Nh f40) (a41:Gd K "_law_both" My f41) (a42:Gd K "_law_tree" Lc f42) (a43:Gd K "_law_fillings" Nc f43) (a44:Gd K "law" Lk f44) (z1:Qa K mainGlobals "isinstance"=some none)
  (z2:Qa K mainGlobals "int"=some none) (z3:Qa K mainGlobals "bool"=some none) (z4:Qa K mainGlobals "reversed"=some none) (z5:Qa K mainGlobals "list"=some none) (z6:Qa K mainGlobals "enumerate"=some none) (z7:Qa K mainGlobals "len"=some none) (z8:Qa K mainGlobals "zip"=some none) (z9:Qa K mainGlobals "all"=some none) (z10:Qa K mainGlobals "tuple"=some none) (z11:Qa K mainGlobals "range"=some none) (z12:Qa K mainGlobals "str"=some none) (z13:Qa K mainGlobals "max"=some none)
  (z14:Qa K mainGlobals "min"=some none) (z15:Qa K mainGlobals "dict"=some none) {u1:Tok} (b1:Qa K mainGlobals "MOST_STEPS"=some (some (.int 500 u1))) {wa pa t1 t2 t3 t4 t5 t6:Addr} {wo o1 o2 o3 o4 o5 o6:Option Addr} {wi i1 i2 i3 i4 i5 i6:Array Value} {wn pn n1 n2 n3 n4 n5 n6:Nat} {ws s1 s2 s3 s4 s5 s6:Array (Option Value)} {pi:Array DictEntry} (b2:Qa K mainGlobals "WORDS_WITH_AROUND"=some (some (.ref wa))) (b3:K.lookup wa=some ⟨.type "tuple",wo,.seq wi wn,ws⟩) (b4:F3 wi.toList=some (WA.map V.str)) (b5:Qa K mainGlobals "PARTS_AWAITED"=some (some (.ref pa)))
  (b6:K.lookup pa=some ⟨.type "dict",none,.dict pi pn,#[]⟩) (b7:(pa == sysModules)=false) (b8:Ents w.params pi.toList (Kx t1 t2 t3 t4 t5 t6)) (gt1:K.lookup t1=some ⟨.type "tuple",o1,.seq i1 n1,s1⟩) (gu1:F3 i1.toList=some ([1,0].map V.int)) (gt2:K.lookup t2=some ⟨.type "tuple",o2,.seq i2 n2,s2⟩) (gu2:F3 i2.toList=some ([1,0].map V.int)) (gt3:K.lookup t3=some ⟨.type "tuple",o3,.seq i3 n3,s3⟩) (gu3:F3 i3.toList=some ([1,0].map V.int)) (gt4:K.lookup t4=some ⟨.type "tuple",o4,.seq i4 n4,s4⟩) (gu4:F3 i4.toList=some ([1,0].map V.int))
  (gt5:K.lookup t5=some ⟨.type "tuple",o5,.seq i5 n5,s5⟩) (gu5:F3 i5.toList=some ([0].map V.int)) (gt6:K.lookup t6=some ⟨.type "tuple",o6,.seq i6 n6,s6⟩) (gu6:F3 i6.toList=some ([0].map V.int)) {GE TL AM g1 g2 g3 g4 g5 g6 g7 g8 g9 g10 g11 Jh Me:Addr} {cG cN cM:Value} {dG dN dT dM:Option Addr} {kG kT:ClassData} {lG lN lT lM:Array (Option Value)} {eN eM:Array DictEntry} {nN nM:Nat} {j0 j1 j2 j3 j5:Option Value} (x1:Qa K mainGlobals "GapError"=some (some (.ref GE))) (x2:K.lookup GE=some ⟨cG,dG,.cls kG,lG⟩) (x3:K.lookup kG.ns=some ⟨cN,dN,.dict eN nN,lN⟩)
  (x4:(eN.toList.all λe=>match e.key with|.str _ _=>true|_=>false)=true) (x5:Qa K kG.ns "__init__"=some none) (y1:Qa K mainGlobals "TooLong"=some (some (.ref TL))) (y2:K.lookup TL=some ⟨.type "type",dT,.cls kT,lT⟩) (y3:kT.mro=.ref TL::.ref GE::VE) (y4:lT.toList=[j0,j1,j2,j3,some (.builtin "ValueError.__new__"),j5]) (y5:kT.hasDel=false) (y6:K.lookup kT.ns=some ⟨cM,dM,.dict eM nM,lM⟩) (y7:(eM.toList.all λe=>match e.key with|.str _ _=>true|_=>false)=true) (y8:Qa K kT.ns "__init__"=some none)
  (y9:PySem.W.typeIn K (.ref TL)=some (.type "type")) (yf:Sj K (.ref TL) (.ref TL)=some true) (yg:Sj K (.ref TL) (.type "BaseException")=some true) (m0:Qa K mainGlobals "Machine"=some (some (.ref AM))) (m1:Uo K AM Str.empty=true) (m2:Vm K AM=true) (m3:Wx K AM=true) (m4:Qn K (.ref AM) "__setattr__"=some (some (.builtin "object.__setattr__"))) (m5:W6 K AM=true) (m6:Ro K (.ref AM)=true) (m7:Qn K (.ref AM) "forms"=some none) (m8:Qn K (.ref AM) "rows"=some none)
  (m9:Qn K (.ref AM) "waiting"=some none) (ma:Qn K (.ref AM) "things"=some none) (mb:Qn K (.ref AM) "steps"=some none) (h1:Gm K AM "__init__" "Machine.__init__" Kg g1) (h2:Gm K AM "make_steps" "Machine.make_steps" Hr g2) (h3:Gm K AM "new_row" "Machine.new_row" Kl g3) (h4:Gm K AM "thing_of_leaf" "Machine.thing_of_leaf" Ko g4) (h5:Gm K AM "come_to" "Machine.come_to" Hv g5) (h6:Gm K AM "taken_things" "Machine.taken_things" J9 g6) (h7:Gm K AM "go_further" "Machine.go_further" Jo g7)
  (h8:Gm K AM "thing_at_the_end" "Machine.thing_at_the_end" Ku g8) (h9:Gm K AM "thing_of_form" "Machine.thing_of_form" Kq g9) (h10:Gm K AM "thing_of_parts" "Machine.thing_of_parts" Kt g10) (h11:Gm K AM "go_within" "Machine.go_within" J7 g11) (h12:Gm K AM "is_function" "Machine.is_function" J8 Jh) (h13:Gm K AM "call" "Machine.call" Ke Me) :
  ∃fd:FuncData,(∀(s:Shared)(v:Value),BindsTo s fd ⟨[v],[]⟩ [("_law_script",v)])/\∀base:Heap,K.In base->base.Ns mainGlobals mg->FnOk l.prog w K mg base As 204 fa fd pV (Zc8 K):=by
 obtain⟨aL,fd,FL⟩:=a44;have e:=hfa.symm.trans (V6 X G aL);cases e;have FX:=FL;obtain⟨_,_,kV,cu,pm,an,cv,ct,_,ef,_,_⟩:=FL.ex;refine⟨fd,λs v=>by rw[ef];exact .of_eq rfl,λbase _ _=>?_⟩;have gl:=λ{n v}=>@V6 K h mg n v X G;have no:=λ{n}=>@PySem.W.mg_none_of K h mg n X G;have T:Txt K mg:=⟨no z1,no z2,no z3,no z4,no z5,no z6,no z7,no z8,no z9,no z10,no z11,no z12,no z13,no z14,no z15⟩;have cg:F4 mg "MOST_STEPS" (.int 500):=⟨_,gl b1,⟨_,rfl⟩⟩;have cp:F4 mg "WORDS_WITH_AROUND" (.ref wa):=⟨_,gl b2,rfl⟩;have cr:=Kp b3 b4 (by decide);have bx:F4 mg "PARTS_AWAITED" (.ref pa):=⟨_,gl b5,rfl⟩;have b9:Im l.prog w K pa (Kx t1 t2 t3 t4 t5 t6):=Zqb b6 b7 b8 Zt2;have b0:=Zqw (K:=K) (Kp gt1 gu1 (by decide)) (Kp gt2 gu2 (by decide)) (Kp gt3 gu3 (by decide)) (Kp gt4 gu4 (by decide)) (Kp gt5 gu5 (by decide)) (Kp gt6 gu6 (by decide));obtain⟨tG,iG⟩:=Zvr x2 (by unfold Tt;rw[x3];show(eN.all λe=>match e.key with|.str _ _=>true|_=>false)=true;rw[<- Array.all_toList];exact x4) x5;have cn:=Znh y2 y3 y4 y5 tG (by unfold Tt;rw[y6];show(eM.all λe=>match e.key with|.str _ _=>true|_=>false)=true;rw[<- Array.all_toList];exact y7) y8;have cc:=gl y1;have ch:Ov K TL:=⟨y9,by unfold Tw;rw[y2];rfl,yg⟩;have ce:Cls K AM:=⟨m1,m2,m3,m4⟩;have ac:Mc K AM:=⟨ce,m7,m8,m9,ma,mb⟩;have me:=λ{CX k n q st f ps sp}=>@met l.prog w K mg base n q st f AM k ps sp CX ce;have ca:=λ{k n st f ps sp}=>@cal l.prog w K mg base h X G n st f k ps sp;have cx:=λ{k n st f ps sp}=>@calx l.prog w K mg base h X G n st f k ps sp;have bn:=ca a1 λ_ F=>Zuy F T;have aq:=ca a2 λ_ F=>Zn7 F T;have bp:=ca a3 λ_ F=>Zsx F T bn;have aa:=ca a4 λ_ F=>Zot F T bp;have bu:=ca a5 λ_ F=>Zpi F T aa;have be:=ca a6 λ_ F=>Zt1 F T;have bt:=ca a7 λ_ F=>Zne F T aa be;have al:=ca a8 λ_ F=>Zt9 F T;have au:=ca a9 λ_ F=>Zv8 F T;have ay:=ca a10 λ_ F=>Ztv F T;have av:=ca a11 λ_ F=>Zl4 F T;have bo:=ca a12 λ_ F=>Zrd F T;have ai:=ca a13 λ_ F=>Zl9 F T;have M1:=me h2 λ_ F=>Zum F T ac cg;have M2:=me h3 λ_ F=>Zom F T ac cp cr;have M3:=me h4 λ_ F=>Zr0 F T ac M2;have M5:=me h6 λ_ F=>Zov F T ac;have MW:=me h11 λ_ F=>Zpx F T ac ay;have MI:=me h12 λ_ F=>Zph F T ac au;have cm:=me h13 λ_ F=>Zwu F T ac MW;have M6:=me h7 λ_ F=>Zt5 F T ac bx b9 b0 M5 M2 MW cm MI av bo;have cs:=me h2 λ_ F=>Zpz F T ac cg cn cc;have cq:=me h5 λ_ F=>Zoh (Ztm (Zv2 F T ac bx b9 b0 M1 M3)) (Zpk F T ac bx b9 b0 cs M3);have cb:=me h8 λ_ F=>Zvg F T ac cq M6;have ci:=me h9 λ_ F=>Ze6 F T ac cb;have cj:=me h9 λ_ F=>Zqo (Ze6 F T ac cb);have ck:=me h10 λ_ F=>Znb (Zvw F T ac cb);have cf:Pc As l.prog w K mg base 2 "Machine" AM pW (Zap K AM):=by
  obtain⟨a,i,fd,F⟩:=h1;exact⟨g1,fd,Zuv F T ac aq M1,⟨m5,a,i,m6⟩,gl m0,F.binds (by walk_at "bi")⟩
 have as:=cx a14 λ_ F=>Zm0 F T ac bx b9 b0 ai M2 cj ck;have bv:=cx a15 λ_ F=>Zta F T ac al bu bt ai as cf;have bw:=cx a16 λ_ F=>Zwk F T ac cf ci;have I:=ca a17 λ_ F=>Zpc F T;have O:=ca a18 λ_ F=>Zl0 F T;have bf:=ca a19 λ_ F=>Zk9 F T (λn h=>Kd h (gl a19.1) F.kp (F.binds (by walk_at "bi"))) 7;have a0:=ca a20 λ_ F=>Zw3 F T O;have aw:=ca a21 λ_ F=>Zr2 F T;have U:=ca a22 λ_ F=>Ztj F T I;have ao:=ca a23 λ_ F=>Zg0 F T (λn h=>Kd h (gl a23.1) F.kp (F.binds (by walk_at "bi"))) 32;have bq:=ca a24 λ_ F=>Zvs F T aw;have aj:=ca a25 λ_ F=>Zhc F T O bq (λn h=>Kd h (gl a25.1) F.kp (F.binds (by walk_at "bi"))) 20;have Z:=ca a26 λ_ F=>Zpb F T;have ax:=ca a27 λ_ F=>Zw2 F T Z;have Y:=ca a28 λ_ F=>Zll F T Z ax;have br:=ca a29 λ_ F=>Zqs F T bw ch cc yf;have bb:=ca a30 λ_ F=>Zqt F T bv ch cc yf;have ad:=ca a31 λ_ F=>Zg6 F T (λn h=>Kd h (gl a31.1) F.kp (F.binds (by walk_at "bi"))) 201;have ah:=ca a32 λ_ F=>Zff F T (λn h=>Kd h (gl a32.1) F.kp (F.binds (by walk_at "bi"))) 150;have bg:=ca a33 λ_ F=>Zwv F T;have ba:=ca a34 λ_ F=>Zq3 F T;have ag:=ca a35 λ_ F=>Zmm F T;have af:=ca a36 λ_ F=>Zje F T (λn h=>Kd h (gl a36.1) F.kp (F.binds (by walk_at "bi"))) 71;have ak:=ca a37 λ_ F=>Zno F T ag;have bj:=ca a38 λ_ F=>Zur F T bg ba;have ae:=ca a39 λ_ F=>Zse F T I af ag ak;have ap:=ca a40 λ_ F=>Zqi F T af bj;have bh:=ca a41 λ_ F=>Zsu F T bb Y ad;have bi:=ca a42 λ_ F=>Zt6 F T I aj U ao ah;have am:=ca a43 λ_ F=>Zo0 F T I O aj U ao;exact Zt8 FX T I O bf a0 U Y br ad ah ae ap bh bi am
def walk {l:W8}{q:Program}{loose:List Str}{XP:(Str->Option Value)->Heap->Prop}{YP:World->Heap->Prop}{d:DefRec}{K:Params->Pi}(hn:l.most=some 63)(hdf:d.params.defaults=[])
  (hY:∀(w:World)(h:Heap),YP w h->(K w.params).In h)
  (F:∀(w:World)(mg:Str->Option Value)(fa:Addr)(h:Heap),(K w.params).In h->h.Ns mainGlobals mg->mg d.name=some (.ref fa) ->
   ∃fd:FuncData,(∀(s:Shared)(u:Value),BindsTo s fd ⟨[u],[]⟩ [("_law_script",u)])/\∀base:Heap,(K w.params).In base->base.Ns mainGlobals mg->FnOk l.prog w (K w.params) mg base As 204 fa fd pV (Zc8 (K w.params))) :
  PySem.W.WalkO q loose XP YP l.row.toRowW d [] (λf vs=>PySem.call f vs) :=
 L2.walk_of (n:=63) (k:=204) (x:="_law_script") (CX:=λ_=>As) (sp:=λw=>Zc8 (K w.params)) hn (by decide) hdf ⟨rfl,by decide,by decide⟩ hY F (λ_ _ a ns hl _ I=>⟨a,ns,rfl,I,hl,λ_=>rfl⟩) λ_ _ _ _ _ z=>z
end K54
open PySem PySem.W PyProof.Rows
set_option maxRecDepth 100000 in
set_option maxHeartbeats 0 in
theorem PySem.Challenge.cw_gapscribe_k54_whole_gaps_in_either_order_holds : PySem.Challenge.rw_gapscribe_k54_whole_gaps_in_either_order.Holds := by
 w_on; o_law; o_head (PySem.W.kHook K54.KK K54.KA (λ_=>by kernel_rfl)); (case hw=>w_witness2)
 k_fill
 refine K54.walk (l:=PySem.Challenge.rw_gapscribe_k54_whole_gaps_in_either_order) rfl rfl (λw h Y=>PySem.W.kIn_of Y) ?F
 case F =>
  intro w mg U h O G I;refine' K54.all_mk O G I ?a1 ?a2 ?a3 ?a4 ?a5 ?a6 ?a7 ?a8 ?a9 ?a10 ?a11 ?a12 ?a13 ?a14 ?a15 ?a16 ?a17 ?a18 ?a19 ?a20 ?a21 ?a22 ?a23 ?a24 ?a25 ?a26 ?a27 ?a28 ?a29 ?a30 ?a31 ?a32 ?a33 ?a34 ?a35 ?a36 ?a37 ?a38 ?a39 ?a40 ?a41 ?a42 ?a43 ?a44 ?z1 ?z2 ?z3 ?z4 ?z5 ?z6 ?z7 ?z8 ?z9 ?z10 ?z11 ?z12 ?z13 ?z14 ?z15 ?b1 ?b2 ?b3 ?b4 ?b5 ?b6 ?b7 ?b8 ?gt1 ?gu1 ?gt2 ?gu2 ?gt3 ?gu3 ?gt4 ?gu4 ?gt5 ?gu5 ?gt6 ?gu6 ?x1 ?x2 ?x3 ?x4 ?x5 ?y1 ?y2 ?y3 ?y4 ?y5 ?y6 ?y7 ?y8 ?y9 ?yf ?yg ?m0 ?m1 ?m2 ?m3 ?m4 ?m5 ?m6 ?m7 ?m8 ?m9 ?ma ?mb ?h1 ?h2 ?h3 ?h4 ?h5 ?h6 ?h7 ?h8 ?h9 ?h10 ?h11 ?h12 ?h13
  (case a1|a2|a3|a4|a5|a6|a7|a8|a9|a10|a11|a12|a13|a14|a15|a16|a17|a18|a19|a20|a21|a22|a23|a24|a25|a26|a27|a28|a29|a30|a31|a32|a33|a34|a35|a36|a37|a38|a39|a40|a41|a42|a43|a44=>walk_at "gd")
  (case z1|z2|z3|z4|z5|z6|z7|z8|z9|z10|z11|z12|z13|z14|z15|b1|b2|b3=>k_is)
  (case b4=>rfl)
  (case b5|b6=>k_is)
  (case b7=>rfl)
  (case b8=>(repeat (first|exact .nil|refine .cons rfl ?_)))
  (case gt1=>k_is)
  (case gu1=>rfl)
  (case gt2=>k_is)
  (case gu2=>rfl)
  (case gt3=>k_is)
  (case gu3=>rfl)
  (case gt4=>k_is)
  (case gu4=>rfl)
  (case gt5=>k_is)
  (case gu5=>rfl)
  (case gt6=>k_is)
  (case gu6=>rfl)
  (case x1|x2|x3=>k_is)
  (case x4=>rfl)
  (case x5|y1|y2=>k_is)
  (case y3=>rfl)
  (case y4=>rfl)
  (case y5=>rfl)
  (case y6=>k_is)
  (case y7=>rfl)
  (case y8|y9|yf|yg|m0|m1|m2|m3|m4|m5|m6|m7|m8|m9|ma|mb=>k_is)
  (case h1|h2|h3|h4|h5|h6|h7|h8|h9|h10|h11|h12|h13=>walk_at "gm")
#print axioms PySem.Challenge.cw_gapscribe_k54_whole_gaps_in_either_order_holds
