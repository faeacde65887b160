import PyProof.Rows.All
import Wide.All
import OpenK.AllK
import Wide.FinOn
import Lean
import PyProof.EqAt
import PyProof.EqKinds
import PyProof.TupleCall
import PyProof.StrBlock2
import KE.KDictOf
import PyProof.AttrMissHeap
import KE.KRevSl
import KE.KDictSum
import PyProof.Rows.SortStr
import KE.KRevIter
import PyProof.RangeIter
import KE.RegMulBits
import KE.IntBitsLaws
import PySem.Challenge.RW_gapscribe_k53_whole_going_on_is_the_run
set_option compiler.extract_closed false
set_option bootstrap.genMatcherCode false
set_option genSizeOfSpec false
set_option Elab.async false
set_option linter.all false
set_option maxRecDepth 100000
open Array renaming getElem?_eq_some_iff->Up,length_toList->U2
open Bool renaming false_ne_true->Pu,and_eq_true->Ry,false_eq_true->T4,eq_iff_iff->T9
open False renaming elim->Ql
open Int renaming emod_nonneg->Qi,emod_lt_of_pos->Qx,toNat_natCast->Q3,le_refl->Qu,add_zero->Q6
open List renaming getElem?_eq_getElem->Pk,size_toArray->Pl,length_append->Pn,getElem?_eq_some_iff->Pt,length_map->Pp,length_singleton->Py,mem_cons->Po,not_mem_nil->Px,getElem?_append_left->Qd,append_assoc->P8,getElem?_append_right->Qn,length_cons->Qc,mem_of_getElem?->Qo,map_append->Qh,take_of_length_le->Q9,length_take->Qm,mem_append_right->Ra,range->P7,mem_singleton->Qw,getElem?_map->Qy,eq_nil_of_length_eq_zero->Sc,drop_of_length_le->Rr,replicate->Qr,append_nil->Q0,drop_eq_getElem_cons->Se,mem_cons_of_mem->Rt,map_cons->Qs,getElem?_set_self->Sg,find?_cons->Rb,mem_append->Rl,length_drop->Rw,take_add_one->R6,lookup_cons->R7,all_eq_true->R8,all_cons->Ro,getElem?_cons_succ->Tl,append_cancel_left->To,mem_map->Rf,reverse_append->Ss,getD_eq_getElem?_getD->Uq,append_inj'->Sj,getElem?_set_ne->Tu,replicate_succ->Tv,length_reverse->Tw,cons_append->Su,reverse_singleton->Uz,mem_cons_self->Tx,lookup->Rz,length_set->Sw,nil_append->Sx,reverse_cons->T6,take_length->T8,filterMap_cons->U1,forIn_cons->Ua,flatten_cons->U7,singleton_append->V9,getElem_mem->Vb,getElem?_of_mem->Wb,any_cons->Ug,dropLast_concat_getLast->W2,nodup_cons->Ve,of_mem_zip->Vf,length->Th,length_nil->Vi,map_singleton->We,mem_range->Vk,forIn_nil->Vm,mem_reverse->Wm,map_reverse->Wn,mem_filter->Wo,map_nil->Vu
open List.cons renaming injEq->Ww
open Nat renaming le_refl->Pj,lt_of_lt_of_le->P9,ne_of_lt->P0,le_trans->Qg,zero_le->Qk,lt_irrefl->Q4,ne_of_gt->Q1,sub_self->Re,min_eq_left->Ud,lt_succ_self->U9,le_add_right->Vc,min_eq_right->Vd,not_lt_zero->Vj,le_of_lt->Uh,sub_zero->Ui,succ_pos->Vw,zero_add->Vx,le_succ->Vz
open Ne renaming symm->Ps
open Option renaming bind_eq_some_iff->Pw,bind_some->Pr,map_eq_some_iff->Rs,isSome_iff_exists->Sf,map_some->Uc,toList_some->U5
open Option.some renaming inj->Qa
open Prod.mk renaming inj->Uj
open PyProof.Rows renaming callWith_type1->Sd,slot_tuple_getitem->Sq
open PySem renaming wpAny_bind->Ph,wpAny_pure->Pi,wpAny_field->Pz,wpAny_callSpecial?_slot->Ri,wpAny_setField_rec->Rj,wpAny_call_entry->Rk,wpAny_truthy_bool->Ru,wpAny_seqItems->Rc,wpAny_holding->Q5,mem_of_lookup->Sh,wpAny_newObj_type->R5,Params->Rg,builtinLookup_eq_fast->Tp,wpAny_passesOwn->Sk,wpAny_getItem_str_slice->Uw,wpAny_Call_Name_kw->Tz,wpAny_pyIter_tuple->T3,wpAny_execs_nil->Sv,codeAny_builtin->Sy,wpAny_mono->Rp,plainId_quiet->Sl,Stmt->Rq,wpAny_attempt->Tb,typeLookup_type->Ub,wpAny_pyIter_list->U8,wpAny_setField->Ue,codeAny_mono->Te,wpAny_typeOf->Tg,noFill_tuple_add->Va,wpAny_updateSeq_pair->Wa,call_meets->Sn,post_val_or_str->Vg,wpAny_updateSeq->Vh,slot_list_getitem->Wj,wpAny_rule->Tj,seq_tuple_add->Vo,wpAny_onRaise->Vp,wpAny_execs_cons->Wk,wpAny_isInstance->Wl,Within->Vr,concat_meets->Vt,wpAny_specialOf->Wu,sizeLine_eq->Vy,wpAny_letGo->V0
open PySem.Around renaming under_plainId->Sr
open PySem.AutoSeq1 renaming wpAny_loadPart'->Um
open PySem.Builtin.List renaming listTooLong->Uu,listLengthHint->V1,listExtendWith->V2
open PySem.Builtin.Slice renaming slicePlaces->Ur,sliceAdjust->V4
open PySem.Builtin.SmallTypes renaming ownedTupleIsFree->Rh,nextOf->Q2,ownedTupleHandOut->Wx
open PySem.Builtin.Tuple renaming tupleExact->Ut
open PySem.Calls renaming spliced_cons->Wd,spliced_nil->Wi
open PySem.Challenge renaming pw_gapscribe_k53_whole_going_on_is_the_run->So
open PySem.F renaming plainAttrs_list->P5,slot_list_append->Qe,type_list_append->Qf,slot_zip_next->R4,slot_tuple_iterator_next->Ul,plain_extend_loop->Tk,slot_enumerate_next->Uo,slot_list_pop->Tq,type_list_pop->Ts,args_tuple_add_2->Us,entry_tuple_add->Uv,args_zip_next_1->Ux,slot_tuple_add->Uy,entry_zip_next->U0,excBase_ValueError->V3,slot_list_getattribute->V5,slot_list_extend->V6,type_list_extend->V7,args_tuple_iterator_next_1->Wy,entry_tuple_iterator_next->Wz,args_enumerate_next_1->W0,entry_enumerate_next->W1
open PySem.Heap renaming get?_push_of_some->Pm,get?_push_size->P3,lt_size->Pq,SameBut->P4,get?_update_other->Q8,size_push->Qq,get?_update_self->R3,get?_none_of_le->Tt,ExtBut->Ti,dictOf_iff->Wv
open PySem.Obj renaming mapSeq->Qv,data_mapFields->U4,mapFields->Tc,isFreed_of_fields->V8
open PySem.Paired renaming length->Vn
open PySem.PassesOwn renaming never->Qp
open PySem.SeqAt renaming EqAt->P6
open PySem.SeqAt.EqAt renaming same->Wr
open PySem.Str renaming ofString->Qt
open PySem.Txt renaming slice_le->Vv,slice->Uk
open PySem.W renaming Frag->Pg,nsIn->Qb,findIn->Qj,kia_one->Qz,emptyDict->Rv,keepIn->Rm,kitOne->Rn,instObj->R9,BT->Q7,subIn->Sa,fnOf->Sb,tailIn->Sz,nsOkIn->Ta,plainGet->T7,callWith_K->U3,clsIn->Td,hasDictIn->U6,Looks->Uf,plainGet_of->Wc,lookIn->Vl,methodObj->Wf,plainOver->Wg,kitx_list->Wh,mg_of->Vq,isFn->Vs,takerIn->Wp,makesIn->Wq,OpenLaw->Ws
inductive eX3 {T0 T1 T2:Type}(p:T0->T1->T2->Prop):Prop
 |mk (x0:T0)(x1:T1)(x2:T2)(h:p x0 x1 x2)
inductive eX4 {T0 T1 T2 T3:Type}(p:T0->T1->T2->T3->Prop):Prop
 |mk (x0:T0)(x1:T1)(x2:T2)(x3:T3)(h:p x0 x1 x2 x3)
inductive eX5 {T0 T1 T2 T3 T4:Type}(p:T0->T1->T2->T3->T4->Prop):Prop
 |mk (x0:T0)(x1:T1)(x2:T2)(x3:T3)(x4:T4)(h:p x0 x1 x2 x3 x4)
inductive eX7 {T0 T1 T2 T3 T4 T5 T6:Type}(p:T0->T1->T2->T3->T4->T5->T6->Prop):Prop
 |mk (x0:T0)(x1:T1)(x2:T2)(x3:T3)(x4:T4)(x5:T5)(x6:T6)(h:p x0 x1 x2 x3 x4 x5 x6)
inductive eX9 {T0 T1 T2 T3 T4 T5 T6 T7 T8:Type}(p:T0->T1->T2->T3->T4->T5->T6->T7->T8->Prop):Prop
 |mk (x0:T0)(x1:T1)(x2:T2)(x3:T3)(x4:T4)(x5:T5)(x6:T6)(x7:T7)(x8:T8)(h:p x0 x1 x2 x3 x4 x5 x6 x7 x8)
inductive eX16 {T0 T1 T2 T3 T4 T5 T6 T7 T8 T9 T10 T11 T12 T13 T14 T15:Type}(p:T0->T1->T2->T3->T4->T5->T6->T7->T8->T9->T10->T11->T12->T13->T14->T15->Prop):Prop
 |mk (x0:T0)(x1:T1)(x2:T2)(x3:T3)(x4:T4)(x5:T5)(x6:T6)(x7:T7)(x8:T8)(x9:T9)(x10:T10)(x11:T11)(x12:T12)(x13:T13)(x14:T14)(x15:T15)(h:p x0 x1 x2 x3 x4 x5 x6 x7 x8 x9 x10 x11 x12 x13 x14 x15)
inductive eX17 {T0 T1 T2 T3 T4 T5 T6 T7 T8 T9 T10 T11 T12 T13 T14 T15 T16:Type}(p:T0->T1->T2->T3->T4->T5->T6->T7->T8->T9->T10->T11->T12->T13->T14->T15->T16->Prop):Prop
 |mk (x0:T0)(x1:T1)(x2:T2)(x3:T3)(x4:T4)(x5:T5)(x6:T6)(x7:T7)(x8:T8)(x9:T9)(x10:T10)(x11:T11)(x12:T12)(x13:T13)(x14:T14)(x15:T15)(x16:T16)(h:p x0 x1 x2 x3 x4 x5 x6 x7 x8 x9 x10 x11 x12 x13 x14 x15 x16)
local macro_rules | `(tactic| right)=>`(tactic| decide +kernel)
namespace L2
open PySem PySem.Spec PyProof.Rows
theorem zBzQ {p:Prop}(h:p:=by first|exact .inl rfl|exact .inr rfl|assumption):p:=h
def zQ:=zBzQ._auto_1
theorem zBzW {p:Prop}(h:p:=by decide):p:=h
def zW:=zBzW._auto_1
theorem zBzE {p:Prop}(h:p:=by intro _;rfl):p:=h
def zE:=zBzE._auto_1
theorem zBzX {p:Prop}(h:p:=by rfl):p:=h
def zX:=zBzX._auto_1
noncomputable abbrev Au:=Sum Int Str
noncomputable def Jv:Au->Value->Bool
 |.inl k,v=>Value.isInt k v
 |.inr x,v=>Value.isStrOf x v
noncomputable def keyH (w:World):Au->Int
 |.inl k=>hashInt k
 |.inr x=>hashStr w x
theorem Fw:∀{k:Au}{v:Value},Jv k v=true->(∃i t,k=Sum.inl i/\v=Value.int i t)\/(∃x t,k=Sum.inr x/\v=Value.str x t)
 |.inl i,v,h=>by
  obtain⟨t,e⟩:=Value.isInt_shape (k:=i) (v:=v) h;exact .inl ⟨i,t,rfl,e⟩
 |.inr x,v,h=>by
  obtain⟨t,e⟩:=Value.isStrOf_shape (x:=x) (v:=v) h;exact .inr ⟨x,t,rfl,e⟩
theorem Zjs (i:Int)(t:Tok):Jv (.inl i) (.int i t)=true:=by simp[Jv,Value.isInt]
theorem Zng (x:Str)(t:Tok):Jv (.inr x) (.str x t)=true:=by simp[Jv,Value.isStrOf]
theorem Zr0 (a b:Int):decide ((Sum.inl a:Au)=Sum.inl b)=(a == b):=by
 by_cases e:a=b
 ·subst e;simp
 ·have h:¬(Sum.inl a:Au)=Sum.inl b:=λq=>e (Sum.inl.inj q);rw[decide_eq_false h];exact(beq_eq_false_iff_ne.mpr e).symm
theorem Zo0 (a b:Str):decide ((Sum.inr a:Au)=Sum.inr b)=decide (a=b):=by
 by_cases e:a=b
 ·subst e;simp
 ·have h:¬(Sum.inr a:Au)=Sum.inr b:=λq=>e (Sum.inr.inj q);rw[decide_eq_false h,decide_eq_false e]
theorem Zpk (a:Int)(b:Str):decide ((Sum.inl a:Au)=Sum.inr b)=false:=decide_eq_false (λq=>nomatch q)
theorem Zvb (a:Str)(b:Int):decide ((Sum.inr a:Au)=Sum.inl b)=false:=decide_eq_false (λq=>nomatch q)
noncomputable def Dx (prog:Program)(w:World):PySem.KeyKind prog w Au where
 is:=Jv
 hash:=keyH w
 inj:=λv a b U I=>by
  rcases Fw U with⟨i,t,rfl,rfl⟩|⟨x,t,rfl,rfl⟩
  ·rcases Fw I with⟨j,u,rfl,e⟩|⟨y,u,rfl,e⟩
   ·injection e with e1 _;rw[e1]
   ·exact nomatch e
  ·rcases Fw I with⟨j,u,rfl,e⟩|⟨y,u,rfl,e⟩
   ·exact nomatch e
   ·injection e with e1 _;rw[e1]
 byValue:=λk v h=>by
  rcases Fw h with⟨i,t,rfl,rfl⟩|⟨x,t,rfl,rfl⟩ <;> rfl
 pyHash:=λF h=>by
  rcases Fw F with⟨i,t,rfl,rfl⟩|⟨x,t,rfl,rfl⟩
  ·exact wpAny_pyHash_int h
  ·exact wpAny_pyHash_str h
 eqBool:=λO F h=>by
  rcases Fw O with⟨i,t,rfl,rfl⟩|⟨x,t,rfl,rfl⟩
  ·rcases Fw F with⟨j,u,rfl,rfl⟩|⟨y,u,rfl,rfl⟩
   ·rw[Zr0]at h;exact wpAny_eqBool_int h
   ·rw[Zpk]at h;exact P6.int_str i t y u _ _ _ _ h
  ·rcases Fw F with⟨j,u,rfl,rfl⟩|⟨y,u,rfl,rfl⟩
   ·rw[Zvb]at h;exact P6.str_int x t j u _ _ _ _ h
   ·rw[Zo0]at h;exact wpAny_eqBool_str h
 «strs»:=λk x t v h=>by
  rcases Fw h with⟨i,u,rfl,e⟩|⟨y,u,rfl,e⟩
  ·exact nomatch e
  ·injection e with e1 _;subst e1;cases v <;> rfl
theorem Zlz (prog:Program)(w:World)(i:Int)(t:Tok):(Dx prog w).is (.inl i) (.int i t)=true:=Zjs i t
theorem Zlr (prog:Program)(w:World)(x:Str)(t:Tok):(Dx prog w).is (.inr x) (.str x t)=true:=Zng x t
inductive V where
 |non|bl (b:Bool)|int (i:Int)|str (x:Str)|byt (b:Array UInt8)|flt (b:UInt64)|ref (a:Addr)|ty (n:String)
 deriving DecidableEq
def RelV:V->Value->Prop
 |.non,u=>u=Value.none
 |.bl b,u=>u=Value.bool b
 |.int i,u=>∃t,u=Value.int i t
 |.str x,u=>∃t,u=Value.str x t
 |.byt b,u=>∃t,u=Value.bytes b t
 |.flt b,u=>∃t,u=Value.float b t
 |.ref a,u=>u=Value.ref a
 |.ty n,u=>u=Value.type n
noncomputable abbrev Vals:List V->List Value->Prop:=Paired RelV
theorem Vals.length (r:Vals xs us):xs.length=us.length:=Vn r
theorem Vals.get:∀{xs:List V}{us:List Value}{i:Nat}{x:V},Vals xs us->xs[i]?=some x->∃u,us[i]?=some u/\RelV x u
 |_,_,_,_,.nil,e=>by simp at e
 |_,_,0,_,.cons r _,e=>by simp at e;subst e;exact⟨_,rfl,r⟩
 |_,_,i+1,x,.cons _ t,e=>by
  obtain⟨u,h1,h2⟩:=Vals.get (i:=i) (x:=x) t (by simpa using e);exact⟨u,by simpa using h1,h2⟩
theorem Vals.set (r:RelV x u):∀{xs:List V}{us:List Value}(i:Nat),Vals xs us->Vals (xs.set i x) (us.set i u)
 |_,_,_,.nil=>.nil
 |_,_,0,.cons _ t=>.cons r t
 |_,_,i+1,.cons q t=>.cons q (Vals.set r i t)
theorem Vals.append:∀{xs ys:List V}{us ws:List Value},Vals xs us->Vals ys ws->Vals (xs++ys) (us++ws)
 |_,_,_,_,.nil,s=>s
 |_,_,_,_,.cons r t,s=>.cons r (Vals.append t s)
theorem Vals.take:∀{xs:List V}{us:List Value}(n:Nat),Vals xs us->Vals (xs.take n) (us.take n)
 |_,_,0,_=>.nil
 |_,_,_+1,.nil=>.nil
 |_,_,n+1,.cons r t=>.cons r (Vals.take n t)
theorem Vals.drop:∀{xs:List V}{us:List Value}(n:Nat),Vals xs us->Vals (xs.drop n) (us.drop n)
 |_,_,0,r=>r
 |_,_,_+1,.nil=>.nil
 |_,_,n+1,.cons _ t=>Vals.drop n t
def RelO:Option V->Option Value->Prop
 |some v,some u=>RelV v u
 |none,none=>True
 |_,_=>False
def KV {κ:Type}:List (κ×V)->List (κ×Value)->Prop:=Paired λ(p:κ×V) (q:κ×Value)=>p.1=q.1/\RelV p.2 q.2
noncomputable def kV:Au->V
 |.inl i=>.int i
 |.inr x=>.str x
inductive HO where
  |lst (xs:List V)
  |tup (xs:List V)
  |dK (kvs:List (Au×V))|dT (kvs:List (List Au×V))
  |set (S:Int->Bool) (n:Nat)
  |ins (C dx:Addr) (fs:List (Str×V))
  |own (x:Addr)
  |xd (fs:List (Str×V))
  |met (f x:Addr)
  |rng (lo hi:Int)
  |frz (o:Obj) (u:HO)
  |tbl (ps:Array Value)
  |ext (φ:Heap->Prop)
noncomputable abbrev Hp:=Addr->Option HO
noncomputable def upd (H:Hp)(a:Addr)(o:HO):Hp:=λb=>if b=a then some o else H b
theorem Ae:upd H a o a=some o:=by unfold upd;rw[if_pos rfl]
theorem Ag (h:b≠a):upd H a o b=H b:=by unfold upd;rw[if_neg h]
theorem Hw:upd (upd H a o) a u=upd H a u:=by
 funext b;unfold upd;split <;> rfl
theorem Dw {H:Hp}{a b:Addr}{o u:HO}(h:H a=some o)(h':H b=some u)(d:o≠u):a≠b:=by
 intro e;subst e;rw[h]at h';exact d (Qa h')
theorem Cy {H:Hp}{a b:Addr}{o:HO}(h:H a=some o)(h':H b=none):a≠b:=by
 intro e;subst e;rw[h]at h';cases h'
section
variable (P:Program)(w:World)
def ObjOk (H:Hp)(h:Heap)(a:Addr):HO->Prop
 |.lst xs=>xs.length<=sizeLine/\∃(its:List Value)(n:Nat),Vals xs its/\h.get? a=some { cls:=.type "list",data:=.seq its.toArray n }
 |.tup xs=>xs.length<=sizeLine/\∃its:List Value,Vals xs its/\IsTup h a its.toArray
 |.dK kvs=>kvs.length<=sizeLine/\(a == sysModules)=false/\∃vs,KV kvs vs/\h.DictOf (Dx P w) a vs
 |.dT kvs=>kvs.length<=sizeLine/\(a == sysModules)=false/\∃xs:List (List Au×Addr×Value),
   Paired (λ(p:List Au×V) (q:List Au×Addr×Value)=>p.1=q.1/\H q.2.1=some (.tup (p.1.map kV))/\RelV p.2 q.2.2) kvs xs /\
   eX3 λo es ep=>h.get? a=some o/\o.ExactDict/\o.data=.dict es ep/\es.toList=xs.map (entryOfKey (tupleKind (Dx P w)))/\(xs.map (·.1)).Nodup
 |.set S n=>h.SetOf (intKind P w) a S n
 |.ins C dx fs=>H dx=some (.own a)/\fs.length<=1000/\dx≠a/\h.get? a=some (R9 C dx) /\
   ∃mA,h.Ns1 dx mA/\(∀f,RelO (fs.lookup f) (mA f))/\Vr mA (fs.map (·.1))
 |.own _=>∃o,h.get? a=some o
 |.xd fs=>∃mA,h.Ns1 a mA/\∀f,RelO (fs.lookup f) (mA f)
 |.rng lo hi=>eX3 λt u v=>h.get? a=some { cls:=.type "range",data:=.fields #[.int lo t,.int hi u,.int 1 v] }
 |.frz o u=>h.get? a=some o/\ObjOk H h a u
 |.tbl ps=>h.get? a=some { cls:=.none,data:=.fields ps }
 |.met f x=>h.get? a=some (Wf (.ref f) (.ref x))
 |.ext φ=>φ h/\(∃o,h.get? a=some o)/\∀h1 h2:Heap,φ h1->(∀o,h1.get? a=some o->h2.get? a=some o)->φ h2
def HOk (H:Hp)(h:Heap):Prop:=∀a o,H a=some o->ObjOk P w H h a o
end
section
variable {P:Program}{w:World}{H H':Hp}{h h':Heap}{a:Addr}{o:HO}
theorem ObjOk.lt (x:ObjOk P w H h a o):a<h.objs.size:=by
 cases o with
 |lst xs=>obtain⟨_,_,_,_,e⟩:=x;exact Pq e
 |tup xs=>obtain⟨_,_,_,p⟩:=x;exact p.lt
 |dK kvs=>obtain⟨_,_,_,_,o,_,_,e,_⟩:=x;exact Pq e
 |dT kvs=>obtain⟨_,_,_,_,o,_,_,e,_⟩:=x;exact Pq e
 |set S n=>obtain⟨o,_,_,_,e,_⟩:=x;exact Pq e
 |ins C dx fs=>obtain⟨_,_,_,e,_⟩:=x;exact Pq e
 |own y=>obtain⟨_,e⟩:=x;exact Pq e
 |xd fs=>obtain⟨_,⟨_,_,_,e,_⟩,_⟩:=x;exact Pq e
 |rng lo hi=>obtain⟨_,_,_,e⟩:=x;exact Pq e
 |frz j u=>obtain⟨e,_⟩:=x;exact Pq e
 |tbl ps=>exact Pq (show h.get? a=some _ from x)
 |met f y=>exact Pq (show h.get? a=some _ from x)
 |ext φ=>obtain⟨_,⟨_,e⟩,_⟩:=x;exact Pq e
theorem Paired.mapP {α β:Type}{F G:α->β->Prop}:∀{l₁:List α}{l₂:List β},Paired F l₁ l₂->(∀a b,F a b->G a b)->Paired G l₁ l₂
 |_,_,.nil,_=>.nil
 |_,_,.cons r t,f=>.cons (f _ _ r) (Paired.mapP t f)
theorem ObjOk.stay (x:ObjOk P w H h a o)(k:∀b u,(b=a\/H b=some (.own a))->h.get? b=some u->h'.get? b=some u)
  (ho:∀b,H b=some (.own a)->H' b=some (.own a)) (ht:∀b xs,H b=some (.tup xs)->H' b=some (.tup xs)):ObjOk P w H' h' a o:=by
 induction o with
 |lst xs=>obtain⟨z,I,n,r,e⟩:=x;exact⟨z,I,n,r,k _ _ (.inl rfl) e⟩
 |tup xs=>obtain⟨z,I,r,j,e,c⟩:=x;exact⟨z,I,r,j,k _ _ (.inl rfl) e,c⟩
 |dK kvs=>obtain⟨z,y,vs,r,j,es,F,e,c⟩:=x;exact⟨z,y,vs,r,j,es,F,k _ _ (.inl rfl) e,c⟩
 |dT kvs =>
  obtain⟨z,y,xs,r,j,es,F,e,c⟩:=x;exact⟨z,y,xs,Paired.mapP r λp q z=>⟨z.1,ht _ _ z.2.1,z.2.2⟩,j,es,F,k _ _ (.inl rfl) e,c⟩
 |set S n=>obtain⟨j,es,F,t,e,c⟩:=x;exact⟨j,es,F,t,k _ _ (.inl rfl) e,c⟩
 |ins C dx fs =>
  obtain⟨d,z,ne,e,mA,⟨od,es,F,O,c⟩,r⟩:=x;exact⟨ho _ d,z,ne,k _ _ (.inl rfl) e,mA,⟨od,es,F,k _ _ (.inr d) O,c⟩,r⟩
 |own y=>obtain⟨j,e⟩:=x;exact⟨j,k _ _ (.inl rfl) e⟩
 |xd fs=>obtain⟨mA,⟨od,es,F,e,c⟩,r⟩:=x;exact⟨mA,⟨od,es,F,k _ _ (.inl rfl) e,c⟩,r⟩
 |rng lo hi=>obtain⟨t,u,v,e⟩:=x;exact⟨t,u,v,k _ _ (.inl rfl) e⟩
 |frz j u U=>obtain⟨e,q⟩:=x;exact⟨k _ _ (.inl rfl) e,U q⟩
 |tbl ps =>
  have e:h.get? a=some { cls:=.none,data:=.fields ps }:=x;show h'.get? a=some { cls:=.none,data:=.fields ps };exact k a _ (.inl rfl) e
 |met f y =>
  have e:h.get? a=some (Wf (.ref f) (.ref y)):=x;show h'.get? a=some (Wf (.ref f) (.ref y));exact k a _ (.inl rfl) e
 |ext φ=>obtain⟨p,⟨o,e⟩,st⟩:=x;exact⟨st _ _ p λo q=>k _ _ (.inl rfl) q,⟨o,k _ _ (.inl rfl) e⟩,st⟩
theorem HOk.lt (x:HOk P w H h)(e:H a=some o):a<h.objs.size:=(x a o e).lt
theorem HOk.fresh (x:HOk P w H h)(e:h.objs.size<=a):H a=none:=by
 cases q:H a with
 |none=>rfl
 |some u=>exact absurd (P9 (x.lt q) e) (Q4 _)
theorem HOk.kept (x:HOk P w H h)(k:∀b u,h.get? b=some u->h'.get? b=some u):HOk P w H h':=λa o e =>
 (x a o e).stay (λb u _ q=>k b u q) (λ_ q=>q) λ_ _ q=>q
theorem HOk.laid (x:HOk P w H h)(k:∀b u,h.get? b=some u->h'.get? b=some u)(hp:h.objs.size<=a)(new:ObjOk P w (upd H a o) h' a o):HOk P w (upd H a o) h':=λb u e=>by
 have F:=x.fresh hp;by_cases j:b=a
 ·subst j;rw[Ae]at e;cases e;exact new
 ·rw[Ag j]at e;exact(x b u e).stay (λc v _ q=>k c v q) (λc q=>by rw[Ag (Cy q F)];exact q) λc xs q=>by rw[Ag (Cy q F)];exact q
end
def Rd (H:Hp)(a:Addr)(u:HO):Prop:=H a=some u\/∃o,H a=some (.frz o u)
theorem Rd.ok (r:Rd H a u)(x:HOk P w H h):ObjOk P w H h a u:=by
 rcases r with r|⟨o,r⟩
 ·exact x a u r
 ·obtain⟨_,q⟩:=x a _ r;exact q
def Mut:Option HO->Prop
 |some (.lst _)=>True
 |some (.dK _)=>True
 |some (.dT _)=>True
 |some (.set _ _)=>True
 |some (.ins _ _ _)=>True
 |some (.ext _)=>True
 |_=>False
section
variable {P:Program}{w:World}{H:Hp}{h h':Heap}{x e:Addr}{o':HO}
theorem HOk.write (ok:HOk P w H h)(mu:Mut (H x))(he:e=x\/H e=some (.own x))(k:∀b u,b≠e->h.get? b=some u->h'.get? b=some u)(heo:∃u,h'.get? e=some u)
  (new:ObjOk P w (upd H x o') h' x o'):HOk P w (upd H x o') h':=λb u q=>by
 have F:∀c y,H c=some (.own y)->c≠x:=λc y r z=>by subst z;rw[r]at mu;exact mu
 have I:∀c xs,H c=some (.tup xs)->c≠x:=λc xs r z=>by subst z;rw[r]at mu;exact mu
 by_cases O:b=x
 ·subst O;rw[Ae]at q;cases q;exact new
 ·rw[Ag O]at q;by_cases j:b=e
  ·have Y:H b=some (.own x):=by
    rcases he with z|z
    ·exact absurd (j.trans z) O
    ·rw[j];exact z
   rw[q]at Y;cases Y;obtain⟨v,Z⟩:=heo;exact⟨v,by rw[j];exact Z⟩
  ·refine(ok b u q).stay (λc v U r=>k c v ?_ r) (λc r=>by rw[Ag (F c b r)];exact r) λc xs r=>by rw[Ag (I c xs r)];exact r
   rcases U with rfl|U
   ·exact j
   ·rintro rfl;rcases he with z|z
    ·exact F c b U z
    ·rw[U]at z;cases z;exact O rfl
end
structure Un (fs ex:List Addr)(H H':Hp)(h h':Heap):Prop where
 keep:∀b o,h.get? b=some o->H b=none->b ∉ fs->b ∉ ex->h'.get? b=some o
 slot:∀b o,h.get? b=some o->H b=none->b∈fs->b ∉ ex->∃sl,h'.get? b=some { o with slots:=sl }
 free:∀b o,h.get? b=some o->H b=none->b ∉ ex->H' b=none
 there:∀b o,h.get? b=some o->b ∉ ex->∃o',h'.get? b=some o'
 tups:∀b xs,H b=some (.tup xs)->H' b=some (.tup xs)
 frzs:∀b o u,H b=some (.frz o u)->H' b=some (.frz o u)
 tbls:∀b ps,H b=some (.tbl ps)->∃more,H' b=some (.tbl (ps++more))
section
variable {fs fs' ex ex':List Addr}{H H1 H2:Hp}{h h1 h2 h':Heap}{a x e:Addr}{o:HO}
theorem Un.any (u:Un fs ex H H1 h h1)(q:h.get? b=some ob)(n:H b=none)(hx:b ∉ ex):∃sl,h1.get? b=some { ob with slots:=sl }:=by
 by_cases j:b∈fs
 ·exact u.slot b ob q n j hx
 ·exact⟨ob.slots,u.keep b ob q n j hx⟩
theorem Un.kept (k:∀b u,h.get? b=some u->h'.get? b=some u):Un fs ex H H h h' :=
 ⟨λb j q _ _ _=>k b j q,λb j q _ _ _=>⟨j.slots,k b j q⟩,λ_ _ _ n _=>n,λb j q _=>⟨j,k b j q⟩,λ_ _ q=>q,λ_ _ _ q=>q,λ_ ps q=>⟨#[],by rw[q];simp⟩⟩
theorem Un.refl:Un fs ex H H h h:=Un.kept λ_ _ q=>q
theorem Un.laid (k:∀b u,h.get? b=some u->h'.get? b=some u)(hp:h.objs.size<=a)(hn:H a=none):Un fs ex H (upd H a o) h h' where
 keep:=λb u q _ _ _=>k b u q
 slot:=λb u q _ _ _=>⟨u.slots,k b u q⟩
 free:=λb u q n _=>by rw[Ag (P0 (P9 (Pq q) hp))];exact n
 there:=λb u q _=>⟨u,k b u q⟩
 tups:=λb xs q=>by rw[Ag (Cy q hn)];exact q
 frzs:=λb u xs q=>by rw[Ag (Cy q hn)];exact q
 tbls:=λb ps q=>⟨#[],by rw[Ag (Cy q hn),q];simp⟩
theorem Un.write (mu:Mut (H x))(he:e=x\/H e=some (.own x))(k:∀b u,b≠e->h.get? b=some u->h'.get? b=some u)(heo:∃u,h'.get? e=some u):Un fs ex H (upd H x o) h h':=by
 have O:∀b,H b=none->b≠x:=λb n z=>by subst z;rw[n]at mu;exact mu
 have I:∀b,H b=none->b≠e:=λb n z=>by
  subst z;rcases he with r|r
  ·exact O b n r
  ·rw[n]at r;cases r
 have F:∀b u,H b=some u->¬Mut (some u)->b≠x:=λb u q nm z=>by subst z;rw[q]at mu;exact nm mu
 refine⟨λb u q n _ _=>k b u (I b n) q,λb u q n _ _=>⟨u.slots,k b u (I b n) q⟩,λb u q n _=>by rw[Ag (O b n)];exact n,λb u q _=>?_,
  λb xs q=>by rw[Ag (F b _ q λz=>z)];exact q,λb u xs q=>by rw[Ag (F b _ q λz=>z)];exact q,λb ps q=>⟨#[],by rw[Ag (F b _ q λz=>z),q];simp⟩⟩
 by_cases j:b=e
 ·subst j;exact heo
 ·exact⟨u,k b u j q⟩
end
noncomputable def trk (h:Heap)(H:Hp):List Addr:=(P7 h.objs.size).filter λa=>(H a).isSome
noncomputable def F7 (h:Heap)(H:Hp):Heap:=PySem.W.hideAll h (trk h H)
theorem Zjt (h:Heap)(H:Hp):(F7 h H).objs.size=h.objs.size:=PySem.W.hideAll_size _ _
theorem Znf (e:h.get? b=some o)(n:H b=none):(F7 h H).get? b=some o :=
 PySem.W.hideAll_get _ e λj=>by
  have q:(H b).isSome=true:=(Wo.mp j).2;rw[n]at q;simp at q
theorem Zpi (e:(F7 h H).get? b=some o):h.get? b=some o/\H b=none:=by
 have j:h.get? b=some o:=PySem.W.of_hideAll (trk h H) e;refine⟨j,?_⟩;cases q:H b with
 |none=>rfl
 |some x =>
  have F:b∈trk h H:=Wo.mpr ⟨Vk.mpr (Pq j),by simp[q]⟩;have z:(F7 h H).get? b=none:=PySem.W.hideAll_none (trk h H) F;rw[z]at e;cases e
structure Mod (K:Pg)(mg:Str->Option Value)(base:Heap):Prop where
 kin:K.In base
 glob:base.Ns mainGlobals mg
 blt:∃mb,base.Ns builtinsNs mb/\∀x:Str,x≠"__name__" -> mb x=bootBuiltins x
 nolimit:base.NoLimit
structure Cx where
 prog:Program
 w:World
 K:Pg
 mg:Str->Option Value
 base:Heap
 A:Around
 N:List Str
 s₀:Shared
 H₀:Hp
 env:Env
 outer:List Env
 stack:List Env
 ex:List Addr
 fn:Str->Bool
 calm:Bool
 pn:List (Addr×Obj)
 xe:Value->Shared->Prop
noncomputable def Bz (l:List Env):List Addr:=l.filterMap (·.frame)
noncomputable abbrev Cx.fs (X:Cx):List Addr:=Bz X.outer
def Vis (sc:Scope)(x:Str):Prop:=sc.names.lookup x=some .local\/sc.names.lookup x=some .cell\/sc.names.lookup x=some .free
def Fh (sc:Scope)(x:Str):Prop:=sc.names.lookup x=some .local\/sc.names.lookup x=some .cell
def Look (env:Env)(h:Heap)(m:Str->Option Value)(x:Str)(u:Value):Prop :=
 (env.kindOf x=some .local/\m x=some u)\/((env.kindOf x=some .cell\/env.kindOf x=some .free)/\∃c,env.cells.lookup x=some c/\h.IsCell c (some u))
structure Cx.Ok (X:Cx):Prop where
 mod:Mod X.K X.mg X.base
 kind:X.env.scope.kind=.function
 glob:X.env.globals=mainGlobals
 blt:X.env.builtins=builtinsNs
 above:X.s₀.heap.objs.size<=X.env.locals
 inj:∀x y c,X.env.cells.lookup x=some c->X.env.cells.lookup y=some c->x=y
 has:∀x,(X.env.kindOf x=some .cell\/X.env.kindOf x=some .free)->∃c,X.env.cells.lookup x=some c
 cab:∀x c,X.fn x=true->X.env.cells.lookup x=some c->X.s₀.heap.objs.size<=c
 hd:X.calm=true->X.A.handled=none
 frames:X.A.frames=some X.stack
 stk:X.stack=X.outer\/(X.stack=X.env::X.outer/\X.env.frame=some X.env.locals)
 exf:∀b∈X.ex,b≠X.env.locals/\∀x c,X.env.cells.lookup x=some c->c≠b
 bs:∀b o,X.base.get? b=some o->X.s₀.heap.get? b=some o/\X.H₀ b=none
 bsz:X.base.objs.size<=X.s₀.heap.objs.size
 noex:∀b o,X.base.get? b=some o->b ∉ X.ex
 exfs:∀b∈X.ex,b ∉ X.fs
 funs:X.s₀.heap.FunFrames X.base X.outer
 frf:∀b∈X.fs,X.H₀ b=none
structure Inv (X:Cx)(pins:List (Addr×Obj))(σ:List (Option V))(H:Hp)(s:Shared):Prop where
 ok:X.Ok
 os:s.os=X.s₀.os
 bare:AllBare s.gens
 base:Un X.fs X.ex X.H₀ H X.s₀.heap s.heap
 loc:∃m,s.heap.Ns X.env.locals m/\∀(i:Nat)(x:Str)(v:V),X.N[i]?=some x->σ[i]?=some (some v)->Vis X.env.scope x->∃u,RelV v u/\Look X.env s.heap m x u
 cell:∀x c,X.env.cells.lookup x=some c->∃v,s.heap.IsCell c v
 free:H X.env.locals=none
 freeC:∀x c,X.env.cells.lookup x=some c->H c=none
 pin:∀p∈X.pn++pins,s.heap.get? p.1=some p.2/\H p.1=none/\p.1≠X.env.locals/\p.1 ∉ X.fs/\∀v,p.2.data≠.cell v
 hok:HOk X.prog X.w H s.heap
 len:σ.length=X.N.length
section
variable {X:Cx}{pins:List (Addr×Obj)}{σ:List (Option V)}{H H':Hp}{s:Shared}{h':Heap}
theorem Cx.Ok.nofr (ok:X.Ok)(e:X.base.get? b=some o):b ∉ X.fs:=λj=>by
 have:=(ok.funs.mem j).1;rw[e]at this;cases this
theorem Inv.bs (I:Inv X pins σ H s):∀b o,X.base.get? b=some o->s.heap.get? b=some o/\H b=none:=λb o e =>
 ⟨I.base.keep b o (I.ok.bs b o e).1 (I.ok.bs b o e).2 (I.ok.nofr e) (I.ok.noex b o e),I.base.free b o (I.ok.bs b o e).1 (I.ok.bs b o e).2 (I.ok.noex b o e)⟩
theorem Inv.bk (I:Inv X pins σ H s):∀b o,X.base.get? b=some o->s.heap.get? b=some o:=λb o e=>(I.bs b o e).1
theorem Inv.mod (I:Inv X pins σ H s):Mod X.K X.mg X.base:=I.ok.mod
theorem Inv.kIn (I:Inv X pins σ H s):X.K.In s.heap:=I.ok.mod.kin.keeps I.bk
theorem Inv.lt (I:Inv X pins σ H s):X.env.locals<s.heap.objs.size:=let ⟨_,hn,_⟩:=I.loc;hn.lt
theorem Inv.sz (I:Inv X pins σ H s):X.s₀.heap.objs.size<=s.heap.objs.size:=Qg I.ok.above (Uh I.lt)
theorem Inv.nofs (I:Inv X pins σ H s)(h:s.heap.objs.size<=a):a ∉ X.fs:=λj=>by
 obtain⟨_,o,F,_⟩:=I.ok.funs.mem j;exact absurd (P9 (Pq F) (Qg I.sz h)) (Q4 _)
theorem Inv.cne (I:Inv X pins σ H s):∀x c,X.env.cells.lookup x=some c->c≠X.env.locals:=λx c e z=>by
 obtain⟨v,o,O,hd⟩:=I.cell x c e;obtain⟨m,⟨o',es,U,j,F,_⟩,_⟩:=I.loc;rw[z,j]at O;cases O;rw[F]at hd;cases hd
theorem Inv.funs (I:Inv X pins σ H s):s.heap.FunFrames X.base X.outer:=by
 have all:∀(l:List Env),(∀b∈Bz l,b∈X.fs)->X.s₀.heap.FunFrames X.base l->s.heap.FunFrames X.base l:=by
  intro l
  induction l with
  |nil=>intro _ _;trivial
  |cons env r ih =>
   intro hs Z;obtain⟨hk,⟨L,o,O,U,Y,hd⟩,hr⟩:=Z;have F:L∈X.fs:=hs L (by unfold Bz;rw[U1,O];exact Tx);obtain⟨sl,e⟩:=I.base.slot L o Y (I.ok.frf L F) F λz=>I.ok.exfs L z F;exact⟨hk,⟨L,_,O,U,e,hd⟩,ih (λb j=>hs b (by unfold Bz;rw[U1,O];exact Rt _ j)) hr⟩
 exact all X.outer (λ_ j=>j) I.ok.funs
theorem Inv.stack (I:Inv X pins σ H s):s.heap.FunFrames X.base X.stack:=by
 rcases I.ok.stk with e|⟨e,F⟩
 ·rw[e];exact I.funs
 ·rw[e];obtain⟨m,j,_⟩:=I.loc;refine .cons (by rw[I.ok.kind];decide) F j ?_ I.funs;exact Tt (Qg I.ok.bsz I.ok.above)
theorem Inv.stkSub (I:Inv X pins σ H s):∀b∈Bz X.stack,b∈X.env.locals::X.fs:=λb j=>by
 rcases I.ok.stk with e|⟨e,F⟩
 ·rw[e]at j;exact Rt _ j
 ·rw[e]at j;unfold Bz at j;rw[U1,F]at j;exact j
theorem Inv.stkFree (I:Inv X pins σ H s):∀b∈Bz X.stack,H b=none:=λb j=>by
 rcases Po.mp (I.stkSub b j) with e|j
 ·rw[e];exact I.free
 ·obtain⟨_,o,F,_⟩:=I.ok.funs.mem j;exact I.base.free b o F (I.ok.frf b j) λz=>I.ok.exfs b z j
theorem Inv.step {g':Array GenState}{t':Nat}{d':Drawn}{ch:List Addr}(I:Inv X pins σ H s)
  (hch:∀b∈ch,(b∈X.ex\/X.s₀.heap.objs.size<=b)/\b≠X.env.locals/\(∀x c,X.env.cells.lookup x=some c->c≠b)/\∀p∈X.pn++pins,p.1≠b)
  (keep:∀b o,b≠X.env.locals->b ∉ X.fs->b ∉ ch->s.heap.get? b=some o->H b=none->h'.get? b=some o)
  (slot:∀b o,b≠X.env.locals->b∈X.fs->b ∉ ch->s.heap.get? b=some o->H b=none->∃sl,h'.get? b=some { o with slots:=sl }) (free:∀b o,b ∉ ch->s.heap.get? b=some o->H b=none->H' b=none)
  (there:∀b o,b ∉ ch->s.heap.get? b=some o->∃o',h'.get? b=some o')
  (tups:∀b xs,H b=some (.tup xs)->H' b=some (.tup xs)) (frzs:∀b o u,H b=some (.frz o u)->H' b=some (.frz o u)) (tbls:∀b ps,H b=some (.tbl ps)->∃more,H' b=some (.tbl (ps++more)))
  (ns:∀m,s.heap.Ns X.env.locals m->h'.Ns X.env.locals m) (hok:HOk X.prog X.w H' h') (hg:AllBare g') :
  Inv X pins σ H' { s with heap:=h',gens:=g',drawn:=d',toks:=t' }:=by
 have aa:∀b o,X.s₀.heap.get? b=some o->b≠X.env.locals:=λb o e=>P0 (P9 (Pq e) I.ok.above);have Y:∀b o,X.s₀.heap.get? b=some o->b ∉ X.ex->b ∉ ch:=λb o e j Z=>by
  rcases (hch b Z).1 with z|z
  ·exact j z
  ·exact absurd (P9 (Pq e) z) (Q4 _)
 have F:∀x c,X.env.cells.lookup x=some c->∀v,s.heap.IsCell c v->h'.IsCell c v:=λx c e v ⟨o,ho,hd⟩=>by
  have O:c ∉ ch:=λz=>(hch c z).2.2.1 x c e rfl;by_cases hc:c∈X.fs
  ·obtain⟨sl,q⟩:=slot c o (I.cne x c e) hc O ho (I.freeC x c e);exact⟨_,q,hd⟩
  ·exact⟨o,keep c o (I.cne x c e) hc O ho (I.freeC x c e),hd⟩
 refine⟨I.ok,I.os,hg,⟨λb o e n Z j=>?_,λb o e n Z j=>?_,λb o e n j=>?_,λb o e j=>?_,λb xs e=>tups b xs (I.base.tups b xs e),λb o xs e=>frzs b o xs (I.base.frzs b o xs e),λb ps e=>?_⟩,?_,λx c e=>?_,?_,λx c e=>?_,λp hp=>?_,hok,I.len⟩
 ·exact keep b o (aa b o e) Z (Y b o e j) (I.base.keep b o e n Z j) (I.base.free b o e n j)
 ·obtain⟨sl,U⟩:=I.base.slot b o e n Z j;obtain⟨ac,e2⟩:=slot b _ (aa b o e) Z (Y b o e j) U (I.base.free b o e n j);exact⟨ac,e2⟩
 ·obtain⟨o',U⟩:=I.base.there b o e j;exact free b o' (Y b o e j) U (I.base.free b o e n j)
 ·obtain⟨o',U⟩:=I.base.there b o e j;exact there b o' (Y b o e j) U
 ·obtain⟨m1,U⟩:=I.base.tbls b ps e;obtain⟨m2,e2⟩:=tbls b _ U;exact⟨m1++m2,by rw[e2,Array.append_assoc]⟩
 ·obtain⟨m,hn,hl⟩:=I.loc;refine⟨m,ns m hn,λi x v U e2 e3=>?_⟩;obtain⟨u,r,l⟩:=hl i x v U e2 e3;refine⟨u,r,?_⟩;rcases l with l|⟨k,c,e,z⟩
  ·exact .inl l
  ·exact .inr ⟨k,c,e,F x c e _ z⟩
 ·obtain⟨v,z⟩:=I.cell x c e;exact⟨v,F x c e v z⟩
 ·obtain⟨m,⟨o,_,_,ho,_⟩,_⟩:=I.loc;exact free _ o (λz=>(hch _ z).2.1 rfl) ho I.free
 ·obtain⟨v,o,ho,hd⟩:=I.cell x c e;exact free c o (λz=>(hch c z).2.2.1 x c e rfl) ho (I.freeC x c e)
 ·obtain⟨e,n,ne,nf,d⟩:=I.pin p hp;have O:p.1 ∉ ch:=λz=>(hch p.1 z).2.2.2 p hp rfl;exact⟨keep p.1 p.2 ne nf O e n,free p.1 p.2 O e n,ne,nf,d⟩
theorem Inv.un (I:Inv X pins σ H s)(u:Un X.fs [] H H' s.heap h')(hok:HOk X.prog X.w H' h'):Inv X pins σ H' { s with heap:=h',toks:=t' }:=by
 obtain⟨m,⟨o,es,ep,Y,r⟩,_⟩:=id I.loc;obtain⟨sl,hL⟩:=u.any Y I.free (by simp);exact I.step (g':=s.gens) (d':=s.drawn) (ch:=[]) (λ_ z=>nomatch z) (λb o _ F _ e n=>u.keep b o e n F (by simp)) (λb o _ F _ e n=>u.slot b o e n F (by simp)) (λb o _ e n=>u.free b o e n (by simp)) (λb o _ e=>u.there b o e (by simp)) u.tups u.frzs u.tbls (λm' hm=>by
  obtain⟨o',U,O,j,Z⟩:=hm;rw[Y]at j;cases j;exact⟨_,U,O,hL,Z⟩) hok I.bare
theorem Inv.call (I:Inv X pins σ H s)(u:Un (Bz X.stack) ch H H' s.heap h')(hok:HOk X.prog X.w H' h')(hg:AllBare g')(hch:∀b∈ch,(b∈X.ex\/X.s₀.heap.objs.size<=b)/\b≠X.env.locals/\(∀x c,X.env.cells.lookup x=some c->c≠b)/\∀p∈X.pn++pins,p.1≠b) :
  Inv X pins σ H' { s with heap:=h',gens:=g',drawn:=d',toks:=t' }:=by
 obtain⟨m,⟨o,es,ep,Z,r⟩,_⟩:=id I.loc;obtain⟨sl,Y⟩:=u.any Z I.free λz=>(hch _ z).2.1 rfl;exact I.step (ch:=ch) hch (λb o Y hb j e n=>u.keep b o e n (λz=>(Po.mp (I.stkSub b z)).elim Y hb) j) (λb o _ _ j e n=>u.any e n j) (λb o j e n=>u.free b o e n j) (λb o j e=>u.there b o e j) u.tups u.frzs u.tbls (λm' hm=>by
  obtain⟨o',U,O,F,r'⟩:=hm;rw[Z]at F;cases F;exact⟨_,U,O,Y,r'⟩) hok hg
theorem Inv.turned (I:Inv X pins σ H s)(k:∀b o,b≠it->s.heap.get? b=some o->h'.get? b=some o)(hn:H it=none)(hL:it≠X.env.locals)(h1:it∈X.ex\/X.s₀.heap.objs.size<=it)(h2:∀x c,X.env.cells.lookup x=some c->c≠it)(h3:∀p∈X.pn++pins,p.1≠it):Inv X pins σ H { s with heap:=h',toks:=t' }:=by
 have F:∀b u,H b=some u->b≠it:=λb u e z=>by rw[z,hn]at e;cases e
 refine I.step (g':=s.gens) (d':=s.drawn) (ch:=[it]) (λb O=>?_) (λb o _ _ j e _=>k b o (λz=>j (by simp[z])) e) (λb o _ _ j e _=>⟨o.slots,k b o (λz=>j (by simp[z])) e⟩) (λ_ _ _ _ n=>n)
  (λb o j e=>⟨o,k b o (λz=>j (by simp[z])) e⟩) (λ_ _ e=>e) (λ_ _ _ e=>e) (λb ps e=>⟨#[],by rw[e];simp⟩) (λm Z=>?_) (λb u e=>?_) I.bare
 ·have e:b=it:=by simpa using O
  subst e;exact⟨h1,hL,h2,h3⟩
 ·obtain⟨o,es,Y,U,r⟩:=Z;exact⟨o,es,Y,k _ o (Ps hL) U,r⟩
 ·refine(I.hok b u e).stay (λc v j q=>k c v ?_ q) (λ_ q=>q) λ_ _ q=>q;rcases j with z|z
  ·rw[z];exact F b u e
  ·exact F c _ z
theorem Inv.tok (I:Inv X pins σ H s)(t:Nat):Inv X pins σ H { s with toks:=t }:=I.un (h':=s.heap) (t':=t) Un.refl I.hok
theorem Inv.kept (I:Inv X pins σ H s)(k:∀b u,s.heap.get? b=some u->h'.get? b=some u):Inv X pins σ H { s with heap:=h',toks:=t' }:=I.un (Un.kept k) (I.hok.kept k)
theorem Inv.laid (I:Inv X pins σ H s)(k:∀b u,s.heap.get? b=some u->h'.get? b=some u)(hp:s.heap.objs.size<=a)(new:ObjOk X.prog X.w (upd H a o) h' a o) :
  Inv X pins σ (upd H a o) { s with heap:=h',toks:=t' }:=I.un (Un.laid k hp (I.hok.fresh hp)) (I.hok.laid k hp new)
theorem Inv.write (I:Inv X pins σ H s)(mu:Mut (H x))(he:e=x\/H e=some (.own x))(k:∀b u,b≠e->s.heap.get? b=some u->h'.get? b=some u)(heo:∃u,h'.get? e=some u)(new:ObjOk X.prog X.w (upd H x o) h' x o):Inv X pins σ (upd H x o) { s with heap:=h',toks:=t' }:=I.un (Un.write mu he k heo) (I.hok.write mu he k heo new)
theorem Inv.pins_of (I:Inv X pins σ H s)(h:∀p∈pins',s.heap.get? p.1=some p.2/\H p.1=none/\p.1≠X.env.locals/\p.1 ∉ X.fs/\∀v,p.2.data≠.cell v):Inv X pins' σ H s :=
 ⟨I.ok,I.os,I.bare,I.base,I.loc,I.cell,I.free,I.freeC,λp hp=>(Rl.mp hp).elim (λz=>I.pin p (List.mem_append_left _ z)) (h p),I.hok,I.len⟩
theorem Zd9 {N:List Str}(hN:N.Nodup){i j:Nat}{x:Str}(a:N[i]?=some x)(b:N[j]?=some x):i=j:=by
 obtain⟨h1,I⟩:=Pt.mp a;obtain⟨h2,F⟩:=Pt.mp b;exact(List.getElem_inj hN).mp (I.trans F.symm)
theorem Zgy (I:Inv X pins σ H s)(hN:X.N.Nodup)(hi:X.N[i]?=some x)(hx:Fh X.env.scope x)(r:RelV v u)(h:∀s',Inv X pins (σ.set i (some v)) H s'->(∃a,P4 a s.heap s'.heap/\(a=X.env.locals\/X.env.cells.lookup x=some a))->Q () s')(hf:autoParam (X.fn x=true\/X.env.scope.names.lookup x=some .local) zQ):wpAny M A (storeName X.env x u) Q E s:=by
 obtain⟨m,hn,hl⟩:=id I.loc;have ag:(X.env.scope.kind == .class || (X.env.scope.kind == .module && X.env.locals != X.env.globals))=false:=by rw[I.ok.kind];rfl
 have aa:i<σ.length:=by rw[I.len];exact(Pt.mp hi).1
 have cne:=I.cne;have O:∀{a:Addr}{h':Heap},(∃o,s.heap.get? a=some o/\H a=none)->P4 a s.heap h'->HOk X.prog X.w H h':=λ{a h'} ha hs b ob e=>by
  obtain⟨_,_,Y⟩:=ha;refine(I.hok b ob e).stay (λc w' U q=>(hs.2 c ?_).trans q) (λ_ q=>q) λ_ _ q=>q;rintro rfl;rcases U with rfl|U
  ·rw[Y]at e;cases e
  ·rw[Y]at U;cases U
 rcases hx with hk|hk
 ·refine wpAny_storeName_local hk hn (λh' ai hs=>?_) ag;obtain⟨oL,_,_,aj,_⟩:=id hn;refine h _ ⟨I.ok,I.os,I.bare,⟨λb o e n hb hx=>?_,λb o e n hb hx=>?_,I.base.free,λb o e hx=>?_,I.base.tups,I.base.frzs,I.base.tbls⟩,⟨_,ai,λj y v' F Z e3=>?_⟩,λy c e=>?_,I.free,I.freeC,λp hp=>?_,O ⟨oL,aj,I.free⟩ hs,by simpa using I.len⟩ ⟨_,hs,.inl rfl⟩
  ·exact(hs.2 b (P0 (P9 (Pq e) I.ok.above))).trans (I.base.keep b o e n hb hx)
  ·obtain⟨sl,F⟩:=I.base.slot b o e n hb hx;exact⟨sl,(hs.2 b (P0 (P9 (Pq e) I.ok.above))).trans F⟩
  ·obtain⟨o',F⟩:=I.base.there b o e hx;exact⟨o',(hs.2 b (P0 (P9 (Pq e) I.ok.above))).trans F⟩
  ·by_cases hj:j=i
   ·subst hj;rw[hi]at F;cases F;rw[Sg aa]at Z;cases Z;exact⟨u,r,.inl ⟨hk,by simp⟩⟩
   ·rw[Tu (Ps hj)]at Z;obtain⟨u',r',q⟩:=hl j y v' F Z e3;refine⟨u',r',?_⟩;rcases q with⟨k,e⟩|⟨k,c,e,z⟩
    ·refine .inl ⟨k,?_⟩;have:y≠x:=λe=>hj (Zd9 hN F (e ▸ hi));simp[this,e]
    ·exact .inr ⟨k,c,e,z.sameBut hs (cne y c e)⟩
  ·obtain⟨w',z⟩:=I.cell y c e;exact⟨w',z.sameBut hs (cne y c e)⟩
  ·obtain⟨e,n,ne,nf,d⟩:=I.pin p hp;exact⟨(hs.2 p.1 ne).trans e,n,ne,nf,d⟩
 ·have ac:X.fn x=true:=by
   rcases hf with z|z
   ·exact z
   ·rw[z]at hk;cases hk
  obtain⟨c,U⟩:=I.ok.has x (.inl hk);obtain⟨w',z⟩:=I.cell x c U;refine wpAny_storeName_cell I.ok.kind hk U z (λh' ad hs=>?_);obtain⟨oc,af,ae⟩:=id z;refine h { s with heap:=h' } ⟨I.ok,I.os,I.bare,⟨λb o e n hb hx=>?_,λb o e n hb hx=>?_,I.base.free,λb o e hx=>?_,I.base.tups,I.base.frzs,I.base.tbls⟩,⟨m,hn.sameBut hs (Ps (cne x c U)),λj y v' F Z e3=>?_⟩,λy c' e=>?_,I.free,I.freeC,λp hp=>?_,O ⟨oc,af,I.freeC x c U⟩ hs,by simpa using I.len⟩ ⟨c,hs,.inr U⟩
  ·exact(hs.2 b (P0 (P9 (Pq e) (I.ok.cab x c ac U)))).trans (I.base.keep b o e n hb hx)
  ·obtain⟨sl,F⟩:=I.base.slot b o e n hb hx;exact⟨sl,(hs.2 b (P0 (P9 (Pq e) (I.ok.cab x c ac U)))).trans F⟩
  ·obtain⟨o',F⟩:=I.base.there b o e hx;exact⟨o',(hs.2 b (P0 (P9 (Pq e) (I.ok.cab x c ac U)))).trans F⟩
  ·by_cases hj:j=i
   ·subst hj;rw[hi]at F;cases F;rw[Sg aa]at Z;cases Z;exact⟨u,r,.inr ⟨.inl hk,c,U,ad⟩⟩
   ·rw[Tu (Ps hj)]at Z;obtain⟨u',r',q⟩:=hl j y v' F Z e3;refine⟨u',r',?_⟩;rcases q with q|⟨k,c',e,z'⟩
    ·exact .inl q
    ·refine .inr ⟨k,c',e,z'.sameBut hs ?_⟩;rintro rfl;exact hj (Zd9 hN F (I.ok.inj _ _ _ e U ▸ hi))
  ·by_cases ah:c'=c
   ·subst ah;exact⟨_,ad⟩
   ·obtain⟨w2,z2⟩:=I.cell y c' e;exact⟨w2,z2.sameBut hs ah⟩
  ·obtain⟨e,n,ne,nf,d⟩:=I.pin p hp;refine⟨(hs.2 p.1 ?_).trans e,n,ne,nf,d⟩;intro q;rw[q,af]at e;have q':oc=p.2:=Qa e;exact d w' (by rw[<- q'];exact ae)
theorem Za1 (I:Inv X pins σ H s)(hN:X.N.Nodup)(hi:X.N[i]?=some x)(hx:Fh X.env.scope x)(r:RelV v u)(h:∀s',Inv X pins (σ.set i (some v)) H s'->Q () s')(hf:autoParam (X.fn x=true\/X.env.scope.names.lookup x=some .local) zQ):wpAny M A (storeName X.env x u) Q E s :=
 Zgy I hN hi hx r (λs' j _=>h s' j) hf
theorem Inv.call' (I:Inv X pins σ H s)(ho:s'.os=s.os)(u:Un (Bz X.stack) ch H H' s.heap s'.heap)(hok:HOk X.prog X.w H' s'.heap)(hg:AllBare s'.gens)(hch:∀b∈ch,(b∈X.ex\/X.s₀.heap.objs.size<=b)/\b≠X.env.locals/\(∀x c,X.env.cells.lookup x=some c->c≠b)/\∀p∈X.pn++pins,p.1≠b):Inv X pins σ H' s':=by
 obtain⟨h',F,j,O,o'⟩:=s';have e:o'=s.os:=ho;subst e;exact I.call (g':=F) (t':=O) (d':=j) u hok hg hch
end
noncomputable abbrev XK:=Value->Option Addr->Hp->Prop
noncomputable abbrev St:=List (Option V)
noncomputable abbrev VK:=V->Hp->Prop
noncomputable abbrev TE:=St->Hp->VK->Prop
noncomputable abbrev TT:=St->Hp->(Bool->Hp->Prop)->Prop
noncomputable abbrev TA:=St->Hp->(List V->Hp->Prop)->Prop
structure Dc where
 nx:St->Hp->Prop
 rt:VK
 bk:St->Hp->Prop:=λ_ _=>False
 ct:St->Hp->Prop:=λ_ _=>False
noncomputable abbrev TS:=Dc->St->Hp->Prop
def EP (X:Cx)(pins:List (Addr×Obj))(σ:St)(Q:VK)(u:Value)(s':Shared):Prop:=∃v H',Inv X pins σ H' s'/\RelV v u/\Q v H'
def TP (X:Cx)(pins:List (Addr×Obj))(σ:St)(Q:Bool->Hp->Prop)(b:Bool)(s':Shared):Prop:=∃H',Inv X pins σ H' s'/\Q b H'
def AP (X:Cx)(pins:List (Addr×Obj))(σ:St)(Q:List V->Hp->Prop)(us:List Value)(s':Shared):Prop:=∃vs H',Inv X pins σ H' s'/\Vals vs us/\Q vs H'
def SP (X:Cx)(pins:List (Addr×Obj))(D:Dc)(f:Flow)(s':Shared):Prop :=
 match f with
 |.next=>∃σ' H',Inv X pins σ' H' s'/\D.nx σ' H'
 |.brk=>∃σ' H',Inv X pins σ' H' s'/\D.bk σ' H'
 |.cont=>∃σ' H',Inv X pins σ' H' s'/\D.ct σ' H'
 |.ret u=>eX3 λv σ' H'=>Inv X pins σ' H' s'/\RelV v u/\D.rt v H'
def PE (X:Cx)(e:Expr)(t:TE):Prop :=
 ∀(pins:List (Addr×Obj))(s:Shared)(σ:St)(H:Hp)(Q:VK),Inv X pins σ H s->t σ H Q->wpAny (model X.prog X.w) X.A (eval e X.env) (EP X pins σ Q) X.xe s
def PT (X:Cx)(e:Expr)(t:TT):Prop :=
 ∀(pins:List (Addr×Obj))(s:Shared)(σ:St)(H:Hp)(Q:Bool->Hp->Prop),Inv X pins σ H s->t σ H Q->wpAny (model X.prog X.w) X.A (isTrue e X.env (eval e X.env)) (TP X pins σ Q) X.xe s
def PW (X:Cx)(e:Expr)(t:TT):Prop :=
 ∀(whole:Sem Value)(pins:List (Addr×Obj))(s:Shared)(σ:St)(H:Hp)(Q:Bool->Hp->Prop),Inv X pins σ H s->t σ H Q->wpAny (model X.prog X.w) X.A (isTrue e X.env whole) (TP X pins σ Q) X.xe s
theorem PW.pt (h:PW X e t):PT X e t:=h _
def PA (X:Cx)(es:List Expr)(t:TA):Prop :=
 ∀(pos:Pos)(pins:List (Addr×Obj))(s:Shared)(σ:St)(H:Hp)(Q:List V->Hp->Prop),Inv X pins σ H s->t σ H Q->wpAny (model X.prog X.w) X.A (spliced (backTo pos (starEach es X.env))) (AP X pins σ Q) X.xe s
def PS (X:Cx)(st:Stmt)(t:TS):Prop :=
 ∀(pins:List (Addr×Obj))(s:Shared)(σ:St)(H:Hp)(D:Dc),Inv X pins σ H s->t D σ H->wpAny (model X.prog X.w) X.A (exec st X.env) (SP X pins D) X.xe s
def PSs (X:Cx)(st:List Stmt)(t:TS):Prop :=
 ∀(pins:List (Addr×Obj))(s:Shared)(σ:St)(H:Hp)(D:Dc),Inv X pins σ H s->t D σ H->wpAny (model X.prog X.w) X.A (execs st X.env) (SP X pins D) X.xe s
theorem Ak {α:Type}{t:Sem α}{Q Q':α->Shared->Prop}{M:Model}{A:Around}{E:Value->Shared->Prop}{s:Shared}(h:wpAny M A t Q E s)(hQ:∀a s,Q a s->Q' a s):wpAny M A t Q' E s:=Rp h hQ λ_ _ x=>x
section
variable {X:Cx}
def Zco (i:Nat):TE:=λσ H Q=>∃v,σ[i]?=some (some v)/\Q v H
def tC (v:V):TE:=λ_ H Q=>Q v H
theorem Zei {i j pos}:PE X (.Constant (.int i) j pos) (tC (.int i)):=λ_ _ _ H _ I h=>wpAny_Constant_int ⟨.int i,H,I.tok _,⟨_,rfl⟩,h⟩
theorem Zdj {b j pos}:PE X (.Constant (.bool b) j pos) (tC (.bl b)):=λ_ _ _ H _ I h=>Constant_bool ⟨.bl b,H,I,rfl,h⟩
theorem Zij {j pos}:PE X (.Constant .none j pos) (tC .non):=λ_ _ _ H _ I h=>Constant_none ⟨.non,H,I,rfl,h⟩
theorem Zdd {x j pos}:PE X (.Constant (.str x) j pos) (tC (.str x)):=λ_ _ _ H _ I h=>Calls.Constant_str ⟨.str x,H,I.tok _,⟨_,rfl⟩,h⟩
def Gl (X:Cx)(x:Str):Prop:=X.env.kindOf x=some .globalImplicit
theorem Jb (I:Inv X pins σ H s)(hg:Gl X x)(hm:X.mg x=some u)(h:Q u s)(hd:autoParam ((x == ("__debug__":Str))=false) zW):wpAny (model X.prog X.w) X.A (eval (.Name x pos) X.env) Q E s :=
 Calls.Name_function_global I.ok.kind hg (Calls.loadGlobal_global (by rw[I.ok.glob];exact I.mod.glob.keeps I.bk) hm h) hd
theorem Ga (I:Inv X pins σ H s)(hg:Gl X x)(hm:X.mg x=none)(hv:bootBuiltins x=some u)(h:Q u s)(hn:autoParam (x≠"__name__") zW)(hd:autoParam ((x == ("__debug__":Str))=false) zW):wpAny (model X.prog X.w) X.A (eval (.Name x pos) X.env) Q E s:=by
 obtain⟨j,h1,h2⟩:=I.mod.blt;exact Calls.Name_function_global I.ok.kind hg (Calls.loadGlobal_builtin (by rw[I.ok.glob];exact I.mod.glob.keeps I.bk) hm (by rw[I.ok.blt];exact h1.keeps I.bk) ((h2 x hn).trans hv) h) hd
theorem Zn6 (hg:Gl X x)(hm:X.mg x=some u)(r:RelV v u)(hd:autoParam ((x == ("__debug__":Str))=false) zW):PE X (.Name x pos) (tC v) :=
 λ_ _ _ H _ I h=>Jb I hg hm ⟨v,H,I,r,h⟩ hd
variable {a b:Expr}{ta tb:TE}{pos:Pos}
def PC (X:Cx)(op:CmpOp)(a b:Expr)(t:TE):Prop :=
 ∀(pins:List (Addr×Obj))(s:Shared)(σ:St)(H:Hp)(Q:VK),Inv X pins σ H s->t σ H Q ->
  wpAny (model X.prog X.w) X.A (eval a X.env) (λv j=>wpAny (model X.prog X.w) X.A (eval b X.env) (λu F=>wpAny (model X.prog X.w) X.A (compareOp op v u) (EP X pins σ Q) X.xe F) X.xe j) X.xe s
theorem Nz (b:Expr)(h:op≠.In)(h2:op≠.NotIn):behindInMarks op b=false:=by
 have F:(op == CmpOp.In)=false:=by cases op <;> first|rfl|exact absurd rfl h
 have j:(op == CmpOp.NotIn)=false:=by cases op <;> first|rfl|exact absurd rfl h2
 cases b <;> simp[behindInMarks,F,j]
def Zbr (ta:TE):TE:=λσ H Q=>ta σ H λx H1=>Q (.bl (decide (x=.non))) H1
def Zad (ta:TE):TE:=λσ H Q=>ta σ H λx H1=>Q (.bl (!decide (x=.non))) H1
theorem RelV.none_iff (r:RelV x v):(v == Value.none)=decide (x=.non):=by
 cases x with
 |non=>cases r;rfl
 |bl _=>cases r;rfl
 |int _=>obtain⟨t,rfl⟩:=r;rfl
 |str _=>obtain⟨t,rfl⟩:=r;rfl
 |byt _=>obtain⟨t,rfl⟩:=r;rfl
 |flt _=>obtain⟨t,rfl⟩:=r;rfl
 |ref _=>cases r;rfl
 |ty _=>cases r;rfl
def tB (t:TE):TT:=λσ H Q=>t σ H λx H1=>∃c,x=.bl c/\Q c H1
variable {tA tB':TT}{rest:List Expr}
def Zbn (t u:TT):TT:=λσ H Q=>t σ H λc H1=>if c=true then u σ H1 Q else Q false H1
def tOr (t u:TT):TT:=λσ H Q=>t σ H λc H1=>if c=true then Q true H1 else u σ H1 Q
def Zbx (t:TT):TT:=λσ H Q=>t σ H λc H1=>Q (!c) H1
def Zb7 (ta tb:TE):TE:=λσ H Q=>ta σ H λx H1=>∃c,x=.bl c/\if c=true then tb σ H1 Q else Q (.bl false) H1
def Zcs (ta tb:TE):TE:=λσ H Q=>ta σ H λx H1=>∃c,x=.bl c/\if c=true then Q (.bl true) H1 else tb σ H1 Q
def Zap (ta:TE):TE:=λσ H Q=>ta σ H λx H1=>∃c,x=.bl c/\Q (.bl (!c)) H1
def Ir (t:TT)(ta tb:TE):TE:=λσ H Q=>t σ H λc H1=>if c=true then ta σ H1 Q else tb σ H1 Q
end
def SqL (K:Pg)(H:Hp)(a:Addr)(xs:List V):Prop :=
 Rd H a (.lst xs) \/
  eX3 λ(o:Obj)(its:Array Value)(n:Nat)=>K.lookup a=some o/\o.cls=.type "list"/\o.dict=none/\o.data=.seq its n/\its.size<=sizeLine/\Vals xs its.toList
def SqT (K:Pg)(H:Hp)(a:Addr)(xs:List V):Prop :=
 Rd H a (.tup xs) \/
  eX3 λ(o:Obj)(its:Array Value)(n:Nat)=>K.lookup a=some o/\o.cls=.type "tuple"/\o.data=.seq its n/\its.size<=sizeLine/\Vals xs its.toList
noncomputable def Oi:Value->Option V
 |.none=>some .non
 |.bool b=>some (.bl b)
 |.int i _=>some (.int i)
 |.str x _=>some (.str x)
 |.bytes b _=>some (.byt b)
 |.float b _=>some (.flt b)
 |.ref a=>some (.ref a)
 |.type n=>some (.ty n)
 |_=>none
theorem RelV.abs (r:RelV x u):Oi u=some x:=by
 cases x with
 |non=>cases r;rfl
 |bl _=>cases r;rfl
 |int _=>obtain⟨t,rfl⟩:=r;rfl
 |str _=>obtain⟨t,rfl⟩:=r;rfl
 |byt _=>obtain⟨t,rfl⟩:=r;rfl
 |flt _=>obtain⟨t,rfl⟩:=r;rfl
 |ref _=>cases r;rfl
 |ty _=>cases r;rfl
theorem RelV.inj (r:RelV x u)(q:RelV y u):x=y:=Qa (r.abs.symm.trans q.abs)
theorem Vals.inj:∀{xs ys:List V}{us:List Value},Vals xs us->Vals ys us->xs=ys
 |_,_,_,.nil,.nil=>rfl
 |_,_,_,.cons r t,.cons j F=>by rw[r.inj j,Vals.inj t F]
section
variable {X:Cx}{pins:List (Addr×Obj)}{σ:St}{H:Hp}{s:Shared}{a:Addr}{xs ys:List V}
theorem SqL.of {K:Pg}(h:H a=some (.lst xs)):SqL K H a xs:=.inl (.inl h)
theorem SqT.of {K:Pg}(h:H a=some (.tup xs)):SqT K H a xs:=.inl (.inl h)
theorem Inv.list (I:Inv X pins σ H s)(h:SqL X.K H a xs):∃its:List Value,Vals xs its/\PlainL s.heap a its.toArray/\xs.length<=sizeLine:=by
 rcases h with h|⟨o,its,n,j,F,hd,hs,O,r⟩
 ·obtain⟨z,its,n,r,e⟩:=h.ok I.hok;exact⟨its,r,⟨_,n,e,rfl,rfl,rfl⟩,z⟩
 ·refine⟨its.toList,r,⟨o,n,I.kIn a o j,F,hd,by simpa using hs⟩,?_⟩;have e:=r.length;simp only[U2]at e;lia
theorem Inv.tuple (I:Inv X pins σ H s)(h:SqT X.K H a xs):∃its:List Value,Vals xs its/\IsTup s.heap a its.toArray/\xs.length<=sizeLine:=by
 rcases h with h|⟨o,its,n,j,F,hs,O,r⟩
 ·obtain⟨z,its,r,p⟩:=h.ok I.hok;exact⟨its,r,p,z⟩
 ·refine⟨its.toList,r,⟨o,I.kIn a o j,F,n,by simpa using hs⟩,?_⟩;have e:=r.length;simp only[U2]at e;lia
theorem Inv.list_inj (I:Inv X pins σ H s)(h:SqL X.K H a xs)(h':SqL X.K H a ys):xs=ys:=by
 obtain⟨F,r,⟨o,n,e,_,_,d⟩,_⟩:=I.list h;obtain⟨j,Y,⟨o',Z,U,_,_,O⟩,_⟩:=I.list h';rw[e]at U;cases U;rw[d]at O;injection O with d1 _;have:F=j:=by simpa using congrArg Array.toList d1
 subst this;exact r.inj Y
theorem Inv.tuple_inj (I:Inv X pins σ H s)(h:SqT X.K H a xs)(h':SqT X.K H a ys):xs=ys:=by
 obtain⟨F,r,⟨o,e,_,n,d⟩,_⟩:=I.tuple h;obtain⟨j,Y,⟨o',U,_,Z,O⟩,_⟩:=I.tuple h';rw[e]at U;cases U;rw[d]at O;injection O with d1 _;have:F=j:=by simpa using congrArg Array.toList d1
 subst this;exact r.inj Y
end
noncomputable abbrev Cx.wish (X:Cx)(E:Value->Shared->Prop):Cx:={ X with xe:=E }
noncomputable abbrev Cx.nox (X:Cx):Cx:=X.wish λ_ _=>False
theorem Cx.Ok.wish {X:Cx}(ok:X.Ok)(E:Value->Shared->Prop):(X.wish E).Ok :=
 ⟨ok.mod,ok.kind,ok.glob,ok.blt,ok.above,ok.inj,ok.has,ok.cab,ok.hd,ok.frames,ok.stk,ok.exf,ok.bs,ok.bsz,ok.noex,ok.exfs,ok.funs,ok.frf⟩
theorem Cx.Ok.unwish {X:Cx}{E:Value->Shared->Prop}(ok:(X.wish E).Ok):X.Ok :=
 ⟨ok.mod,ok.kind,ok.glob,ok.blt,ok.above,ok.inj,ok.has,ok.cab,ok.hd,ok.frames,ok.stk,ok.exf,ok.bs,ok.bsz,ok.noex,ok.exfs,ok.funs,ok.frf⟩
section
variable {X:Cx}{pins:List (Addr×Obj)}{σ:St}{H:Hp}{s:Shared}{E:Value->Shared->Prop}
theorem Inv.wish (I:Inv X pins σ H s)(E:Value->Shared->Prop):Inv (X.wish E) pins σ H s:=⟨I.ok.wish E,I.os,I.bare,I.base,I.loc,I.cell,I.free,I.freeC,I.pin,I.hok,I.len⟩
theorem Inv.unwish (I:Inv (X.wish E) pins σ H s):Inv X pins σ H s:=⟨I.ok.unwish,I.os,I.bare,I.base,I.loc,I.cell,I.free,I.freeC,I.pin,I.hok,I.len⟩
theorem SP.unwish (h:SP (X.wish E) pins D f s'):SP X pins D f s':=by
 cases f with
 |next=>obtain⟨j,H',I,q⟩:=h;exact⟨j,H',I.unwish,q⟩
 |brk=>obtain⟨j,H',I,q⟩:=h;exact⟨j,H',I.unwish,q⟩
 |cont=>obtain⟨j,H',I,q⟩:=h;exact⟨j,H',I.unwish,q⟩
 |ret u=>obtain⟨v,j,H',I,r,q⟩:=h;exact⟨v,j,H',I.unwish,r,q⟩
theorem PSs.nox {st:List Stmt}{t:TS}(h:PSs X.nox st t):PSs X st t:=λpins s σ H D I j =>
 Rp (h pins s σ H D (I.wish _) j) (λ_ _ q=>q.unwish) λ_ _ z=>Ql z
end
section
variable {X:Cx}{st:Stmt}{rest:List Stmt}{t u:TS}{e:Expr}{te:TE}{pos:Pos}
def O9:TS:=λD σ H=>D.nx σ H
def Pb (t u:TS):TS:=λD σ H=>t { D with nx:=u D } σ H
theorem Inv.quiet (I:Inv X pins σ H s):interactive X.env=false:=by simp[interactive,I.ok.kind]
def Zb4 (te:TE):TS:=λD σ H=>te σ H λ_ H1=>D.nx σ H1
def Zcg (te:TE):TS:=λD σ H=>te σ H D.rt
def Cr (c:TT)(t u:TS):TS:=λD σ H=>c σ H λb H1=>if b=true then t D σ H1 else u D σ H1
end
noncomputable abbrev TG:=V->St->Hp->(St->Hp->Prop)->Prop
noncomputable abbrev Eh:=List V->St->Hp->(St->Hp->Prop)->Prop
def PG (X:Cx)(target:Expr)(t:TG):Prop :=
 ∀(pins:List (Addr×Obj))(s:Shared)(σ:St)(H:Hp)(v:V)(u:Value)(Q:St->Hp->Prop),Inv X pins σ H s->RelV v u->t v σ H Q ->
  wpAny (model X.prog X.w) X.A (assign target X.env u) (λ_ s'=>∃σ' H',Inv X pins σ' H' s'/\Q σ' H') X.xe s
def PGs (X:Cx)(ts:List Expr)(t:Eh):Prop :=
 ∀(pins:List (Addr×Obj))(s:Shared)(σ:St)(H:Hp)(vs:List V)(us:List Value)(Q:St->Hp->Prop),Inv X pins σ H s->Vals vs us->t vs σ H Q ->
  wpAny (model X.prog X.w) X.A (assignInOrder ((assignEach ts X.env).map (·.2)) us) (λ_ s'=>∃σ' H',Inv X pins σ' H' s'/\Q σ' H') X.xe s
noncomputable abbrev J9:=V->V->V->Hp->(Hp->Prop)->Prop
def Oz (X:Cx)(t:J9):Prop :=
 ∀(pins:List (Addr×Obj))(s:Shared)(σ:St)(H:Hp)(o i v:V)(ov iv u:Value)(Q:Hp->Prop),Inv X pins σ H s->RelV o ov->RelV i iv->RelV v u->t o i v H Q ->
  wpAny (model X.prog X.w) X.A (setItem ov iv u) (λ_ s'=>∃H',Inv X pins σ H' s'/\Q H') X.xe s
section
variable {X:Cx}{pos:Pos}
def Gz (i:Nat):TG:=λv σ H Q=>Q (σ.set i (some v)) H
def Ow:Eh:=λvs σ H Q=>vs=[]/\Q σ H
def Zcw (t:TG)(u:Eh):Eh:=λvs σ H Q=>∃v r,vs=v::r/\t v σ H λj H'=>u r j H' Q
def Mr (K:Pg)(n:Nat)(t:Eh):TG:=λv σ H Q=>∃a xs,v=.ref a/\SqT K H a xs/\xs.length=n/\t xs σ H Q
def Zbi (to ti:TE)(t:J9):TG:=λv σ H Q=>to σ H λo H1=>ti σ H1 λi H2=>t o i v H2 λj=>Q σ j
def G8 (te:TE)(g:TG):TS:=λD σ H=>te σ H λx H1=>g x σ H1 D.nx
end
section
variable {X:Cx}{pos:Pos}
def Zfv (c:TT)(tb:TS):TS:=λD σ H=>∃W:Nat->St->Hp->Prop,(∃m,W m σ H)/\∀m σ H,W m σ H ->
 c σ H λb H1=>if b=true then ∃N:St->Hp->Prop,(∀σ' H',N σ' H'->∃m',m'<m/\W m' σ' H')/\tb { D with nx:=N,ct:=N,bk:=D.nx } σ H1 else D.nx σ H1
end
structure It where
 go:Nat->Hp->Prop
 yld:Nat->Hp->V->Hp->Prop
 stop:Nat->Hp->Prop
def FpOk (X:Cx)(pins:List (Addr×Obj))(H:Hp)(b:Addr):Prop :=
 H b=none/\b≠X.env.locals/\b ∉ X.fs/\(b∈X.ex\/X.s₀.heap.objs.size<=b)/\(∀x c,X.env.cells.lookup x=some c->c≠b)/\∀p∈X.pn++pins,p.1≠b
theorem Inv.fpOk (I:Inv X pins σ H s)(hb:s.heap.objs.size<=b)(hn:H' b=none):FpOk X pins H' b:=by
 refine⟨hn,Q1 (P9 I.lt hb),I.nofs hb,.inr (Qg I.sz hb),λx c e z=>?_,λp hp z=>?_⟩
 ·obtain⟨v,q⟩:=I.cell x c e;exact absurd (P9 q.lt (by rw[z];exact hb)) (Q4 _)
 ·exact absurd (P9 (Pq (I.pin p hp).1) (by rw[z];exact hb)) (Q4 _)
structure Hf (P:Program)(w:World)(K:Pg)(tg:Expr)(J:It)(fp:List Addr)(it:Addr)(tn:Nat->Heap->Prop):Prop where
 mem:it∈fp
 obj:∀i h,tn i h->∀b∈fp,∃o,h.get? b=some o/\∀v,o.data≠.cell v
 keep:∀i h h',tn i h->(∀b∈fp,∀o,h.get? b=some o->h'.get? b=some o)->tn i h'
 item:∀(X:Cx),X.prog=P->X.w=w->X.K=K->X.calm=true->∀(i:Nat)(pins:List (Addr×Obj))(s:Shared)(σ:St)(H:Hp)(E:Value->Shared->Prop),Inv X pins σ H s->(∀b∈fp,FpOk X pins H b)->tn i s.heap->J.go i H ->
  wpAny (model P w) X.A (pyNext (.ref it)) (λr s1=>∃u,r=some u /\
   wpAny (model P w) X.A (letOwnedTupleGo tg (.ref it) u) (λ_ s2=>∃x H',Inv X pins σ H' s2/\RelV x u/\J.yld i H x H'/\tn (i+1) s2.heap/\∀b∈fp,H' b=none) E s1) E s
 done:∀(X:Cx),X.prog=P->X.w=w->X.K=K->X.calm=true->∀(i:Nat)(pins:List (Addr×Obj))(s:Shared)(σ:St)(H:Hp)(E:Value->Shared->Prop),Inv X pins σ H s->(∀b∈fp,FpOk X pins H b)->tn i s.heap->J.stop i H ->
  wpAny (model P w) X.A (pyNext (.ref it)) (λr s1=>r=none/\Inv X pins σ H s1) E s
 self:∀(A:Around)(i:Nat)(s:Shared)(Q:Value->Shared->Prop)(E:Value->Shared->Prop),tn i s.heap->Q (.ref it) s->wpAny (model P w) A (pyIter (.ref it)) Q E s
noncomputable abbrev TI:=St->Hp->(It->Hp->Prop)->Prop
def PIE (X:Cx)(pins:List (Addr×Obj))(σ:St)(tg:Expr)(R:It->Hp->Prop)(itv:Value)(s2:Shared):Prop :=
 eX5 λ(it:Addr)(fp:List Addr)(tn:Nat->Heap->Prop)(J:It)(H':Hp)=>itv=.ref it/\Inv X pins σ H' s2/\Hf X.prog X.w X.K tg J fp it tn/\tn 0 s2.heap/\(∀b∈fp,FpOk X pins H' b)/\R J H'
def PI (X:Cx)(tg iter:Expr)(wi:TI):Prop :=
 ∀(pins:List (Addr×Obj))(s:Shared)(σ:St)(H:Hp)(R:It->Hp->Prop),Inv X pins σ H s->wi σ H R ->
  wpAny (model X.prog X.w) X.A (eval iter X.env) (λv j=>wpAny (model X.prog X.w) X.A (pyIter v) (PIE X pins σ tg R) X.xe j) X.xe s
theorem Me (ho:s.heap.get? it=some o)(hc:o.cls=.type n)(hd:o.data=.fields vs)(hn:["enumerate","zip","dict_itemiterator","dict_reverseitemiterator","odict_iterator","itertools.zip_longest","itertools.pairwise"].contains n=false)(hQ:Q () s):wpAny M A (letOwnedTupleGo tg (.ref it) u) Q E s:=by
 unfold letOwnedTupleGo;cases tg <;> first
  |exact Pi hQ
  |(cases u <;> first
    |exact Pi hQ
    | (refine Ph (wpAny_load ho ?_)
       rw [hc,hd];show wpAny M A (if (["enumerate","zip","dict_itemiterator","dict_reverseitemiterator","odict_iterator","itertools.zip_longest","itertools.pairwise"].contains n && vs[0]? == some (rawInt _))=true then _ else _) Q E s;rw[if_neg (by intro h;rw[hn,Bool.false_and]at h;cases h)];exact Pi hQ))
noncomputable def Hu (K:Pg)(a:Addr):It :=
 ⟨λi H=>∃xs x,SqL K H a xs/\xs[i]?=some x,λi H x H'=>H'=H/\∀xs,SqL K H a xs->xs[i]?=some x,λi H=>∃xs,SqL K H a xs/\xs.length<=i⟩
noncomputable def Ic (K:Pg)(a:Addr):It :=
 ⟨λi H=>∃xs x,SqT K H a xs/\xs[i]?=some x,λi H x H'=>H'=H/\∀xs,SqT K H a xs->xs[i]?=some x,λi H=>∃xs,SqT K H a xs/\xs.length<=i⟩
noncomputable def G5 (lo:Int)(n:Nat):It:=⟨λi _=>i<n,λi H x H'=>H'=H/\x=.int (lo+i),λi _=>n<=i⟩
theorem Zkt {P:Program}{w:World}{K:Pg}{tg:Expr}(a it:Addr):Hf P w K tg (Hu K a) [it] it (λi h=>h.IsListIter it a i) where
 mem:=by simp
 obj:=λi h st b j=>by
  have e:b=it:=by simpa using j
  subst e;obtain⟨o,e,c,d⟩:=st;exact⟨o,e,λv z=>by rw[d]at z;cases z⟩
 keep:=λi h h' st k=>st.at λo e=>k it (by simp) o e
 item:=by
  intro X Y hw hK hc i pins s σ H E I O st hg;subst Y hw hK;obtain⟨xs,x,U,hx⟩:=hg;obtain⟨aa,rv,p,hz⟩:=I.list U;obtain⟨u,hu,ru⟩:=rv.get hx;obtain⟨f0,f1,f2,f3,Z,f5⟩:=O it (by simp);refine wpAny_pyNext_list_item st p.isList (x:=u) (by simpa using hu) λh' F sb=>?_;have I1:Inv X pins σ H { s with heap:=h' }:=I.turned (t':=s.toks) (λb o j e=>(sb.2 b j).trans e) f0 f1 f3 Z f5;obtain⟨o,e,c,d⟩:=id F;exact⟨u,rfl,Me (s:={ s with heap:=h' }) e c d (by decide) ⟨x,H,I1,ru,⟨rfl,λys hy=>by rw[I.list_inj hy U];exact hx⟩,F,λb j=>(O b j).1⟩⟩
 done:=by
  intro X Y hw hK hc i pins s σ H E I O st hg;subst Y hw hK;obtain⟨xs,U,hx⟩:=hg;obtain⟨aa,rv,p,hz⟩:=I.list U;obtain⟨f0,f1,f2,f3,Z,f5⟩:=O it (by simp);have hl:=rv.length;exact wpAny_pyNext_list_end (I.ok.hd hc) st p.isList (by simp;lia) λh' eb=>⟨rfl,I.turned (t':=s.toks) (λb o j e=>eb b o j e) f0 f1 f3 Z f5⟩
 self:=λ_ _ _ _ _ st h=>wpAny_pyIter_listiter st h
theorem Ztt {P:Program}{w:World}{K:Pg}{tg:Expr}(a it:Addr):Hf P w K tg (Ic K a) [it] it (λi h=>h.IsTupleIter it a i) where
 mem:=by simp
 obj:=λi h st b j=>by
  have e:b=it:=by simpa using j
  subst e;obtain⟨o,e,c,d⟩:=st;exact⟨o,e,λv z=>by rw[d]at z;cases z⟩
 keep:=λi h h' st k=>st.at λo e=>k it (by simp) o e
 item:=by
  intro X Z hw hK hc i pins s σ H E I U st hg;subst Z hw hK;obtain⟨xs,x,Y,hx⟩:=hg;obtain⟨F,rv,p,hz⟩:=I.tuple Y;obtain⟨u,hu,ru⟩:=rv.get hx;obtain⟨f0,f1,f2,f3,f4,f5⟩:=U it (by simp);refine wpAny_pyNext_tuple_item st (show s.heap.IsTuple a F.toArray from p) (x:=u) (by simpa using hu) λh' O sb=>?_;have I1:Inv X pins σ H { s with heap:=h' }:=I.turned (t':=s.toks) (λb o j e=>(sb.2 b j).trans e) f0 f1 f3 f4 f5;obtain⟨o,e,c,d⟩:=id O;exact⟨u,rfl,Me (s:={ s with heap:=h' }) e c d (by decide) ⟨x,H,I1,ru,⟨rfl,λys hy=>by rw[I.tuple_inj hy Y];exact hx⟩,O,λb j=>(U b j).1⟩⟩
 done:=by
  intro X Z hw hK hc i pins s σ H E I U st hg;subst Z hw hK;obtain⟨xs,Y,hx⟩:=hg;obtain⟨F,rv,p,hz⟩:=I.tuple Y;obtain⟨f0,f1,f2,f3,f4,f5⟩:=U it (by simp);have hl:=rv.length;exact wpAny_pyNext_tuple_end (I.ok.hd hc) st (show s.heap.IsTuple a F.toArray from p) (by simp;lia) λh' eb=>⟨rfl,I.turned (t':=s.toks) (λb o j e=>eb b o j e) f0 f1 f3 f4 f5⟩
 self:=λ_ _ _ _ _ st h=>wpAny_pyIter_tupleiter st h
theorem Zns {P:Program}{w:World}{K:Pg}{tg:Expr}(it:Addr)(lo:Int)(n:Nat):Hf P w K tg (G5 lo n) [it] it (λi h=>IsRangeIter h it (lo+(i:Nat)*1) ((n:Int)-(i:Nat)) 1) where
 mem:=by simp
 obj:=λi h st b j=>by
  have e:b=it:=by simpa using j
  subst e;exact⟨_,st,λv z=>by
   have z':Data.fields _=Data.cell v:=z;cases z'⟩
 keep:=λi h h' st k=>k it (by simp) _ st
 item:=by
  intro X U hw hK hc i pins s σ H E I O st hg;subst U hw hK;obtain⟨f0,f1,f2,Z,Y,f5⟩:=O it (by simp);have W:=Walks.range (prog:=X.prog) (w:=X.w) (I.ok.hd hc) it lo 1 n;refine W.item i s _ _ hg st λv h' tk hv F kk=>?_;obtain⟨t,rfl⟩:=hv;have I1:Inv X pins σ H { s with heap:=h',toks:=tk }:=I.turned (λb o j e=>kk b o (by simpa using j) e) f0 f1 Z Y f5;refine⟨_,rfl,Me (s:={ s with heap:=h',toks:=tk }) (n:="range_iterator") F rfl rfl (by decide) ⟨.int (lo+i),H,I1,⟨t,?_⟩,⟨rfl,rfl⟩,F,λb j=>(O b j).1⟩⟩;rw[Int.mul_one]
 done:=by
  intro X U hw hK hc i pins s σ H E I O st hg;subst U hw hK;obtain⟨f0,f1,f2,Z,Y,f5⟩:=O it (by simp);exact wpAny_pyNext_range_end (I.ok.hd hc) st (by have:n<=i:=hg;lia) λh' eb=>⟨rfl,I.turned (t':=s.toks) (λb o j e=>eb b o j e) f0 f1 Z Y f5⟩
 self:=λ_ _ _ _ _ st h=>wpAny_pyIter_rangeiter st h
section
variable {X:Cx}{tg:Expr}
theorem Zp6 {pins:List (Addr×Obj)}{σ:St}{H:Hp}{s:Shared}{R:It->Hp->Prop}{E:Value->Shared->Prop}{lo hi:Int}{t u v:Tok}{tk:Nat}(I:Inv X pins σ H s)(h1:-(2 ^ 62)<=lo)(h2:lo<2 ^ 62)(h3:-(2 ^ 62)<=hi)(h4:hi<2 ^ 62)
  (q:R (G5 lo (hi-lo).toNat) H):wpAny (model X.prog X.w) X.A (pyIter (.ref s.heap.objs.size)) (PIE X pins σ tg R) E { s with heap:=s.heap.push { cls:=.type "range",data:=.fields #[.int lo t,.int hi u,.int 1 v] },toks:=tk }:=by
 refine wpAny_pyIter_range (IsRange.new ..) (small_one h1 h2 h3 h4) ?_;have j:Inv X pins σ H { s with heap:=s.heap.push { cls:=.type "range",data:=.fields #[.int lo t,.int hi u,.int 1 v] },toks:=tk }:=I.kept λb o e=>Pm _ e;refine⟨(s.heap.push { cls:=.type "range",data:=.fields #[.int lo t,.int hi u,.int 1 v] }).objs.size,[(s.heap.push { cls:=.type "range",data:=.fields #[.int lo t,.int hi u,.int 1 v] }).objs.size],_,_,H,rfl,
  j.kept (t':=tk) λb o e=>Pm _ e,Zns _ lo (hi-lo).toNat,?_,λb F=>?_,q⟩
 ·have U:lo+((0:Nat):Int)*1=lo:=by simp
  have O:(((hi-lo).toNat:Nat):Int)-((0:Nat):Int)=Builtin.Range.rangeSize lo hi 1:=by rw[rangeSize_one];split <;> lia
  show IsRangeIter _ _ (lo+((0:Nat):Int)*1) ((((hi-lo).toNat:Nat):Int)-((0:Nat):Int)) 1;rw[U,O];exact P3 _ rfl
 ·have e:b=(s.heap.push { cls:=.type "range",data:=.fields #[.int lo t,.int hi u,.int 1 v] }).objs.size:=by simpa using F
  subst e;exact j.fpOk (Pj _) (j.hok.fresh (Pj _))
def Zb8 (ta:TA):TI:=λσ H R=>ta σ H λvs H1=>∃j:Int,vs=[.int j]/\-(2 ^ 62)<=j/\j<2 ^ 62/\R (G5 0 j.toNat) H1
def Zbp (wi:TI)(g:TG)(tb:TS):TS:=λD σ H=>wi σ H λJ H1=>∃W:Nat->Nat->St->Hp->Prop,(∃m,W 0 m σ H1)/\∀i m σ H,W i m σ H ->
 (J.stop i H/\D.nx σ H)\/(J.go i H/\∃N:St->Hp->Prop,(∀σ' H',N σ' H'->∃m',m'<m/\W (i+1) m' σ' H')/\∀x H',J.yld i H x H'->g x σ H' λj H2=>tb { D with nx:=N,ct:=N,bk:=D.nx } j H2)
noncomputable def Kj (fp:List Addr)(h:Heap):List (Addr×Obj):=fp.filterMap λb=>(h.get? b).map λo=>(b,o)
theorem Ob (hb:b∈fp)(e:h.get? b=some o):(b,o)∈Kj fp h:=List.mem_filterMap.mpr ⟨b,hb,by rw[e];rfl⟩
theorem Zky (hp:p∈Kj fp h):p.1∈fp/\h.get? p.1=some p.2:=by
 obtain⟨b,j,e⟩:=List.mem_filterMap.mp hp;cases q:h.get? b with
 |none=>rw[q]at e;cases e
 |some o =>
  rw[q]at e;have F:(b,o)=p:=Qa e;subst F;exact⟨j,q⟩
theorem Inv.pinned (I:Inv X pins σ H s)(hf:∀b∈fp,FpOk X pins H b)(ho:∀b∈fp,∃o,s.heap.get? b=some o/\∀v,o.data≠.cell v):Inv X (pins++Kj fp s.heap) σ H s :=
 I.pins_of λp hp=>(Rl.mp hp).elim (λz=>I.pin p (Ra _ z)) λz=>by
  obtain⟨j,e⟩:=Zky z;obtain⟨O,Y,U,_⟩:=hf p.1 j;obtain⟨o,F,d⟩:=ho p.1 j;rw[e]at F;cases F;exact⟨e,O,Y,U,d⟩
theorem Inv.unpinned (I:Inv X (pins++pl) σ H s):Inv X pins σ H s:=I.pins_of λp hp=>I.pin p (Ra _ (List.mem_append_left _ hp))
end
theorem Zab {K:Pg}{a:Addr}{xs:List V}{g:TG}{tb:TS}{D:Dc}{σ:St}{H:Hp}(Pv:Nat->St->Hp->Prop)(h0:Pv 0 σ H)(hl:∀i σ H,i<=xs.length->Pv i σ H->SqL K H a xs)
  (hs:∀i x σ H,xs[i]?=some x->Pv i σ H->g x σ H λσ2 H2=>tb { D with nx:=Pv (i+1),ct:=Pv (i+1),bk:=D.nx } σ2 H2) (hd:∀σ H,Pv xs.length σ H->D.nx σ H) :
  ∃W:Nat->Nat->St->Hp->Prop,(∃m,W 0 m σ H)/\∀i m σ H,W i m σ H ->
   ((Hu K a).stop i H/\D.nx σ H)\/((Hu K a).go i H/\∃N:St->Hp->Prop,(∀σ' H',N σ' H'->∃m',m'<m/\W (i+1) m' σ' H')/\∀x H',(Hu K a).yld i H x H'->g x σ H' λσ2 H2=>tb { D with nx:=N,ct:=N,bk:=D.nx } σ2 H2):=by
 refine⟨λi m σ H=>m=xs.length-i/\i<=xs.length/\Pv i σ H,⟨xs.length,by simp,Qk _,h0⟩,?_⟩;rintro i m σ H ⟨rfl,hi,p⟩;have q:=hl i σ H hi p;by_cases j:i<xs.length
 ·refine .inr ⟨⟨xs,xs[i],q,by simp[j]⟩,Pv (i+1),λσ' H' F=>⟨xs.length-(i+1),by lia,rfl,j,F⟩,λx H' y=>?_⟩;obtain⟨e,y⟩:=y;subst e;exact hs i x σ _ (y xs q) p
 ·have e:i=xs.length:=by lia
  subst e;exact .inl ⟨⟨xs,q,Pj _⟩,hd σ H p⟩
theorem Zl6 {K:Pg}{a:Addr}{xs:List V}{g:TG}{tb:TS}{D:Dc}{σ:St}{H:Hp}(Pv:Nat->St->Hp->Prop)(h0:Pv 0 σ H)(hl:∀i σ H,i<=xs.length->Pv i σ H->SqT K H a xs)
  (hs:∀i x σ H,xs[i]?=some x->Pv i σ H->g x σ H λσ2 H2=>tb { D with nx:=Pv (i+1),ct:=Pv (i+1),bk:=D.nx } σ2 H2) (hd:∀σ H,Pv xs.length σ H->D.nx σ H) :
  ∃W:Nat->Nat->St->Hp->Prop,(∃m,W 0 m σ H)/\∀i m σ H,W i m σ H ->
   ((Ic K a).stop i H/\D.nx σ H)\/((Ic K a).go i H/\∃N:St->Hp->Prop,(∀σ' H',N σ' H'->∃m',m'<m/\W (i+1) m' σ' H')/\∀x H',(Ic K a).yld i H x H'->g x σ H' λσ2 H2=>tb { D with nx:=N,ct:=N,bk:=D.nx } σ2 H2):=by
 refine⟨λi m σ H=>m=xs.length-i/\i<=xs.length/\Pv i σ H,⟨xs.length,by simp,Qk _,h0⟩,?_⟩;rintro i m σ H ⟨rfl,hi,p⟩;have q:=hl i σ H hi p;by_cases j:i<xs.length
 ·refine .inr ⟨⟨xs,xs[i],q,by simp[j]⟩,Pv (i+1),λσ' H' F=>⟨xs.length-(i+1),by lia,rfl,j,F⟩,λx H' y=>?_⟩;obtain⟨e,y⟩:=y;subst e;exact hs i x σ _ (y xs q) p
 ·have e:i=xs.length:=by lia
  subst e;exact .inl ⟨⟨xs,q,Pj _⟩,hd σ H p⟩
theorem Fa {lo:Int}{n:Nat}{g:TG}{tb:TS}{D:Dc}{σ:St}{H:Hp}(Pv:Nat->St->Hp->Prop)(h0:Pv 0 σ H)
  (hs:∀i σ H,i<n->Pv i σ H->g (.int (lo+i)) σ H λσ2 H2=>tb { D with nx:=Pv (i+1),ct:=Pv (i+1),bk:=D.nx } σ2 H2) (hd:∀σ H,Pv n σ H->D.nx σ H) :
  ∃W:Nat->Nat->St->Hp->Prop,(∃m,W 0 m σ H)/\∀i m σ H,W i m σ H ->
   ((G5 lo n).stop i H/\D.nx σ H)\/((G5 lo n).go i H/\∃N:St->Hp->Prop,(∀σ' H',N σ' H'->∃m',m'<m/\W (i+1) m' σ' H')/\∀x H',(G5 lo n).yld i H x H'->g x σ H' λσ2 H2=>tb { D with nx:=N,ct:=N,bk:=D.nx } σ2 H2):=by
 refine⟨λi m σ H=>m=n-i/\i<=n/\Pv i σ H,⟨n,by simp,Qk _,h0⟩,?_⟩;rintro i m σ H ⟨rfl,hi,p⟩;by_cases j:i<n
 ·refine .inr ⟨j,Pv (i+1),λσ' H' F=>⟨n-(i+1),by lia,rfl,j,F⟩,λx H' y=>?_⟩;obtain⟨e,y⟩:=y;subst e y;exact hs i σ _ j p
 ·have e:i=n:=by lia
  subst e;exact .inl ⟨Pj _,hd σ H p⟩
noncomputable abbrev R2:=V->V->Hp->VK->Prop
def OpR (X:Cx)(f:Value->Value->Sem Value)(r:R2):Prop :=
 ∀(pins:List (Addr×Obj))(s:Shared)(σ:St)(H:Hp)(x y:V)(v u:Value)(Q:VK),Inv X pins σ H s->RelV x v->RelV y u->r x y H Q ->
  wpAny (model X.prog X.w) X.A (f v u) (EP X pins σ Q) X.xe s
def UnR (X:Cx)(f:Value->Sem Value)(r:V->Hp->VK->Prop):Prop :=
 ∀(pins:List (Addr×Obj))(s:Shared)(σ:St)(H:Hp)(x:V)(v:Value)(Q:VK),Inv X pins σ H s->RelV x v->r x H Q ->
  wpAny (model X.prog X.w) X.A (f v) (EP X pins σ Q) X.xe s
def Cw (X:Cx)(f:Value)(r:List V->Hp->VK->Prop):Prop :=
 ∀(pins:List (Addr×Obj))(s:Shared)(σ:St)(H:Hp)(xs:List V)(us:List Value)(Q:VK),Inv X pins σ H s->Vals xs us->r xs H Q ->
  wpAny (model X.prog X.w) X.A (call f us) (EP X pins σ Q) X.xe s
def TruR (X:Cx)(r:V->Hp->(Bool->Hp->Prop)->Prop):Prop :=
 ∀(pins:List (Addr×Obj))(s:Shared)(σ:St)(H:Hp)(x:V)(v:Value)(Q:Bool->Hp->Prop),Inv X pins σ H s->RelV x v->r x H Q ->
  wpAny (model X.prog X.w) X.A (truthy v) (TP X pins σ Q) X.xe s
def Fm (r:R2)(ta tb:TE):TE:=λσ H Q=>ta σ H λx H1=>tb σ H1 λy H2=>r x y H2 Q
def tUn (r:V->Hp->VK->Prop)(ta:TE):TE:=λσ H Q=>ta σ H λx H1=>r x H1 Q
def rI (C:Int->Int->Prop)(g:Int->Int->V):R2:=λx y H Q=>∃i j,x=.int i/\y=.int j/\C i j/\Q (g i j) H
def E1 (g:Int->Int->V):R2:=λx y H Q=>∃i j,x=.int i/\y=.int j/\Q (g i j) H
def rU (g:Int->V):V->Hp->VK->Prop:=λx H Q=>∃i,x=.int i/\Q (g i) H
section
variable {X:Cx}{a b c:Expr}{ta tb tc:TE}{pos:Pos}
theorem Zcc (ha:PE X a ta)(hb:PE X b tb){pins:List (Addr×Obj)}{s:Shared}{σ:St}{H:Hp}{R:V->V->Hp->Prop}(I:Inv X pins σ H s)
  (h:ta σ H λx H1=>tb σ H1 λy H2=>R x y H2) {Q:Value->Shared->Prop} {f:Value->Value->Sem Value}
  (hf:∀v u s2 x y H2,Inv X pins σ H2 s2->RelV x v->RelV y u->R x y H2->wpAny (model X.prog X.w) X.A (f v u) Q X.xe s2) :
  wpAny (model X.prog X.w) X.A (eval a X.env) (λv s₁=>wpAny (model X.prog X.w) X.A (eval b X.env) (λu s₂=>wpAny (model X.prog X.w) X.A (f v u) Q X.xe s₂) X.xe s₁) X.xe s:=by
 refine Ak (ha pins s σ H _ I h) λv F j=>?_;obtain⟨x,H1,I1,r1,O⟩:=j;refine Ak (hb pins F σ H1 _ I1 O) λu s2 j=>?_;obtain⟨y,H2,U,Y,Z⟩:=j;exact hf v u s2 x y H2 U r1 Y Z
theorem opI {f:Value->Value->Sem Value}{C:Int->Int->Prop}{g:Int->Int->Int}
  (rule:∀(i j:Int)(t u:Tok)(s:Shared)(Q:Value->Shared->Prop)(E:Value->Shared->Prop),C i j->Q (.int (g i j) s.toks) { s with toks:=s.toks+1 }->wpAny (model X.prog X.w) X.A (f (.int i t) (.int j u)) Q E s) :
  OpR X f (rI C λi j=>.int (g i j)):=by
 intro pins s σ H x y v u Q I O F h;obtain⟨i,j,rfl,rfl,Y,q⟩:=h;obtain⟨t,rfl⟩:=O;obtain⟨U,rfl⟩:=F;exact rule i j t U s _ _ Y ⟨.int (g i j),H,I.tok _,⟨_,rfl⟩,q⟩
theorem opI0 {f:Value->Value->Sem Value}{g:Int->Int->Int}
  (rule:∀(i j:Int)(t u:Tok)(s:Shared)(Q:Value->Shared->Prop)(E:Value->Shared->Prop),Q (.int (g i j) s.toks) { s with toks:=s.toks+1 }->wpAny (model X.prog X.w) X.A (f (.int i t) (.int j u)) Q E s) :
  OpR X f (E1 λi j=>.int (g i j)):=by
 intro pins s σ H x y v u Q I O F h;obtain⟨i,j,rfl,rfl,q⟩:=h;obtain⟨t,rfl⟩:=O;obtain⟨U,rfl⟩:=F;exact rule i j t U s _ _ ⟨.int (g i j),H,I.tok _,⟨_,rfl⟩,q⟩
theorem Zbw {f:Value->Value->Sem Value}{g:Int->Int->Bool}
  (rule:∀(i j:Int)(t u:Tok)(s:Shared)(Q:Value->Shared->Prop)(E:Value->Shared->Prop),Q (.bool (g i j)) s->wpAny (model X.prog X.w) X.A (f (.int i t) (.int j u)) Q E s) :
  OpR X f (E1 λi j=>.bl (g i j)):=by
 intro pins s σ H x y v u Q I O F h;obtain⟨i,j,rfl,rfl,q⟩:=h;obtain⟨t,rfl⟩:=O;obtain⟨U,rfl⟩:=F;exact rule i j t U s _ _ ⟨.bl (g i j),H,I,rfl,q⟩
def CDiv (i j:Int):Prop:=0<j/\j<1073741824
def CPow (i j:Int):Prop:=0<=j/\j<=1000000/\i.natAbs<2 ^ 64
def CMul (i j:Int):Prop:=(-(2 ^ 64)<i/\i<2 ^ 64)\/(-(2 ^ 64)<j/\j<2 ^ 64)
theorem CMul.ok (h:CMul i j):IntMulOk i j:=by
 rcases h with⟨h1,h2⟩|⟨h1,h2⟩
 ·exact .of_left (intBits_le_64 h1 h2)
 ·exact .of_right (intBits_le_64 h1 h2)
theorem op_add:OpR X (binaryOp .Add) (E1 λi j=>.int (i+j)):=opI0 λ_ _ _ _ _ _ _ q=>add_int q
theorem Eo:OpR X (binaryOp .Sub) (E1 λi j=>.int (i-j)):=opI0 λ_ _ _ _ _ _ _ q=>sub_int q
theorem op_mul:OpR X (binaryOp .Mult) (rI CMul λi j=>.int (i*j)):=opI λ_ _ _ _ _ _ _ F q=>mul_int q F.ok
theorem Df:OpR X (binaryOp .FloorDiv) (rI CDiv λi j=>.int (i / j)):=opI λi j _ _ _ _ _ F q=>by
 have h1:(0:Int)<j:=F.1;have h2:j<1073741824:=F.2;exact floordiv_int (by lia) (by rw[Int.fdiv_eq_ediv_of_nonneg i (by lia)];exact q) (.inl (PyProof.noPylong_small (by lia)))
theorem Bf:OpR X (binaryOp .Mod) (rI (λ_ j=>0<j) λi j=>.int (i % j)):=opI λi j _ _ _ _ _ F q=>by
 have h1:(0:Int)<j:=F;exact mod_int' (by lia) (by rw[Int.fmod_eq_emod_of_nonneg i (by lia)];exact q)
theorem Oj:OpR X (binaryOp .Pow) (rI CPow λi j=>.int (i ^ j.toNat)):=opI λ_ _ _ _ _ _ _ F q=>pow_int_small F.1 F.2.1 F.2.2 q
theorem unI {f:Value->Sem Value}{g:Int->Int}
  (rule:∀(i:Int)(t:Tok)(s:Shared)(Q:Value->Shared->Prop)(E:Value->Shared->Prop),Q (.int (g i) s.toks) { s with toks:=s.toks+1 }->wpAny (model X.prog X.w) X.A (f (.int i t)) Q E s) :
  UnR X f (rU λi=>.int (g i)):=by
 intro pins s σ H x v Q I j h;obtain⟨i,rfl,q⟩:=h;obtain⟨t,rfl⟩:=j;exact rule i t s _ _ ⟨.int (g i),H,I.tok _,⟨_,rfl⟩,q⟩
theorem F5:UnR X (unaryOp .USub) (rU λi=>.int (-i)):=unI λ_ _ _ _ _ q=>neg_int q
end
noncomputable def Nc:V->V->Bool
 |.non,.non=>true|.non,.int _=>true|.int _,.non=>true|.non,.bl _=>true|.bl _,.non=>true|.non,.str _=>true|.str _,.non=>true
 |.int _,.int _=>true|.bl _,.bl _=>true|.str _,.str _=>true|.byt _,.byt _=>true
 |.int _,.str _=>true|.str _,.int _=>true|.bl _,.str _=>true|.str _,.bl _=>true
 |_,_=>false
def rEq:R2:=λx y H Q=>Nc x y=true/\Q (.bl (decide (x=y))) H
def rNe:R2:=λx y H Q=>Nc x y=true/\Q (.bl (!decide (x=y))) H
theorem Zh6:decide (V.int i=V.int j)=(i == j):=by
 rw[T9];simp
theorem Zfi:decide (V.bl i=V.bl j)=(i == j):=by
 rw[T9];simp
theorem Bl:decide (V.str i=V.str j)=(i == j):=by
 rw[T9];simp
theorem Zg3:decide (V.byt i=V.byt j)=(i.toList == j.toList):=by
 rw[T9];cases i;cases j;simp
section
variable {X:Cx}{a b c:Expr}{ta tb tc:TE}{pos:Pos}
theorem Bx (I:Inv X pins σ H s)(q:Q (.bl k) H)(e:k=k'):EP X pins σ Q (.bool k') s:=by
 subst e;exact⟨.bl k,H,I,rfl,q⟩
theorem op_eq:OpR X (compareOp .Eq) rEq:=by
 intro pins s σ H x y v u Q I U F h;obtain⟨hs,q⟩:=h;cases x with
 |non =>
  cases U;cases y with
  |non=>cases F;exact PySem.EqNone.eq_none_none (Bx I q (by simp))
  |bl j=>cases F;exact PySem.EqNone.eq_none_bool (Bx I q (by simp))
  |int j=>obtain⟨O,rfl⟩:=F;exact PySem.EqNone.eq_none_int (Bx I q (by simp))
  |str j=>obtain⟨O,rfl⟩:=F;exact PySem.EqNone.eq_none_str (Bx I q (by simp))
  |_=>exact absurd (show false=true from hs) Pu
 |bl i =>
  cases U;cases y with
  |non=>cases F;exact PySem.EqNone.eq_bool_none (Bx I q (by simp))
  |bl j=>cases F;exact eq_bool (Bx I q Zfi)
  |str j=>obtain⟨O,rfl⟩:=F;exact PySem.EqMixed.eq_bool_str (Bx I q (by simp))
  |_=>exact absurd (show false=true from hs) Pu
 |int i =>
  obtain⟨t,rfl⟩:=U;cases y with
  |non=>cases F;exact PySem.EqNone.eq_int_none (Bx I q (by simp))
  |int j=>obtain⟨O,rfl⟩:=F;exact eq_int (Bx I q Zh6)
  |str j=>obtain⟨O,rfl⟩:=F;exact PySem.EqMixed.eq_int_str (Bx I q (by simp))
  |_=>exact absurd (show false=true from hs) Pu
 |str i =>
  obtain⟨t,rfl⟩:=U;cases y with
  |non=>cases F;exact PySem.EqNone.eq_str_none (Bx I q (by simp))
  |bl j=>cases F;exact PySem.EqMixed.eq_str_bool (Bx I q (by simp))
  |int j=>obtain⟨O,rfl⟩:=F;exact PySem.EqMixed.eq_str_int (Bx I q (by simp))
  |str j=>obtain⟨O,rfl⟩:=F;exact eq_str (Bx I q Bl)
  |_=>exact absurd (show false=true from hs) Pu
 |byt i =>
  obtain⟨t,rfl⟩:=U;cases y with
  |byt j=>obtain⟨O,rfl⟩:=F;exact PySem.W.eq_bytes (Bx I q Zg3)
  |_=>exact absurd (show false=true from hs) Pu
 |_=>cases y <;> exact absurd (show false=true from hs) Pu
theorem op_ne:OpR X (compareOp .NotEq) rNe:=by
 intro pins s σ H x y v u Q I U F h;obtain⟨hs,q⟩:=h;cases x with
 |non =>
  cases U;cases y with
  |non=>cases F;exact PySem.EqNone.ne_none_none (Bx I q (by simp))
  |bl j=>cases F;exact PySem.EqNone.ne_none_bool (Bx I q (by simp))
  |int j=>obtain⟨O,rfl⟩:=F;exact PySem.EqNone.ne_none_int (Bx I q (by simp))
  |str j=>obtain⟨O,rfl⟩:=F;exact PySem.EqNone.ne_none_str (Bx I q (by simp))
  |_=>exact absurd (show false=true from hs) Pu
 |bl i =>
  cases U;cases y with
  |non=>cases F;exact PySem.EqNone.ne_bool_none (Bx I q (by simp))
  |bl j=>cases F;exact ne_bool (Bx I q (congrArg not Zfi))
  |str j=>obtain⟨O,rfl⟩:=F;exact PySem.EqMixed.ne_bool_str (Bx I q (by simp))
  |_=>exact absurd (show false=true from hs) Pu
 |int i =>
  obtain⟨t,rfl⟩:=U;cases y with
  |non=>cases F;exact PySem.EqNone.ne_int_none (Bx I q (by simp))
  |int j=>obtain⟨O,rfl⟩:=F;exact ne_int (Bx I q (congrArg not Zh6))
  |str j=>obtain⟨O,rfl⟩:=F;exact PySem.EqMixed.ne_int_str (Bx I q (by simp))
  |_=>exact absurd (show false=true from hs) Pu
 |str i =>
  obtain⟨t,rfl⟩:=U;cases y with
  |non=>cases F;exact PySem.EqNone.ne_str_none (Bx I q (by simp))
  |bl j=>cases F;exact PySem.EqMixed.ne_str_bool (Bx I q (by simp))
  |int j=>obtain⟨O,rfl⟩:=F;exact PySem.EqMixed.ne_str_int (Bx I q (by simp))
  |str j=>obtain⟨O,rfl⟩:=F;exact ne_str (Bx I q (congrArg not Bl))
  |_=>exact absurd (show false=true from hs) Pu
 |byt i =>
  obtain⟨t,rfl⟩:=U;cases y with
  |byt j=>obtain⟨O,rfl⟩:=F;exact PySem.W.ne_bytes (Bx I q (congrArg not Zg3))
  |_=>exact absurd (show false=true from hs) Pu
 |_=>cases y <;> exact absurd (show false=true from hs) Pu
theorem op_lt:OpR X (compareOp .Lt) (E1 λi j=>.bl (decide (i<j))):=Zbw λ_ _ _ _ _ _ _ q=>lt_int q
theorem op_le:OpR X (compareOp .LtE) (E1 λi j=>.bl (decide (i<=j))):=Zbw λ_ _ _ _ _ _ _ q=>le_int q
theorem Ig:OpR X (compareOp .Gt) (E1 λi j=>.bl (decide (j<i))):=Zbw λ_ _ _ _ _ _ _ q=>gt_int q
theorem Znc:OpR X (compareOp .Lt) (λx y H Q=>∃i j,x=.str i/\y=.str j/\Q (.bl (decide (i.cps.toList<j.cps.toList))) H):=by
 intro pins s σ H x y v u Q I O F h;obtain⟨i,j,rfl,rfl,q⟩:=h;obtain⟨t,rfl⟩:=O;obtain⟨U,rfl⟩:=F;exact lt_str (Bx I q rfl)
theorem Zqh:OpR X (compareOp .In) (λx y H Q=>∃i j,x=.str i/\y=.str j/\Q (.bl (!(Builtin.Str.occurrences j i 0 j.length 1).isEmpty)) H):=by
 intro pins s σ H x y v u Q I O F h;obtain⟨i,j,rfl,rfl,q⟩:=h;obtain⟨t,rfl⟩:=O;obtain⟨U,rfl⟩:=F;exact in_str (Bx I q rfl)
theorem OpR.or (h:OpR X f r)(h':OpR X f r'):OpR X f (λx y H Q=>r x y H Q\/r' x y H Q):=by
 intro pins s σ H x y v u Q I j F q;rcases q with q|q
 ·exact h pins s σ H x y v u Q I j F q
 ·exact h' pins s σ H x y v u Q I j F q
theorem Ax (b:Expr)(h:autoParam (op≠.In) zW)(h2:autoParam (op≠.NotIn) zW):behindInMarks op b=false:=by
 have F:(op == CmpOp.In)=false:=by cases op <;> first|rfl|exact absurd rfl h
 have j:(op == CmpOp.NotIn)=false:=by cases op <;> first|rfl|exact absurd rfl h2
 cases b <;> simp[behindInMarks,F,j]
def Zcd (t:TE):TT:=λσ H Q=>t σ H λx H'=>∃k,x=.bl k/\Q k H'
def Zc7 (r r':R2)(ta tb tc:TE):TE:=λσ H Q=>ta σ H λx H1=>tb σ H1 λy H2=>r x y H2 λz j=>∃k,z=.bl k /\
 (if k=true then tc σ j λF I=>r' y F I Q else Q (.bl false) j)
def L6 (K:Pg)(x:V)(H:Hp)(k:Bool):Prop :=
 match x with
 |.non=>k=false
 |.bl b=>k=b
 |.int i=>k=(i != 0)
 |.str y=>y.length<=sizeLine/\k=((y.length:Int) != 0)
 |.byt y=>y.size<=sizeLine/\k=((y.size:Int) != 0)
 |.ref p=>(∃xs,SqL K H p xs/\k=!xs.isEmpty)\/(∃xs,SqT K H p xs/\k=!xs.isEmpty)\/∃kvs,H p=some (.dK kvs)/\k=!kvs.isEmpty
 |_=>False
theorem Zm5 {κ:Type}{kvs:List (κ×V)}{vs:List (κ×Value)}(r:KV kvs vs):(!vs.isEmpty)=!kvs.isEmpty:=by
 cases r <;> rfl
theorem Ze2 (r:Vals xs its):(!its.toArray.isEmpty)=!xs.isEmpty:=by
 cases r <;> simp
theorem Jw:(sizeLine:Nat)<2 ^ 63:=by rw[Vy];decide
theorem Zmw:TruR X (λx H Q=>∃k,L6 X.K x H k/\Q k H):=by
 intro pins s σ H x v Q I O h;obtain⟨k,e,q⟩:=h;have hl:=Jw;have hs:sizeLine=16777216:=Vy;cases x with
 |non =>
  cases O;have j:k=false:=e;subst j;exact truthy_none ⟨H,I,q⟩
 |bl b =>
  cases O;have j:k=b:=e;subst j;exact Ru ⟨H,I,q⟩
 |int i =>
  obtain⟨t,rfl⟩:=O;have j:k=(i != 0):=e;subst j;exact PySem.P.truthy_int ⟨H,I,q⟩
 |str y =>
  obtain⟨t,rfl⟩:=O;obtain⟨hy,j⟩:y.length<=sizeLine/\k=((y.length:Int) != 0):=e;subst j;exact PySem.P.truthy_str (by lia) ⟨H,I.tok _,q⟩
 |byt y =>
  obtain⟨t,rfl⟩:=O;obtain⟨hy,j⟩:y.size<=sizeLine/\k=((y.size:Int) != 0):=e;subst j;exact PySem.W.truthy_bytes (by lia) ⟨H,I.tok _,q⟩
 |ref p =>
  cases O;have j:(∃xs,SqL X.K H p xs/\k=!xs.isEmpty)\/(∃xs,SqT X.K H p xs/\k=!xs.isEmpty)\/∃kvs,H p=some (.dK kvs)/\k=!kvs.isEmpty:=e;rcases j with⟨xs,U,j⟩|⟨xs,U,j⟩|⟨kvs,U,j⟩
  ·subst j;obtain⟨Y,r,pl,Z⟩:=I.list U;have F:=r.length;exact wpAny_truthy_list pl.isList (by simp only[Pl];lia) ⟨H,I.tok _,by rw[Ze2 r];exact q⟩
  ·subst j;obtain⟨Y,r,pl,Z⟩:=I.tuple U;have F:=r.length;exact truthy_tuple pl (by simp only[Pl];lia) ⟨H,I.tok _,by rw[Ze2 r];exact q⟩
  ·subst j;obtain⟨Z,hS,vs,r,m⟩:kvs.length<=sizeLine/\(p == sysModules)=false/\∃vs,KV kvs vs/\s.heap.DictOf (Dx X.prog X.w) p vs:=I.hok p _ U;have F:kvs.length=vs.length:=Vn r;exact wpAny_truthy_dict hS m (by lia) ⟨H,I.tok _,by rw[Zm5 r];exact q⟩
 |_=>exact(show False from e).elim
theorem Zjh (ha:PE X a ta)(he:∀whole,isTrue a X.env whole=(do let v <- whole;standAt a.pos;holding [v] (truthy v))) :
  PT X a (λσ H Q=>ta σ H λx H'=>∃k,L6 X.K x H' k/\Q k H'):=by
 intro pins s σ H Q I h;exact isTrue_plain (Ak (ha pins s σ H _ I h) λv j ⟨x,H1,U,O,F⟩=>Zmw pins j σ H1 x v Q U O F) (he _)
theorem op_add_str:OpR X (binaryOp .Add) (λx y H Q=>∃i j,x=.str i/\y=.str j/\i.length+j.length<=sizeLine/\Q (.str (i++j)) H):=by
 intro pins s σ H x y v u Q I O F h;obtain⟨i,j,rfl,rfl,Y,q⟩:=h;obtain⟨t,rfl⟩:=O;obtain⟨U,rfl⟩:=F;exact add_str (λU tk=>⟨.str (i++j),H,I.tok _,⟨_,rfl⟩,q⟩) Y
theorem Hj (r:Vals [x] us):∃u,us=[u]/\RelV x u:=by
 cases r with
 |cons F j=>cases j;exact⟨_,rfl,F⟩
theorem Zsg (r:Vals [x,y] us):∃u w',us=[u,w']/\RelV x u/\RelV y w':=by
 cases r with
 |cons O F =>
  cases F with
  |cons j I=>cases I;exact⟨_,_,rfl,O,j⟩
theorem Zq4 (hc:X.calm=true):Cw X (.builtin "max") (λxs H Q=>∃i j,xs=[.int i,.int j]/\Q (.int (if j > i then j else i)) H):=by
 intro pins s σ H xs O Q I r h;obtain⟨i,j,rfl,q⟩:=h;obtain⟨u,Y,rfl,⟨t,rfl⟩,⟨U,rfl⟩⟩:=Zsg r;refine max_two_ints (I.ok.hd hc) λh' tk k=>⟨_,H,I.kept k,?_,q⟩;by_cases F:j > i
 ·rw[if_pos F,if_pos F];exact⟨_,rfl⟩
 ·rw[if_neg F,if_neg F];exact⟨_,rfl⟩
theorem Zku:Cw X (.type "int") (λxs H Q=>(∃i,xs=[.int i]/\Q (.int i) H)\/∃k,xs=[.bl k]/\Q (.int (if k then 1 else 0)) H):=by
 intro pins s σ H xs F Q I r h;rcases h with⟨i,rfl,q⟩|⟨k,rfl,q⟩
 ·obtain⟨u,rfl,t,rfl⟩:=Hj r;exact call_int_int ⟨.int i,H,I,⟨_,rfl⟩,q⟩
 ·obtain⟨u,rfl,j⟩:=Hj r;cases j;exact call_int_bool ⟨.int (if k then 1 else 0),H,I.tok _,⟨_,rfl⟩,q⟩
theorem Zux:Cw X (.type "str") (λxs H Q=>∃i,xs=[.int i]/\i.natAbs.log2<1920/\Q (.str (toString i)) H):=by
 intro pins s σ H xs F Q I r h;obtain⟨i,rfl,j,q⟩:=h;obtain⟨u,rfl,t,rfl⟩:=Hj r;exact PySem.P.str_of_int j ⟨.str _,H,I.tok _,⟨_,rfl⟩,q⟩
def LenV (K:Pg)(x:V)(H:Hp)(n:Nat):Prop :=
 match x with
 |.str y=>y.length<=sizeLine/\n=y.length
 |.byt y=>y.size<=sizeLine/\n=y.size
 |.ref p=>(∃xs,SqL K H p xs/\n=xs.length)\/∃xs,SqT K H p xs/\n=xs.length
 |_=>False
theorem Znp:Cw X (.builtin "len") (λxs H Q=>∃x n,xs=[x]/\LenV X.K x H n/\Q (.int n) H):=by
 intro pins s σ H xs us Q I r h;obtain⟨x,n,rfl,e,q⟩:=h;obtain⟨u,rfl,U⟩:=Hj r;have hl:=Jw;have hs:sizeLine=16777216:=Vy;cases x with
 |str y =>
  obtain⟨t,rfl⟩:=U;obtain⟨hy,F⟩:y.length<=sizeLine/\n=y.length:=e;subst F;exact len_str (by lia) ⟨.int _,H,I.tok _,⟨_,rfl⟩,q⟩
 |byt y =>
  obtain⟨t,rfl⟩:=U;obtain⟨hy,F⟩:y.size<=sizeLine/\n=y.size:=e;subst F;exact PySem.W.len_bytes (by lia) ⟨.int _,H,I.tok _,⟨_,rfl⟩,q⟩
 |ref p =>
  cases U;have F:(∃xs,SqL X.K H p xs/\n=xs.length)\/∃xs,SqT X.K H p xs/\n=xs.length:=e;rcases F with⟨xs,Y,F⟩|⟨xs,Y,F⟩
  ·subst F;obtain⟨Z,O,pl,hz⟩:=I.list Y;have j:=O.length;exact Calls.call_len_list pl.isList (by simp only[Pl];lia) ⟨.int xs.length,H,I.tok _,⟨_,by simp only[Pl];rw[j]⟩,q⟩
  ·subst F;obtain⟨Z,O,pl,hz⟩:=I.tuple Y;have j:=O.length;exact len_tuple pl (by simp only[Pl];lia) ⟨.int xs.length,H,I.tok _,⟨_,by simp only[Pl];rw[j]⟩,q⟩
 |_=>exact(show False from e).elim
end
structure ObjM (h:Heap)(x dx C:Addr)(mA:Str->Option Value):Prop where
 obj:h.get? x=some (R9 C dx)
 ns:h.Ns1 dx mA
 ne:dx≠x
theorem Zou {h:Heap}{dx:Addr}{mA:Str->Option Value}(n:h.Ns1 dx mA):∃od,h.get? dx=some od/\∀name,Vl name od=some (mA name):=by
 obtain⟨o,es,Z,O,hd,I,_,U⟩:=n;refine⟨o,O,λname=>?_⟩;have e:=U name;unfold nsFind findBy at e;rw[<- Array.find?_toList]at e;unfold Vl;rw[hd];dsimp only;split
 ·rename_i y q;rw[q]at e;exact congrArg some e
 ·rename_i q;rw[q]at e;have a:es.toList.any (·.refKey)=false:=by
   rw[List.any_eq_false];intro y Y;obtain⟨z,t,j⟩:=I y (Array.mem_toList_iff.mp Y);simp[DictEntry.refKey,j]
  have F:¬es.toList.any (·.refKey)=true:=by rw[a];exact Pu
  rw[if_neg F];exact congrArg some e
theorem ObjM.look (I:ObjM h x dx C mA):∃od,PySem.W.InstAt h x (R9 C dx) C (some od)/\∀name,Vl name od=some (mA name) :=
 let ⟨od,ho,hl⟩:=Zou I.ns
 ⟨od,⟨I.obj,rfl,rfl,ho⟩,hl⟩
section
variable {prog:Program}{w:World}{A:Around}{E:Value->Shared->Prop}{s:Shared}{K:Pg}{x dx C f:Addr}{mA:Str->Option Value}{name:Str}{v:Value}
theorem Zu6 (X:K.In s.heap)(I:ObjM s.heap x dx C mA)(hg:T7 K C name=true)(hh:U6 K C=true)(ha:Qj K (.ref C) name=some none)(hv:mA name=some v)(hv':PySem.W.handedIn v=true)(h:Q v { s with toks:=s.toks+1 }) :
  wpAny (model prog w) A (getAttr (.ref x) name expr) Q E s:=by
 obtain⟨od,J,j⟩:=I.look;exact PySem.W.get_value X J (Wc hg).1 (PySem.W.findObj_own hh ha rfl (by rw[j,hv])) hv' h
theorem Zrt (X:K.In s.heap)(I:ObjM s.heap x dx C mA)(hg:T7 K C name=true)(hf:Qj K (.ref C) name=some (some (.ref f)))(ht:Vs K (.ref f)=true)(hv:mA name=none)(h:Q (.ref f,[.ref x]) s) :
  wpAny (model prog w) A (getMethod (.ref x) name pl) Q E s:=by
 obtain⟨od,J,j⟩:=I.look;exact PySem.W.method_fn X J (Wc hg).1 (Wc hg).2 hf (beq_iff_eq.mp ht) (by show(Vl name od).map (·.isSome)=some false;rw[j,hv];rfl) h
theorem Zsz (X:K.In s.heap)(I:ObjM s.heap x dx C mA)(hs:Qj K (.ref C) "__setattr__"=some (some (.builtin "object.__setattr__")))(hp:Wg K C=true)(ht:Wp K C name=some none)(hh:U6 K C=true)(hw:Vr mA ns)(hsz:ns.length<=sizeLine)(h:∀h',ObjM h' x dx C (λy=>if y=name then some v else mA y)->P4 dx s.heap h'->Q () { s with heap:=h',toks:=s.toks+2 }) :
  wpAny (model prog w) A (setAttr (.ref x) name v) Q E s:=by
 obtain⟨od,J,hl⟩:=I.look;refine PySem.W.set_plain X J hs (PySem.W.osa_open (s:={ s with toks:=s.toks+1 }) (r:=none) X J hp ht λb=>?_);obtain⟨cd,hc,Z⟩:=PySem.W.any_some hh;have hx:s.heap.get? x=some ⟨.ref C,some dx,.plain,#[]⟩:=I.obj;refine Ph (Pi (Ph (Ph (wpAny_loadPart hx (Ph (Uf.here (s:={ s with toks:=s.toks+1 }) (PySem.W.looks_clsIn X hc) ?_))))));rw[Z];refine Pi (a:=some dx) (Ph (Pi (Ph ?_)));refine wpAny_nsSet1 (s:={ s with toks:=s.toks+1 }) I.ns λh' F j=>?_;obtain⟨oD,ac,aa,Y,O,U⟩:=F.count (Vr.cons name v hw);refine Ph (wpAny_lookBehind Y (by rw[O];exact pastItsLine_dict (Qg U (by rw[Qc];lia))) ?_);exact Pi (h _ ⟨(j.2 _ (Ps I.ne)).trans I.obj,F,I.ne⟩ j)
theorem Zt9 (X:K.In s.heap)(hm:Wq K C=true)(hi:Qj K (.ref C) "__init__"=some (some (.ref f)))(hf:PySem.W.typeIn K (.ref f)=some (.type "function"))(h:codeAny (model prog w) (A.under (.builtin "type.__call__" ⟨.ref C::vs,kw⟩)) (.call (.ref f) ⟨.ref (s.heap.objs.size+1)::vs,kw⟩) (PySem.W.InitBack (s.heap.objs.size+1) R)
   { s with heap:=(s.heap.push Rv).push (R9 C s.heap.objs.size) }) :
  codeAny (model prog w) A (.call (.ref C) ⟨vs,kw⟩) R s:=by
 obtain⟨j,g,d,t,os⟩:=s;exact PySem.W.make_core (PySem.W.makes_of X hm) (PySem.W.looks_findIn X hi) (λself=>PySem.W.bind_fn X self hf) (.inl rfl) h
end
noncomputable def Aj (f:Str)(v:V):List (Str×V)->List (Str×V)
 |[]=>[(f,v)]
 |(g,x)::r=>if g=f then (g,v)::r else (g,x)::Aj f v r
theorem Zib (f g:Str)(v:V):∀fs:List (Str×V),(Aj f v fs).lookup g=if g=f then some v else fs.lookup g
 |[]=>by
  show Rz g [(f,v)]=_;by_cases h:g=f
  ·have j:(g == f)=true:=beq_iff_eq.mpr h;simp only[Rz,j,if_pos h]
  ·have j:(g == f)=false:=beq_eq_false_iff_ne.mpr h;simp only[Rz,j,if_neg h]
 |(k,x)::r=>by
  have I:=Zib f g v r;rw[show Aj f v ((k,x)::r)=(if k=f then (k,v)::r else (k,x)::Aj f v r) from rfl];by_cases F:k=f
  ·rw[if_pos F];by_cases h:g=k
   ·have j:(g == k)=true:=beq_iff_eq.mpr h;simp only[Rz,j,if_pos (h.trans F)]
   ·have j:(g == k)=false:=beq_eq_false_iff_ne.mpr h;simp only[Rz,j,if_neg (λe:g=f=>h (e.trans F.symm))]
  ·rw[if_neg F];by_cases h:g=k
   ·have j:(g == k)=true:=beq_iff_eq.mpr h;simp only[Rz,j,if_neg (λe:g=f=>F (h.symm.trans e))]
   ·have j:(g == k)=false:=beq_eq_false_iff_ne.mpr h;simp only[Rz,j];exact I
theorem Zax (f:Str)(v:V):∀fs:List (Str×V),f∈(Aj f v fs).map (·.1)/\∀g,g∈fs.map (·.1)->g∈(Aj f v fs).map (·.1)
 |[]=>⟨by simp[Aj],λg h=>by simp at h⟩
 |(k,x)::r=>by
  obtain⟨i1,i2⟩:=Zax f v r;rw[show Aj f v ((k,x)::r)=(if k=f then (k,v)::r else (k,x)::Aj f v r) from rfl];by_cases j:k=f
  ·rw[if_pos j];subst j;exact⟨by simp,λg h=>by simpa using h⟩
  ·rw[if_neg j];refine⟨?_,λg h=>?_⟩
   ·rw[Qs];exact Rt _ i1
   ·rw[Qs]at h ⊢;rcases Po.mp h with e|e
    ·exact Po.mpr (.inl e)
    ·exact Rt _ (i2 g e)
theorem Zf6 (f:Str)(v:V):∀fs:List (Str×V),(Aj f v fs).length<=fs.length+1
 |[]=>by simp[Aj]
 |(k,x)::r=>by
  have F:=Zf6 f v r;rw[show Aj f v ((k,x)::r)=(if k=f then (k,v)::r else (k,x)::Aj f v r) from rfl];by_cases j:k=f
  ·rw[if_pos j,Qc,Qc];lia
  ·rw[if_neg j,Qc,Qc];lia
theorem RelO.some_of (r:RelO (some v) o):∃u,o=some u/\RelV v u:=by
 cases o with
 |none=>exact(show False from r).elim
 |some u=>exact⟨u,rfl,r⟩
theorem RelO.none_of (r:RelO none o):o=none:=by
 cases o with
 |none=>rfl
 |some u=>exact(show False from r).elim
theorem Zlh (r:RelV v u):PySem.W.handedIn u=true:=by
 cases v with
 |non=>cases (show u=Value.none from r);rfl
 |bl b=>cases (show u=Value.bool b from r);rfl
 |int i=>obtain⟨t,e⟩:=(show ∃t,u=Value.int i t from r);cases e;rfl
 |str x=>obtain⟨t,e⟩:=(show ∃t,u=Value.str x t from r);cases e;rfl
 |byt b=>obtain⟨t,e⟩:=(show ∃t,u=Value.bytes b t from r);cases e;rfl
 |flt b=>obtain⟨t,e⟩:=(show ∃t,u=Value.float b t from r);cases e;rfl
 |ref a=>cases (show u=Value.ref a from r);rfl
 |ty n=>cases (show u=Value.type n from r);rfl
section
variable {P:Program}{w:World}{H H':Hp}{h h':Heap}{a C dx:Addr}{fs fs':List (Str×V)}
theorem Np (hok:HOk P w H h)(e:H a=some (.ins C dx fs)):∃mA,ObjM h a dx C mA/\(∀f,RelO (fs.lookup f) (mA f))/\Vr mA (fs.map (·.1))/\fs.length<=1000/\H dx=some (.own a):=by
 obtain⟨d,z,ne,j,mA,n,r,q⟩:=(show ObjOk P w H h a (.ins C dx fs) from hok a _ e);exact⟨mA,⟨j,n,ne⟩,r,q,z,d⟩
end
structure Cls (K:Pg)(C:Addr):Prop where
 pg:T7 K C Str.empty=true
 hd:U6 K C=true
 po:Wg K C=true
 sa:Qj K (.ref C) "__setattr__"=some (some (.builtin "object.__setattr__"))
theorem Cls.get {K:Pg}{C:Addr}(c:Cls K C)(f:Str):T7 K C f=true:=c.pg
def NoAttr (K:Pg)(C:Addr)(f:Str):Prop:=Qj K (.ref C) f=some none
theorem NoAttr.taker {K:Pg}{C:Addr}{f:Str}(n:NoAttr K C f):Wp K C f=some none:=by
 unfold Wp;rw[show Qj K (.ref C) f=some none from n];rfl
structure Meth (K:Pg)(C:Addr)(m:Str)(f:Addr):Prop where
 at_:Qj K (.ref C) m=some (some (.ref f))
 fn:Vs K (.ref f)=true
 kp:Rm K (.ref f)=true
section
variable {X:Cx}{pins:List (Addr×Obj)}{σ:St}{H:Hp}{s:Shared}{a C dx:Addr}{fs:List (Str×V)}{f:Str}{v:V}{A:Around}{E:Value->Shared->Prop}
theorem Zdw (I:Inv X pins σ H s)(e:H a=some (.ins C dx fs))(c:Cls X.K C)(n:NoAttr X.K C f)(l:fs.lookup f=some v)(h:∀u s',Inv X pins σ H s'->RelV v u->Q u s'):wpAny (model X.prog X.w) A (getAttr (.ref a) f b) Q E s:=by
 obtain⟨mA,O,r,_,_,_⟩:=Np I.hok e;obtain⟨u,F,j⟩:=RelO.some_of (v:=v) (o:=mA f) (by rw[<- l];exact r f);exact Zu6 I.kIn O (c.get f) c.hd n F (Zlh j) (h u _ (I.tok _) j)
theorem Zds (I:Inv X pins σ H s)(e:H a=some (.ins C dx fs))(c:Cls X.K C)(k:Meth X.K C m g)(l:fs.lookup m=none)(h:Q (.ref g,[.ref a]) s):wpAny (model X.prog X.w) A (getMethod (.ref a) m pl) Q E s:=by
 obtain⟨mA,O,r,_,_,_⟩:=Np I.hok e;have j:mA m=none:=RelO.none_of (by rw[<- l];exact r m);exact Zrt I.kIn O (c.get m) k.at_ k.fn j h
theorem Zfh (I:Inv X pins σ H s)(e:H a=some (.ins C dx fs))(c:Cls X.K C)(n:NoAttr X.K C f)(hl:fs.length<1000)(ry:RelV y u)(h:∀s',Inv X pins σ (upd H a (.ins C dx (Aj f y fs))) s'->Q () s'):wpAny (model X.prog X.w) A (setAttr (.ref a) f u) Q E s:=by
 obtain⟨mA,O,r,wi,_,F⟩:=Np I.hok e;have hz:(fs.map (·.1)).length<=sizeLine:=by rw[Pp,Vy];lia
 refine Zsz I.kIn O c.sa c.po n.taker c.hd wi hz λh' j Y=>h _ ?_;have hd:∃o,h'.get? dx=some o:=let ⟨o,_,_,e',_⟩:=j.ns;⟨o,e'⟩;refine I.write (x:=a) (e:=dx) (by rw[e];exact True.intro) (.inr F) (λb q U z=>(Y.2 b U).trans z) hd ?_;refine⟨by rw[Ag O.ne];exact F,?_,O.ne,j.obj,_,j.ns,λg=>?_,λg Z=>?_⟩
 ·have:=Zf6 f y fs;lia
 ·show RelO ((Aj f y fs).lookup g) (if g=f then some u else mA g);rw[Zib];by_cases q:g=f
  ·rw[if_pos q,if_pos q];exact ry
  ·rw[if_neg q,if_neg q];exact r g
 ·by_cases q:g=f
  ·rw[q];exact(Zax f y fs).1
  ·refine(Zax f y fs).2 g (wi g λz=>Z ?_);show(if g=f then some u else mA g)=none;rw[if_neg q];exact z
theorem Inv.made (I:Inv X pins σ H s):Inv X pins σ (upd (upd H s.heap.objs.size (.own (s.heap.objs.size+1))) (s.heap.objs.size+1) (.ins C s.heap.objs.size []))
  { s with heap:=(s.heap.push Rv).push (R9 C s.heap.objs.size) }:=by
 have j:(s.heap.push Rv).get? s.heap.objs.size=some Rv:=P3 s.heap rfl;have F:((s.heap.push Rv).push (R9 C s.heap.objs.size)).get? (s.heap.objs.size+1)=some (R9 C s.heap.objs.size):=by
  have:=P3 (s.heap.push Rv) (o:=R9 C s.heap.objs.size) rfl;rwa[Qq]at this
 have Y:(s.heap.push Rv).Ns s.heap.objs.size (λ_=>none):=⟨Rv,#[],_,j,rfl,(λe O=>absurd O (by simp)),λ_=>rfl⟩;have Z:=I.laid (a:=s.heap.objs.size) (o:=.own (s.heap.objs.size+1)) (h':=s.heap.push Rv) (t':=s.toks) (λb u q=>Pm _ q) (Pj _) ⟨_,j⟩;refine Z.laid (a:=s.heap.objs.size+1) (o:=.ins C s.heap.objs.size []) (t':=s.toks) (λb u q=>Pm _ q) (Nat.le_of_eq (Qq _ _)) ?_;have ne:s.heap.objs.size≠s.heap.objs.size+1:=P0 (U9 _);refine⟨by rw[Ag ne,Ae],Qk _,ne,F,λ_=>none,(Heap.Ns1.of_empty Y).at λo q=>Pm _ q,λ_=>True.intro,λy U=>absurd rfl U⟩
theorem Zqq (hb:attributeBase e f env (eval e env)=eval e env)(h:wpAny (model prog w) A (eval e env) (λo s₁=>wpAny (model prog w) A (getAttr o f true) Q E s₁) E s):wpAny (model prog w) A (eval (.Attribute e f pos) env) Q E s :=
 Attribute_any_ h (by rw[arm_eval_Attribute,hb])
end
def Zae (K:Pg)(ta:TE)(f:Str):TE:=λσ H Q=>ta σ H λx H1=>eX5 λa C dx fs v=>x=.ref a/\H1 a=some (.ins C dx fs)/\Cls K C/\NoAttr K C f/\fs.lookup f=some v/\Q v H1
def Ng (K:Pg)(ta tv:TE)(f:Str):TS:=λD σ H=>tv σ H λy H1=>ta σ H1 λx H2=>eX4 λa C dx fs=>x=.ref a/\H2 a=some (.ins C dx fs)/\Cls K C/\NoAttr K C f/\fs.length<1000 /\
 D.nx σ (upd H2 a (.ins C dx (Aj f y fs)))
def Zba (X:Cx)(op:Operator)(rd:V->V->Hp->VK->Prop):Prop :=
 ∀(pins:List (Addr×Obj))(s:Shared)(σ:St)(H:Hp)(x y:V)(u v:Value)(Q:VK),Inv X pins σ H s->RelV x u->RelV y v->rd x y H Q->wpAny (model X.prog X.w) X.A (inplaceOp op u v) (EP X pins σ Q) X.xe s
def Zhg (K:Pg)(ta tv:TE)(rd:V->V->Hp->VK->Prop)(f:Str):TS:=λD σ H=>ta σ H λx H1=>eX5 λa C dx fs v=>x=.ref a/\H1 a=some (.ins C dx fs)/\Cls K C/\NoAttr K C f/\fs.lookup f=some v /\
 tv σ H1 λy H2=>rd v y H2 λz j=>∃dx' fs',j a=some (.ins C dx' fs')/\fs'.length<1000/\D.nx σ (upd j a (.ins C dx' (Aj f z fs')))
section
variable {X:Cx}{o e value:Expr}{f:Str}{pos pos' tpos:Pos}{ta tv:TE}
theorem Zr6 (ha:PE X o ta)(hv:PE X value tv)(hop:Zba X op rd):PS X (.AugAssign (.Attribute o f tpos) op value pos) (Zhg X.K ta tv rd f):=by
 intro pins s σ H D I h;refine wpAny_AugAssign_AttributeAny (Ak (ha pins s σ H _ I h) λov s1 j=>?_);obtain⟨x,H1,I1,Y,a,C,dx,fs,v,ex,ea,c,n,l,q⟩:=j;subst ex;obtain rfl:ov=Value.ref a:=Y;refine Zdw I1 ea c n l λu s2 I2 ru=>Ak (hv pins s2 σ H1 _ I2 q) λw3 s3 j=>?_;obtain⟨y,H2,I3,O,q3⟩:=j;refine Ak (hop pins s3 σ H2 v y u w3 _ I3 ru O q3) λw4 s4 j=>?_;obtain⟨z,H3,I4,Z,aa,fs',F,l',U⟩:=j;exact Zfh I4 F c n l' Z λs5 I5=>⟨σ,_,I5,U⟩
def rAdd:V->V->Hp->VK->Prop:=λx y H Q=>∃i j,x=.int i/\y=.int j/\Q (.int (i+j)) H
theorem Zhl:Zba X .Add rAdd:=by
 rintro pins s σ H x y u v Q I U O ⟨i,j,rfl,rfl,q⟩;obtain⟨t,rfl⟩:=(show ∃t,u=Value.int i t from U);obtain⟨F,rfl⟩:=(show ∃F,v=Value.int j F from O);exact PyProof.Rows.iadd_int ⟨.int (i+j),H,I.tok _,⟨_,rfl⟩,q⟩
end
section
variable {X:Cx}{pins:List (Addr×Obj)}{σ:St}{H:Hp}{s:Shared}{A:Around}{E:Value->Shared->Prop}{Q:Value->Shared->Prop}{c:Value}{b:Bool}
inductive Du (K:Pg)(H:Hp):V->Value->Prop where
 |non:Du K H .non (.type "NoneType")
 |bl (x:Bool):Du K H (.bl x) (.type "bool")
 |int (i:Int):Du K H (.int i) (.type "int")
 |str (x:Str):Du K H (.str x) (.type "str")
 |flt (x:UInt64):Du K H (.flt x) (.type "float")
 |lst {a:Addr} {xs:List V} (e:H a=some (.lst xs)):Du K H (.ref a) (.type "list")
 |frz {a:Addr} {o:Obj} {xs:List V} (e:H a=some (.frz o (.lst xs))):Du K H (.ref a) (.type "list")
 |tup {a:Addr} {xs:List V} (e:H a=some (.tup xs)):Du K H (.ref a) (.type "tuple")
 |dK {a:Addr} {kvs:List (Au×V)} (e:H a=some (.dK kvs)):Du K H (.ref a) (.type "dict")
 |dT {a:Addr} {kvs:List (List Au×V)} (e:H a=some (.dT kvs)):Du K H (.ref a) (.type "dict")
 |ins {a C dx:Addr} {fs:List (Str×V)} (e:H a=some (.ins C dx fs)) (cl:Cls K C) (ha:Qj K (.ref C) "__class__"=some (some (.builtin "object.__class__")))
   (hn:PySem.W.specialIn K (.builtin "object.__class__") "__get__"=some (some (.builtin "getset_descriptor.__get__"))) (htk:PySem.W.takesIn K (.builtin "object.__class__")=some true)
   (hm:PySem.W.mroIn K C (.type "object")=some true):Du K H (.ref a) (.ref C)
theorem Zi6 (I:Inv X pins σ H s)(rx:RelV x u)(ty:Du X.K H x t)(e:Rn X.K t c=some b)(h:∀tk,Q (.bool b) { s with toks:=tk }) :
  wpAny (model X.prog X.w) A (call (.builtin "isinstance") [u,c]) Q E s:=by
 cases ty with
 |non=>cases (show u=Value.none from rx);exact Qz PySem.W.kitx_none I.kIn True.intro e (λz=>nomatch z) h
 |bl y=>cases (show u=Value.bool y from rx);exact Qz PySem.W.kitx_bool I.kIn True.intro e (λz=>nomatch z) h
 |int i=>obtain⟨t,q⟩:=(show ∃t,u=Value.int i t from rx);cases q;exact Qz PySem.W.kitx_int I.kIn True.intro e (λz=>nomatch z) h
 |str y=>obtain⟨t,q⟩:=(show ∃t,u=Value.str y t from rx);cases q;exact Qz PySem.W.kitx_str I.kIn True.intro e (λz=>nomatch z) h
 |flt y=>obtain⟨t,q⟩:=(show ∃t,u=Value.float y t from rx);cases q;exact Qz PySem.W.kitx_float I.kIn True.intro e (λz=>nomatch z) h
 | @lst a xs j =>
  cases (show u=Value.ref a from rx);obtain⟨_,_,n,_,h1⟩:=(show ObjOk X.prog X.w H s.heap a (.lst xs) from I.hok a _ j);exact Qz Wh I.kIn ⟨_,h1,rfl⟩ e (λz=>nomatch z) h
 | @frz a Z xs j =>
  cases (show u=Value.ref a from rx);obtain⟨_,_,_,n,_,h1⟩:=(show ObjOk X.prog X.w H s.heap a (.frz Z (.lst xs)) from I.hok a _ j);exact Qz Wh I.kIn ⟨_,h1,rfl⟩ e (λz=>nomatch z) h
 | @tup a xs j =>
  cases (show u=Value.ref a from rx);obtain⟨_,_,_,p⟩:=(show ObjOk X.prog X.w H s.heap a (.tup xs) from I.hok a _ j);obtain⟨o,h1,h2,_⟩:=p;exact Qz PySem.W.kitx_tuple I.kIn ⟨o,h1,h2⟩ e (λz=>nomatch z) h
 | @dK a kvs j =>
  cases (show u=Value.ref a from rx);obtain⟨_,_,vs,_,p⟩:=(show ObjOk X.prog X.w H s.heap a (.dK kvs) from I.hok a _ j);obtain⟨o,es,ep,h1,h2,_⟩:=p;exact Qz PySem.W.kitx_dict I.kIn ⟨o,h1,h2.1⟩ e (λz=>nomatch z) h
 | @dT a kvs j =>
  cases (show u=Value.ref a from rx);obtain⟨_,_,xs,_,o,es,ep,h1,h2,_⟩:=(show ObjOk X.prog X.w H s.heap a (.dT kvs) from I.hok a _ j);exact Qz PySem.W.kitx_dict I.kIn ⟨o,h1,h2.1⟩ e (λz=>nomatch z) h
 | @ins a C dx fs j cl U Y F hm =>
  cases (show u=Value.ref a from rx);obtain⟨mA,O,_⟩:=Np I.hok j;obtain⟨od,J,_⟩:=O.look;exact Qz (PySem.W.kitx_own (cl.get _) cl.hd U Y F hm) I.kIn J e (λz=>nomatch z) h
end
structure Room (k:Nat)(A:Around):Prop where
 hd:A.handled=none
 dp:A.depth+3*k+5<recursionLimit
 un:A.units+16*k+200<cLine
theorem Room.mono (r:Room k A)(h:j<=k):Room j A:=⟨r.hd,by have:=r.dp;lia,by have:=r.un;lia⟩
theorem Room.deeper (r:Room (k+1) A)(env:Env):Room k (A.deeper env) :=
 ⟨r.hd,by have:=r.dp;show A.depth+1+3*k+5<_;lia,by have:=r.un;show A.units+3+16*k+200<_;lia⟩
theorem Zn9 {A:Around}{C:Addr}{us:List Value}{kw:List (Str×Value)}:(A.under (.builtin "type.__call__" ⟨.ref C::us,kw⟩)).depth=A.depth+1:=by
 first|rfl|simp[Around.under,Code.weight,Code.isCreation,Code.isGuard,Code.isCaller,Code.frames,Code.isFrame,guardIds]
theorem Zsx {A:Around}{C:Addr}{us:List Value}{kw:List (Str×Value)}:(A.under (.builtin "type.__call__" ⟨.ref C::us,kw⟩)).units=A.units+1:=by
 first|rfl|simp[Around.under,Code.cUnits,Code.frames,Code.isFrame]
theorem Room.make (r:Room (k+1) A)(C:Addr)(us:List Value)(kw:List (Str×Value)):Room k (A.under (.builtin "type.__call__" ⟨.ref C::us,kw⟩)) :=
 ⟨r.hd,by have:=r.dp;rw[Zn9];lia,by have:=r.un;rw[Zsx];lia⟩
theorem Room.depth (r:Room k A):A.depth<recursionLimit:=by have:=r.dp;lia
def J1:TA:=λ_ H Q=>Q [] H
def Zbk (ta:TE)(tr:TA):TA:=λσ H Q=>ta σ H λx H1=>tr σ H1 λxs H2=>Q (x::xs) H2
section
variable {X:Cx}{e:Expr}{es:List Expr}{te:TE}{t:TA}{pos:Pos}
theorem Zfr:PA X [] J1:=λ_ _ _ _ H Q I h=>Wi ⟨[],H,I,.nil,h⟩
theorem Zey (ha:PE X e te)(hr:PA X es t)(hs:autoParam (starEach (e::es) X.env=(false,eval e X.env)::starEach es X.env) zX):PA X (e::es) (Zbk te t):=by
 intro pos pins s σ H Q I h;rw[hs];show wpAny _ _ (spliced ((false,eval e X.env)::backTo pos (starEach es X.env))) _ _ s;refine Wd (Ak (ha pins s σ H _ I h) λu Z F=>?_);obtain⟨x,H1,U,O,j⟩:=F;exact Ak (hr pos pins Z σ H1 _ U j) λus s2 ⟨xs,H2,I2,r2,Y⟩=>⟨x::xs,H2,I2,.cons O r2,Y⟩
def Ov (t:TA):TE:=λσ H Q=>t σ H λxs H1=>xs.length<=sizeLine/\∀p,H1 p=none->Q (.ref p) (upd H1 p (.tup xs))
def Zaj (t:TA):TE:=λσ H Q=>t σ H λxs H1=>xs.length<=sizeLine/\∀p,H1 p=none->Q (.ref p) (upd H1 p (.lst xs))
end
noncomputable abbrev Sp:=List V->Hp->VK->XK->Prop
noncomputable abbrev Cq:=List Env->Hp->Shared->XK->Value->Shared->Prop
structure Env0 (P:Program)(w:World)(K:Pg)(mg:Str->Option Value)(base:Heap)(A:Around)(outer:List Env)(s:Shared)(H:Hp):Prop where
 frames:A.frames=some outer
 mod:Mod K mg base
 bs:∀b o,base.get? b=some o->s.heap.get? b=some o/\H b=none
 bsz:base.objs.size<=s.heap.objs.size
 funs:s.heap.FunFrames base outer
 frf:∀b∈Bz outer,H b=none
 hok:HOk P w H s.heap
 bare:AllBare s.gens
def CE (outer:List Env)(P:Program)(w:World)(H:Hp)(s:Shared)(Q:VK)(u:Value)(s':Shared):Prop :=
 ∃v H',s'.os=s.os/\AllBare s'.gens/\Un (Bz outer) [] H H' s.heap s'.heap/\HOk P w H' s'.heap/\RelV v u/\Q v H'
def CR (CX:Cq)(outer:List Env)(P:Program)(w:World)(H:Hp)(s:Shared)(Q:VK)(E:XK)(r:Result)(s':Shared):Prop :=
 match r with
 |.ok (.ret u)=>CE outer P w H s Q u s'
 |.ok _=>False
 |.error e=>CX outer H s E e s'
structure FnOk (P:Program)(w:World)(K:Pg)(mg:Str->Option Value)(base:Heap)(CX:Cq)(k:Nat)(f:Addr)(fd:FuncData)(ps:List Str)(sp:Sp):Prop where
 len:∀vs H Q E,sp vs H Q E->vs.length=ps.length
 run:∀(A:Around)(outer:List Env)(s:Shared)(H:Hp)(args:Args)(us:List Value)(vs:List V)(Q:VK)(E:XK),Room k A->Env0 P w K mg base A outer s H->BindsTo s fd args (ps.zip us)->Vals vs us->sp vs H Q E ->
  codeAny (model P w) A (.call (.ref f) args) (CR CX outer P w H s Q E) s
theorem FnOk.imp {P:Program}{w:World}{K:Pg}{mg:Str->Option Value}{base:Heap}{CX:Cq}{k:Nat}{f:Addr}{fd:FuncData}{ps:List Str}{sp sp':Sp}(F:FnOk P w K mg base CX k f fd ps sp)
  (h:∀vs H Q E,sp' vs H Q E->sp vs H Q E):FnOk P w K mg base CX k f fd ps sp' :=
 ⟨λvs H Q E q=>F.len vs H Q E (h _ _ _ _ q),λA outer s H j O vs Q E U Y I Z hs=>F.run A outer s H j O vs Q E U Y I Z (h _ _ _ _ hs)⟩
theorem Env0.make {P:Program}{w:World}{K:Pg}{mg:Str->Option Value}{base:Heap}{A:Around}{outer:List Env}{s:Shared}{H:Hp}(e:Env0 P w K mg base A outer s H)(C:Addr)(us:List Value)(kw:List (Str×Value)) :
  Env0 P w K mg base (A.under (.builtin "type.__call__" ⟨.ref C::us,kw⟩)) outer s H:=⟨by first|exact e.frames|(simpa [Around.under,Code.envs,Code.isFrame,pushEnvs] using e.frames),e.mod,e.bs,e.bsz,e.funs,e.frf,e.hok,e.bare⟩
section
variable {X:Cx}{pins:List (Addr×Obj)}{σ:St}{H:Hp}{s s':Shared}
theorem Inv.env0 (I:Inv X pins σ H s):Env0 X.prog X.w X.K X.mg X.base X.A X.stack s H :=
 ⟨I.ok.frames,I.ok.mod,I.bs,Qg I.ok.bsz I.sz,I.stack,I.stkFree,I.hok,I.bare⟩
theorem Inv.after (I:Inv X pins σ H s)(h:CE X.stack X.prog X.w H s Q u s'):EP X pins σ Q u s':=by
 obtain⟨v,H',os,bare,un,hok,r,q⟩:=h;obtain⟨F,g,d,t,j⟩:=s';obtain rfl:j=s.os:=os;exact⟨v,H',I.call (h':=F) (g':=g) (d':=d) (t':=t) (ch:=[]) un hok bare (λb z=>absurd z (by simp)),r,q⟩
end
def Km (sp:Sp)(dvs:List V)(E:XK)(t:TA):TE:=λσ H Q=>t σ H λvs H1=>sp (vs++dvs) H1 Q E
def Binds (K:Pg)(fd:FuncData)(ps:List Str)(ds:List Value):Prop :=
 ∀(s:Shared)(us:List Value),K.In s.heap->(us++ds).length=ps.length->BindsTo s fd ⟨us,[]⟩ (ps.zip (us++ds))
theorem Binds.all {K:Pg}{fd:FuncData}{ps:List Str}(h:∀us:List Value,us.length=ps.length->bindArgs fd ⟨us,[]⟩=pure (ps.zip us)):Binds K fd ps []:=λs us _ j=>by
 rw[Q0]at j ⊢;exact .of_eq (h us j)
def F6 (CX:Cq)(X:Cx)(E:XK):Prop:=∀(pins:List (Addr×Obj))(σ:St)(H:Hp)(s:Shared)(e:Value)(s':Shared),Inv X pins σ H s->CX X.stack H s E e s'->X.xe e s'
section
variable {X:Cx}{CX:Cq}{k:Nat}{f C:Addr}{fd:FuncData}{ps:List Str}{sp:Sp}{dvs:List V}{ds:List Value}{E:XK}{x m:Str}{p pos apos:Pos}{e o:Expr}{es:List Expr}{ta:TE}{t:TA}
theorem Pf (F:FnOk X.prog X.w X.K X.mg X.base CX k f fd ps sp)(hr:Room k X.A)(hb:Binds X.K fd ps ds)(hd:Vals dvs ds)(hx:F6 CX X E)(I:Inv X pins σ H s)(r:Vals vs us)(h:sp (vs++dvs) H Q E):wpAny (model X.prog X.w) X.A (call (.ref f) us) (EP X pins σ Q) X.xe s:=by
 have O:Vals (vs++dvs) (us++ds):=r.append hd;have U:(us++ds).length=ps.length:=by rw[<- O.length];exact F.len _ _ _ _ h
 refine wpAny_call (Te (F.run X.A X.stack s H ⟨us,[]⟩ (us++ds) (vs++dvs) Q E hr I.env0 (hb s us I.kIn U) O h) λr s' j=>?_);cases r with
 |error e=>exact hx pins σ H s e s' I j
 |ok Y =>
  cases Y with
  |ret u=>exact I.after j
  |next=>exact Ql j
  |brk=>exact Ql j
  |cont=>exact Ql j
theorem Zh5 (F:FnOk X.prog X.w X.K X.mg X.base CX k f fd ps sp)(hr:Room k X.A)(hg:Gl X x)(hm:X.mg x=some (.ref f))(hk:Rm X.K (.ref f)=true)(hb:Binds X.K fd ps ds)(hd:Vals dvs ds)(hx:F6 CX X E)
  (ha:PA X (e::es) t) (hdb:autoParam ((x == ("__debug__":Str))=false) zW) (he:autoParam (starEach (e::es) X.env=(false,eval e X.env)::starEach es X.env) zX) (hpl:autoParam ((backTo pos (starEach es X.env)).any (·.1)=false) zX) :
  PE X (.Call (.Name x p) (e::es) [] pos) (Km sp dvs E t):=by
 intro pins s σ H Q I h;refine Tz (Jb I hg hm ?_ hdb);refine U3 (h₀:=X.base) I.ok.mod.kin hk (Ak (ha pos pins s σ H _ I h) λY U O=>?_) he hpl;obtain⟨vs,H1,j,r,q⟩:=O;refine⟨j.kIn,?_⟩;exact Pf F hr hb hd hx j r q
structure Mk (K:Pg)(C f:Addr):Prop where
 makes:Wq K C=true
 init:Qj K (.ref C) "__init__"=some (some (.ref f))
 fn:Vs K (.ref f)=true
 kp:Rm K (.ref C)=true
theorem Zlv (M:Mk X.K C f)(F:FnOk X.prog X.w X.K X.mg X.base CX k f fd ps sp)(hr:Room (k+1) X.A)(hb:Binds X.K fd ps ds)(hd:Vals dvs ds)(hx:F6 CX X E)(I:Inv X pins σ H s)(r:Vals vs us)(h:∀x dx,H x=none->H dx=none->dx≠x->sp (.ref x::(vs++dvs)) (upd (upd H dx (.own x)) x (.ins C dx [])) (λv H2=>v=.non/\Q (.ref x) H2) E) :
  wpAny (model X.prog X.w) X.A (call (.ref C) us) (EP X pins σ Q) X.xe s:=by
 have U:=h (s.heap.objs.size+1) s.heap.objs.size (I.hok.fresh (Vz _)) (I.hok.fresh (Pj _)) (P0 (U9 _));have O:=Inv.made (C:=C) I;have Y:Vals (V.ref (s.heap.objs.size+1)::(vs++dvs)) (Value.ref (s.heap.objs.size+1)::(us++ds)):=.cons rfl (r.append hd);have hl:(Value.ref (s.heap.objs.size+1)::us++ds).length=ps.length:=by
  have e:=Y.length;rw[F.len _ _ _ _ U]at e;exact e.symm
 refine wpAny_call (Zt9 (f:=f) I.kIn M.makes M.init (beq_iff_eq.mp M.fn) (Te (F.run _ X.stack _ _ ⟨Value.ref (s.heap.objs.size+1)::us,[]⟩ (Value.ref (s.heap.objs.size+1)::(us++ds)) _ _ E (hr.make C us [])
  (O.env0.make C us []) (hb _ (Value.ref (s.heap.objs.size+1)::us) O.kIn hl) Y U) λr s' j=>?_))
 cases r with
 |error e=>exact hx pins σ _ _ e s' O j
 |ok fl =>
  cases fl with
  |ret u =>
   obtain⟨v,H',Z,rv,ev,q3⟩:=O.after j;subst ev;exact⟨rv,⟨V.ref (s.heap.objs.size+1),H',Z,rfl,q3⟩⟩
  |next=>exact Ql j
  |brk=>exact Ql j
  |cont=>exact Ql j
end
section
variable {X:Cx}{CX:Cq}{k:Nat}{f C:Addr}{fd:FuncData}{ps ks:List Str}{sp:Sp}{E:XK}{x m:Str}{p pos apos kpos:Pos}{e o:Expr}{es:List Expr}{kws:List Keyword}{te ta:TE}{t tk:TA}{nm:Option Str}
variable {g:List Value->List Value->List Value}{gV:List V->List V->List V}
end
structure A9 (N P:List Str)(sc:Scope):Prop where
 kind:sc.kind=.function
 co:sc.isCoroutine=false
 gen:sc.isGenerator=false
 nd:N.Nodup
 pre:N.take P.length=P
 par:∀x∈P,sc.names.lookup x=some .local\/sc.names.lookup x=some .cell
 nofree:∀y∈sc.names,y.2≠.free
theorem Zhx {kindOf:Str->Option NameKind}{x:Str}:∀{binds:List (Str×Value)}{m:Str->Option Value},(∀v,(x,v) ∉ binds)->bindL kindOf binds m x=m x
 |[],_,_=>rfl
 |(n,v)::r,m,h=>by
  unfold bindL;rw[Zhx λw j=>h w (Rt _ j)];split
  ·have:x≠n:=by rintro rfl;exact h v Tx
   simp[this]
  ·rfl
theorem Zgx {kindOf:Str->Option NameKind}{x:Str}:∀{binds:List (Str×Value)}{m:Str->Option Value},(∀v,(x,v) ∉ binds)->bindC kindOf binds m x=m x
 |[],_,_=>rfl
 |(n,v)::r,m,h=>by
  unfold bindC;rw[Zgx λw j=>h w (Rt _ j)];split
  ·rfl
  ·have:x≠n:=by rintro rfl;exact h v Tx
   simp[this]
theorem Zfn {kindOf:Str->Option NameKind}{x:Str}{v:Value}:∀{P:List Str}{vs:List Value}{i:Nat}{m:Str->Option Value},P.Nodup->P[i]?=some x->vs[i]?=some v->kindOf x=some .local ->
  bindL kindOf (P.zip vs) m x=some v
 |[],_,_,_,_,h,_,_=>by simp at h
 |_::_,[],_,_,_,_,h,_=>by simp at h
 |p::P,w::vs,0,m,nd,h1,h2,j=>by
  simp at h1 h2;subst h1;subst h2;show bindL kindOf ((p,w)::P.zip vs) m p=_;unfold bindL;rw[Zhx λv F=>(Ve.mp nd).1 (Vf F).1,if_pos j];simp
 |p::P,w::vs,i+1,m,nd,h1,h2,j=>by
  show bindL kindOf ((p,w)::P.zip vs) m x=_;unfold bindL;exact Zfn (i:=i) (Ve.mp nd).2 (by simpa using h1) (by simpa using h2) j
theorem Ze9 {kindOf:Str->Option NameKind}{x:Str}{v:Value}:∀{P:List Str}{vs:List Value}{i:Nat}{m:Str->Option Value},P.Nodup->P[i]?=some x->vs[i]?=some v->kindOf x≠some .local ->
  bindC kindOf (P.zip vs) m x=some v
 |[],_,_,_,_,h,_,_=>by simp at h
 |_::_,[],_,_,_,_,h,_=>by simp at h
 |p::P,w::vs,0,m,nd,h1,h2,j=>by
  simp at h1 h2;subst h1;subst h2;show bindC kindOf ((p,w)::P.zip vs) m p=_;unfold bindC;rw[Zgx λv F=>(Ve.mp nd).1 (Vf F).1,if_neg j];simp
 |p::P,w::vs,i+1,m,nd,h1,h2,j=>by
  show bindC kindOf ((p,w)::P.zip vs) m x=_;unfold bindC;exact Ze9 (i:=i) (Ve.mp nd).2 (by simpa using h1) (by simpa using h2) j
noncomputable def Fn (N:List Str)(vs:List V):St:=vs.map some++Qr (N.length-vs.length) none
noncomputable def El (CX:Cq)(P:Program)(w:World)(K:Pg)(mg:Str->Option Value)(base:Heap)(N:List Str)(qual:Str)(scope:Scope)(f:Addr)(cd:Value)(A:Around)(outer:List Env)(s:Shared)(H:Hp)(E:XK):Cx where
 prog:=P
 w:=w
 K:=K
 mg:=mg
 base:=base
 A:=A.deeper (envOfC qual scope s.heap.objs.size f cd)
 N:=N
 s₀:=s
 H₀:=H
 env:=envOfC qual scope s.heap.objs.size f cd
 outer:=outer
 stack:=envOfC qual scope s.heap.objs.size f cd::outer
 ex:=[]
 calm:=true
 fn:=λ_=>true
 pn:=[]
 xe:=λe s'=>wpAny (model P w) (A.deeper (envOfC qual scope s.heap.objs.size f cd)) (leaving (envOfC qual scope s.heap.objs.size f cd) e) (λ_ j=>CX outer H s E e j) (λF j=>CX outer H s E F j) s'
theorem Zac {sc:Scope}{n:Nat}{x:Str}(h:sc.names.lookup x=some .cell):∃c,(cellsFrom n sc.names []).lookup x=some c:=by
 have q:=PySem.W.cellsFrom_some sc.names n [] (.inl h);exact Sf.mp q
theorem Zmj {CX:Cq}{P:Program}{w:World}{K:Pg}{mg:Str->Option Value}{base:Heap}{N ps:List Str}{qual:Str}{scope:Scope}{f:Addr}{cd:Value}{A:Around}{outer:List Env}{s s1:Shared}{H:Hp}{E:XK}{us:List Value}{vs:List V}
  (S:A9 N ps scope) (hd:A.handled=none) (e0:Env0 P w K mg base A outer s H) (hl:vs.length=ps.length) (r:Vals vs us)
  (x:InCallC s s.heap.objs.size (bindL (envOfC qual scope s.heap.objs.size f cd).kindOf (ps.zip us) λ_=>none) (cellsFrom (s.heap.objs.size+1) scope.names []) (bindC (envOfC qual scope s.heap.objs.size f cd).kindOf (ps.zip us) λ_=>none) s1) :
  Inv (El CX P w K mg base N qual scope f cd A outer s H E) [] (Fn N vs) H s1:=by
 have aa:ps.length<=N.length:=by have:=congrArg Th S.pre;rw[Qm]at this;lia
 obtain⟨h1,tk,rfl,U⟩:=x.done;have j:∀b:Addr,b ∉ (El CX P w K mg base N qual scope f cd A outer s H E).ex:=λb z=>absurd (show b∈([]:List Addr) from z) (by simp);refine⟨⟨e0.mod,S.kind,rfl,rfl,Pj _,λy z c h1 h2=>?_,λy F=>?_,λy c _ h=>?_,λ_=>hd,Around.frames_deeper e0.frames,.inr ⟨rfl,rfl⟩,λb z=>absurd z (j b),e0.bs,e0.bsz,λb _ _=>j b,λb z=>absurd z (j b),e0.funs,e0.frf⟩,
  rfl,e0.bare,Un.kept U,⟨_,x.toInCall.ns,λi y v h1 h2 h3=>?_⟩,λy c h=>⟨_,x.cell y c h⟩,e0.hok.fresh (Pj _),λy c h=>?_,λp hp=>absurd (show p∈([]:List (Addr×Obj)) from hp) (by simp),e0.hok.kept U,?_⟩
 ·exact name_of_addr x.apart (Sh h1) (Sh h2)
 ·have F:scope.names.lookup y=some .cell\/scope.names.lookup y=some .free:=F;rcases F with F|F
  ·exact Zac F
  ·exact absurd rfl (S.nofree _ (Sh F))
 ·exact Uh (x.above y c (Sh h))
 ·have hi:i<vs.length:=by
   unfold Fn at h2;by_cases hi:i<vs.length
   ·exact hi
   ·rw[Qn (by simpa using hi)]at h2;rw[List.getElem?_replicate]at h2;split at h2 <;> cases h2
  have Y:vs[i]?=some v:=by
   unfold Fn at h2;rw[Qd (by simpa using hi),Qy]at h2;cases e:vs[i]? with
   |none=>rw[e]at h2;cases h2
   |some a=>rw[e]at h2;cases h2;rfl
  obtain⟨u,O,Z⟩:=r.get Y;have hp:ps[i]?=some y:=by
   rw[<- S.pre,List.getElem?_take_of_lt (by lia)];exact h1
  have I:ps.Nodup:=by rw[<- S.pre];exact S.nd.sublist (List.take_sublist _ _)
  refine⟨u,Z,?_⟩;rcases S.par y (Qo hp) with k|k
  ·exact .inl ⟨k,Zfn I hp O k⟩
  ·obtain⟨c,e⟩:=Zac (n:=s.heap.objs.size+1) k;refine .inr ⟨.inl k,c,e,?_⟩;have q:=x.cell y c e;rw[Ze9 I hp O (by show scope.names.lookup y≠_;rw[k];decide)]at q;exact q
 ·exact e0.hok.fresh (Uh (x.above y c (Sh h)))
 ·unfold Fn;show _=N.length;rw[Pn,Pp,List.length_replicate];lia
theorem Zd3 {CX:Cq}{P:Program}{w:World}{K:Pg}{mg:Str->Option Value}{base:Heap}{k:Nat}{f:Addr}{name qual:Str}{params:Arguments}{body:List Stmt}{scope:Scope}{dV kV doc pm cdv ct oc:Value}{an od:Option Addr}
  {osl:Array (Option Value)} {N ps:List Str} {sp:Sp} (lk:K.lookup f=some ⟨oc,od,.func (Sb name qual params body scope dV kV doc pm an cdv ct),osl⟩) (hcd:PySem.W.codeIn K cdv qual=true) (S:A9 N ps scope)
  (len:∀vs H Q E,sp vs H Q E->vs.length=ps.length)
  (hbody:∀(A:Around)(outer:List Env)(s:Shared)(H:Hp)(vs:List V)(Q:VK)(E:XK),Room k (A.deeper (envOfC qual scope s.heap.objs.size f cdv))->sp vs H Q E ->
   ∃t,PSs (El CX P w K mg base N qual scope f cdv A outer s H E) body t/\t { nx:=λ_ H'=>Q .non H',rt:=Q } (Fn N vs) H) :
  FnOk P w K mg base CX (k+1) f (Sb name qual params body scope dV kV doc pm an cdv ct) ps sp:=by
 refine⟨len,λA outer s H aa us vs Q E hr U hb r O=>?_⟩;have hl:=len _ _ _ _ O;have KX:K.In s.heap:=U.mod.kin.keeps λb o e=>(U.bs b o e).1;have Z:s.heap.NoLimit:=U.mod.nolimit.keeps λb o e=>(U.bs b o e).1;have F:∀y∈ps.zip us,scope.names.lookup y.1=some .local\/(scope.names.lookup y.1=some .cell/\((cellsFrom (s.heap.objs.size+1) scope.names []).lookup y.1).isSome=true):=λ⟨n,v⟩ hy=>by
  rcases S.par n (Vf hy).1 with q|q
  ·exact .inl q
  ·exact .inr ⟨q,PySem.W.cellsFrom_some _ _ _ (.inl q)⟩
 refine codeAny_call_function hr.depth (KX _ _ lk) rfl S.co S.gen rfl (PySem.W.codeRec_of KX hcd) (hb _ _ _ _ ?_);refine wpAny_newFunctionEnv_cells S.kind F λenv he s1 x=>?_;subst he;refine⟨Z.keeps x.toInCall.keep,codeAny_func ?_⟩;obtain⟨t,ht,hq⟩:=hbody A outer s H vs Q E (hr.deeper _) O;have I:Inv (El CX P w K mg base N qual scope f cdv A outer s H E) [] (Fn N vs) H s1:=Zmj S hr.hd U hl r x;refine Rp (ht [] s1 (Fn N vs) H _ I hq) (λfl s' hs=>?_) λe s' hs=>hs;have Y:∀{j:St}{H':Hp}{v:V}{u:Value},Inv (El CX P w K mg base N qual scope f cdv A outer s H E) [] j H' s'->RelV v u->Q v H'->CE outer P w H s Q u s' :=
  λ{j H' v u} J rv q=>⟨v,H',J.os,J.bare,J.base,J.hok,rv,q⟩
 cases fl with
 |ret u =>
  obtain⟨v,j,H',J,rv,q⟩:=hs;exact Y J rv q
 |next =>
  obtain⟨j,H',J,q⟩:=hs;exact Y (v:=V.non) (u:=Value.none) J rfl q
 |brk =>
  obtain⟨_,_,_,q⟩:=hs;exact Ql q
 |cont =>
  obtain⟨_,_,_,q⟩:=hs;exact Ql q
section
variable {X:Cx}{x:Str}{p pos:Pos}{e:Expr}{es:List Expr}{t:TA}{id T:String}{r:List V->Hp->VK->Prop}
def tCB (r:List V->Hp->VK->Prop)(t:TA):TE:=λσ H Q=>t σ H λvs H1=>r vs H1 Q
end
end L2
namespace HT
open PySem PyProof.Rows
section
open PySem.SeqAt
open PySem.AutoSeq1 (wpAny_loadPart')
open PySem.MeetsSeq PySem.MeetsSeq2 PySem.MeetsSeq3
end
section
variable {prog:Program}{w:World}{A:Around}{E:Value->Shared->Prop}{s:Shared}
theorem cat_tup (ht:IsTup s.heap t vs.toArray)(hb:IsTup s.heap b ws.toArray)(hv:vs≠[])(h1:ws=[]->Q (.ref t) s)(h2:ws≠[]->Q (.ref s.heap.objs.size) { s with heap:=s.heap.push { cls:=.type "tuple",data:=.seq (vs++ws).toArray } })(hsz:vs.length+ws.length<=sizeLine):wpAny (model prog w) A (binaryOp .Add (.ref t) (.ref b)) Q E s:=by
 obtain⟨⟨cls,dd,data,sl⟩,Y,hc,n,hd⟩:=id ht;obtain⟨⟨ac,U,aa,F⟩,j,I,n2,O⟩:=id hb;simp only at hc hd I O;subst hc hd I O;have e:vs.toArray++ws.toArray=(vs++ws).toArray:=by simp
 by_cases Z:ws=[]
 ·exact Vt ⟨_,Y,rfl⟩ ⟨_,j,rfl⟩ Va Vo Uy Uv (Us _ _)
   (tuple_addW1 t b vs.toArray ws.toArray n n2 dd U sl F (by simpa using hv) (by simp[Z])) ⟨Y,j,h1 Z⟩
 ·refine Vt ⟨_,Y,rfl⟩ ⟨_,j,rfl⟩ Va Vo Uy Uv (Us _ _)
   (tuple_addW2 t b vs.toArray ws.toArray n n2 dd U sl F (by simpa using hv) (by simpa using Z) (by rw[Pl,Pl];exact hsz)) ⟨Y,j,?_⟩
  rw[e];exact h2 Z
noncomputable def sIx (n d:Nat):Option Int->Nat
 |none=>d
 |some v=>if v<0 then (v+(n:Int)).toNat else min v.toNat n
theorem sIx_none (n d:Nat):sIx n d none=d:=rfl
theorem sIx_nat (n d k:Nat):sIx n d (some (k:Int))=min k n:=by
 show(if (k:Int)<0 then ((k:Int)+(n:Int)).toNat else min (k:Int).toNat n)=min k n;rw[if_neg (by lia),Q3]
theorem Zqj (n d:Nat)(hd:d<=n)(o:Option Int):sIx n d o<=n:=by
 cases o with
 |none=>exact hd
 |some v =>
  show(if v<0 then (v+(n:Int)).toNat else min v.toNat n)<=n;by_cases j:v<0
  ·rw[if_pos j];lia
  ·rw[if_neg j];exact Nat.min_le_right _ _
theorem Zfy (v:Int)(n d:Nat):(if v<0 then max (v+(n:Int)) 0 else min v (n:Int))=((sIx n d (some v):Nat):Int):=by
 show(if v<0 then max (v+(n:Int)) 0 else min v (n:Int))=(((if v<0 then (v+(n:Int)).toNat else min v.toNat n):Nat):Int);by_cases j:v<0
 ·simp only[if_pos j];lia
 ·simp only[if_neg j];lia
theorem Zqc (lo hi:Option Int)(n:Nat):V4 lo hi 1 (n:Int)=(((sIx n 0 lo:Nat):Int),((sIx n n hi:Nat):Int)):=by
 have h1:¬((1:Int)<0):=by lia
 unfold V4;simp only[h1,if_false];refine Prod.ext ?_ ?_
 ·cases lo with
  |none=>rfl
  |some v=>exact Zfy v n 0
 ·cases hi with
  |none=>rfl
  |some v=>exact Zfy v n n
theorem Zok (i j:Nat):Ur (i:Int) (j:Int) 1=j-i:=by
 unfold Ur;have h1:(1:Int) > 0:=by lia
 simp only[h1,if_true,Int.ediv_one];split <;> lia
theorem Zdr (p:IsPart v o)(h:Q o s):wpAny (model prog w) A (Builtin.Slice.slicePartIndex v) Q E s:=by
 cases p with
 |none=>exact slicePart_none h
 |int i t=>exact slicePart_int h
theorem sliceApplied_gen {sl:Addr}{vl vu:Value}{lo hi:Option Int}{n:Nat}{Q:Int×Int×Nat->Shared->Prop}(hs:s.heap.IsSliceOf sl vl vu .none)(pl:IsPart vl lo)(pu:IsPart vu hi)
  (h:Q (((sIx n 0 lo:Nat):Int),1,sIx n n hi-sIx n 0 lo) s):wpAny (model prog w) A (Builtin.Slice.sliceApplied (.ref sl) (pure (n:Int))) Q E s:=by
 obtain⟨os,j,I,F⟩:=id hs;unfold Builtin.Slice.sliceApplied Builtin.Slice.sliceFields;refine Ph (Ph (Pz j F (x:=vl) rfl (Ph (Pz j F (x:=vu) rfl (Ph (Pz j F (x:=.none) rfl (Pi ?_)))))));refine Ph (slicePart_none ?_);show wpAny _ _ (if ((1:Int) == 0)=true then _ else _) _ _ s;rw[if_neg (by decide)];refine Ph (Zdr pl (Ph (Zdr pu (Ph (Pi ?_)))));show wpAny _ _ (match V4 lo hi 1 (n:Int) with|(lo,hi)=>pure (lo,(1:Int),Ur lo hi 1)) _ _ s;rw[Zqc lo hi n];show wpAny _ _ (pure (((sIx n 0 lo:Nat):Int),(1:Int),Ur ((sIx n 0 lo:Nat):Int) ((sIx n n hi:Nat):Int) 1)) _ _ s;rw[Zok];exact Pi h
theorem Zm3 (xs:Array Value)(i k:Nat):((P7 k).filterMap λ(m:Nat)=>xs[((i:Int)+(m:Int)*1).toNat]?).toArray=((xs.toList.drop i).take k).toArray:=by
 have e:(λ(m:Nat)=>xs[((i:Int)+(m:Int)*1).toNat]?)=λm=>xs[i+m]?:=by
  funext m;have:((i:Int)+(m:Int)*1).toNat=i+m:=by lia
  rw[this]
 rw[e];have:=pick_run xs i k;rw[List.filterMap_map]at this;have j:((λx=>xs[x]?) ∘ λx=>i+x)=λm=>xs[i+m]?:=rfl;rw[j]at this;rw[this]
theorem getItem_tuple_cut {t sl:Addr}{items:Array Value}{vl vu:Value}{lo hi:Option Int}{Q:Value->Shared->Prop}(ht:IsTup s.heap t items)(hs:s.heap.IsSliceOf sl vl vu .none)(pl:IsPart vl lo)(pu:IsPart vu hi)
  (hw:¬(sIx items.size 0 lo=0/\sIx items.size items.size hi=items.size))
  (h:Q (.ref s.heap.objs.size) { s with heap:=s.heap.push { cls:=.type "tuple",data:=.seq ((items.toList.drop (sIx items.size 0 lo)).take (sIx items.size items.size hi-sIx items.size 0 lo)).toArray } })
  (hsz:items.size<=sizeLine):wpAny (model prog w) A (getItem (.ref t) (.ref sl)) Q E s:=by
 have j:sizeOk (.seq ((items.toList.drop (sIx items.size 0 lo)).take (sIx items.size items.size hi-sIx items.size 0 lo)).toArray):=by
  show((items.toList.drop (sIx items.size 0 lo)).take (sIx items.size items.size hi-sIx items.size 0 lo)).toArray.size<=sizeLine;rw[Pl,Qm,Rw,U2];lia
 have hj:sIx items.size items.size hi<=items.size:=Zqj _ _ (Pj _) hi;obtain⟨os,F,U,Y⟩:=id hs;have I:s.TypeIs (.ref sl) "slice":=⟨os,F,U⟩;unfold getItem
 try with_reducible refine Q5 ?_
 first|refine Ph (Pi ?_)|skip
 refine Ph (wpAny_sequenceKey ht.typeIs (by decide) ?_);refine Ph (Ri (name:=Qt "__getitem__") ht.typeIs Sq
  (Rk Sq ht.typeIs entry_tuple_getitem ?_ (args_tuple_getitem _ _)))
 show wpAny _ _ (Builtin.Tuple.tupleItemsOf (.ref t) >>= _) _ _ s;refine Ph (tupleItemsOf_ ht ?_);refine Ph (Tg I ?_);rw[if_pos (by decide)];refine Ph (sliceApplied_gen hs pl pu ?_);have O:¬((((sIx items.size 0 lo:Nat):Int) == 0 && (1:Int) == 1 && (sIx items.size items.size hi-sIx items.size 0 lo) == items.size)=true):=by
  intro q;rw[Ry,Ry]at q;have Z:((sIx items.size 0 lo:Nat):Int)=0:=eq_of_beq q.1.1;have q2:sIx items.size items.size hi-sIx items.size 0 lo=items.size:=eq_of_beq q.2;exact hw ⟨by lia,by lia⟩
 show wpAny _ _ (if (((sIx items.size 0 lo:Nat):Int) == 0 && (1:Int) == 1 && (sIx items.size items.size hi-sIx items.size 0 lo) == items.size)=true then _ else _) _ _ s;rw[if_neg O,Zm3]
 first
  |exact Ph (m:=Ut _) (R5 (Pi ⟨_,rfl,Pi h⟩) j)
  |exact Ph (m:=Ut _) (R5 (Ph (Pi (Pi ⟨_,rfl,Pi h⟩))) j)
  |exact Ph (Ph (m:=Ut _) (R5 (Pi (Pi ⟨_,rfl,Pi h⟩)) j))
  |exact Ph (Ph (m:=Ut _) (R5 (Pi ⟨_,rfl,Pi h⟩) j))
end
end HT
namespace L2
open PySem PySem.Spec PyProof.Rows
noncomputable abbrev TO:=St->Hp->(Option Int->Hp->Prop)->Prop
def PO (X:Cx)(e:Option Expr)(t:TO):Prop :=
 ∀(pins:List (Addr×Obj))(s:Shared)(σ:St)(H:Hp)(Q:Option Int->Hp->Prop),Inv X pins σ H s->t σ H Q ->
  wpAny (model X.prog X.w) X.A (evalPart e X.env) (λu s'=>∃o H',Inv X pins σ H' s'/\IsPart u o/\Q o H') X.xe s
def Zb0:TO:=λ_ H Q=>Q none H
def Zcr (t:TE):TO:=λσ H Q=>t σ H λx H1=>∃i,x=.int i/\Q (some i) H1
section
variable {X:Cx}{e:Expr}{te:TE}{lo hi:Option Expr}{tl th:TO}{pos p2:Pos}
def SlR (X:Cx)(r:V->Option Int->Option Int->Hp->VK->Prop):Prop :=
 ∀(pins:List (Addr×Obj))(s:Shared)(σ:St)(H:Hp)(x:V)(v vl vu:Value)(lo hi:Option Int)(sl:Addr)(Q:VK),Inv X pins σ H s->RelV x v->s.heap.IsSliceOf sl vl vu .none->IsPart vl lo->IsPart vu hi->r x lo hi H Q ->
  ∃T id,typeLookup (.type T) "__getitem__"=pure (some (.builtin id))/\s.TypeIs v T/\wpAny (model X.prog X.w) X.A (getItem v (.ref sl)) (EP X pins σ Q) X.xe s
theorem SlR.or (h:SlR X r)(h':SlR X r'):SlR X (λx lo hi H Q=>r x lo hi H Q\/r' x lo hi H Q):=by
 intro pins s σ H x v O j lo hi F Q I U hs pl Y q;rcases q with q|q
 ·exact h pins s σ H x v O j lo hi F Q I U hs pl Y q
 ·exact h' pins s σ H x v O j lo hi F Q I U hs pl Y q
def tSl (r:V->Option Int->Option Int->Hp->VK->Prop)(te:TE)(tl th:TO):TE:=λσ H Q=>te σ H λx H1=>tl σ H1 λl H2=>th σ H2 λu j=>r x l u j Q
noncomputable def B8 (xs:List V)(lo hi:Option Int):List V:=(xs.drop (HT.sIx xs.length 0 lo)).take (HT.sIx xs.length xs.length hi-HT.sIx xs.length 0 lo)
theorem Zgc (xs:List V)(lo hi:Option Int):(B8 xs lo hi).length<=xs.length:=by
 unfold B8;rw[Qm,Rw];lia
def rSlT (K:Pg):V->Option Int->Option Int->Hp->VK->Prop:=λx lo hi H Q=>∃a xs,x=.ref a/\SqT K H a xs /\
 ¬(HT.sIx xs.length 0 lo=0/\HT.sIx xs.length xs.length hi=xs.length)/\∀p,H p=none->Q (.ref p) (upd H p (.tup (B8 xs lo hi)))
theorem Zdu:SlR X (rSlT X.K):=by
 intro pins s σ H x v vl vu lo hi sl Q I Y hs pl Z h;obtain⟨a,xs,rfl,hx,hw,q⟩:=h;cases Y;obtain⟨F,r,O,U⟩:=I.tuple hx;have j:F.toArray.size=xs.length:=by rw[Pl];exact r.length.symm
 refine⟨"tuple",_,Sq.lookup,O.typeIs,?_⟩;refine HT.getItem_tuple_cut O hs pl Z (by rw[j];exact hw) ?_ (by rw[j];exact U);rw[j];refine⟨.ref s.heap.objs.size,_,I.laid (t':=s.toks) (o:=.tup (B8 xs lo hi)) (λb ob q=>Pm _ q) (Pj _) ?_,rfl,q _ (I.hok.fresh (Pj _))⟩;exact⟨Qg (Zgc xs lo hi) U,_,(r.drop (HT.sIx xs.length 0 lo)).take (HT.sIx xs.length xs.length hi-HT.sIx xs.length 0 lo),IsTup.new _ _⟩
def Zj3 (K:Pg):R2:=λx y H Q=>eX4 λa b xs ys=>x=.ref a/\y=.ref b/\SqT K H a xs/\SqT K H b ys/\xs≠[]/\xs.length+ys.length<=sizeLine /\
 (ys=[]->Q (.ref a) H)/\(ys≠[]->∀p,H p=none->Q (.ref p) (upd H p (.tup (xs++ys))))
theorem Vals.nil_iff (r:Vals xs us):us=[]↔xs=[]:=by
 cases r with
 |nil=>simp
 |cons _ _=>simp
theorem Ze7:OpR X (binaryOp .Add) (Zj3 X.K):=by
 intro pins s σ H x y v u Q I rx ry h;obtain⟨a,b,xs,ys,rfl,rfl,Z,Y,hx,U,q1,q2⟩:=h;cases rx;cases ry;obtain⟨aa,F,p1,_⟩:=I.tuple Z;obtain⟨O,j,p2,_⟩:=I.tuple Y;refine HT.cat_tup p1 p2 (λz=>hx (F.nil_iff.mp z)) (λz=>⟨.ref a,H,I,rfl,q1 (j.nil_iff.mp z)⟩) (λz=>?_) (by rw[<- F.length,<- j.length];exact U);refine⟨.ref s.heap.objs.size,_,I.laid (t':=s.toks) (o:=.tup (xs++ys)) (λb ob q=>Pm _ q) (Pj _) ?_,rfl,q2 (λw=>z (j.nil_iff.mpr w)) _ (I.hok.fresh (Pj _))⟩;exact⟨by rw[Pn];exact U,_,F.append j,IsTup.new _ _⟩
end
noncomputable def E3 (n:Nat)(i:Int):Option Nat:=if 0<=i then (if i<n then some i.toNat else none) else if -(n:Int)<=i then some (i+n).toNat else none
noncomputable def Cm {α:Type}(xs:List α)(i:Int):Option α:=(E3 xs.length i).bind λj=>xs[j]?
theorem Zeo (h:E3 n i=some j):seqIndex? i n=some j/\j<n/\-(n:Int)<=i/\i<n:=by
 unfold E3 at h;by_cases F:0<=i
 ·rw[if_pos F]at h;by_cases h1:i<n
  ·rw[if_pos h1]at h;have e:i.toNat=j:=Qa h;exact⟨by rw[seqIndex_of F h1,e],by lia,by lia,h1⟩
  ·rw[if_neg h1]at h;cases h
 ·rw[if_neg F]at h;by_cases h1:-(n:Int)<=i
  ·rw[if_pos h1]at h;have e:(i+n).toNat=j:=Qa h;exact⟨by rw[seqIndex_neg (by lia) h1,e],by lia,h1,by lia⟩
  ·rw[if_neg h1]at h;cases h
theorem Zcl {α:Type}{xs:List α}{i:Int}{v:α}(h:Cm xs i=some v):∃j,seqIndex? i xs.length=some j/\xs[j]?=some v/\j<xs.length/\-(xs.length:Int)<=i/\i<xs.length:=by
 unfold Cm at h;cases e:E3 xs.length i with
 |none=>rw[e]at h;cases h
 |some j =>
  rw[e]at h;obtain⟨h1,h2,F,I⟩:=Zeo e;exact⟨j,h1,h,h2,F,I⟩
theorem Ck {α:Type}{xs:List α}{j:Nat}{v:α}(h:xs[j]?=some v):Cm xs (j:Int)=some v:=by
 have F:j<xs.length:=(Pt.mp h).1;have e:E3 xs.length (j:Int)=some j:=by
  unfold E3;rw[if_pos (by lia),if_pos (by lia)];simp
 unfold Cm;rw[e];exact h
def Pa (b:Expr):Prop:=∀o i,subscripted b false o i=operate [o,i] (getItem o i)
def IxR (X:Cx)(r:R2):Prop :=
 ∀(value slice:Expr)(pins:List (Addr×Obj))(s:Shared)(σ:St)(H:Hp)(x y:V)(v u:Value)(Q:VK),Inv X pins σ H s->RelV x v->RelV y u->r x y H Q ->
  subscripted slice false v u=operate [v,u] (getItem v u)->wpAny (model X.prog X.w) X.A (subscriptTail value slice v u) (EP X pins σ Q) X.xe s
def Hh (X:Cx)(id:String)(r:V->List V->Hp->VK->Prop):Prop :=
 ∀(pins:List (Addr×Obj))(s:Shared)(σ:St)(H:Hp)(x:V)(xs:List V)(v:Value)(us:List Value)(Q:VK),Inv X pins σ H s->RelV x v->Vals xs us->r x xs H Q ->
  wpAny (model X.prog X.w) X.A (call (.builtin id) (v::us)) (EP X pins σ Q) X.xe s
section
variable {X:Cx}{a b:Expr}{ta tb:TE}{pos:Pos}
theorem IxR.or (h:IxR X r)(h':IxR X r'):IxR X (λx y H Q=>r x y H Q\/r' x y H Q):=by
 intro value j pins s σ H x y v u Q I O F q hs;rcases q with q|q
 ·exact h value j pins s σ H x y v u Q I O F q hs
 ·exact h' value j pins s σ H x y v u Q I O F q hs
def rIxL (K:Pg):R2:=λx y H Q=>eX4 λp xs i v=>x=.ref p/\y=.int i/\SqL K H p xs/\Cm xs i=some v/\Q v H
def rIxT (K:Pg):R2:=λx y H Q=>eX4 λp xs i v=>x=.ref p/\y=.int i/\SqT K H p xs/\Cm xs i=some v/\Q v H
def rIxS:R2:=λx y H Q=>eX3 λz i c=>x=.str z/\y=.int i/\z.length<=sizeLine/\Cm z.cps.toList i=some c/\Q (.str ⟨#[c]⟩) H
theorem ix_list:IxR X (rIxL X.K):=by
 intro value O pins s σ H x y v u Q I rx ry h hs;obtain⟨p,xs,i,z,rfl,rfl,hq,he,q⟩:=h;cases rx;obtain⟨t,rfl⟩:=ry;obtain⟨U,r,pl,hz⟩:=I.list hq;obtain⟨j,h1,h2,h3,h4,h5⟩:=Zcl he;obtain⟨w,ew,Y⟩:=r.get h2;have hl:=r.length;have hn:=Jw;have F:EP X pins σ Q w s:=⟨z,H,I,Y,q⟩;by_cases h0:0<=i
 ·have Z:i.toNat=j:=by
   rw[seqIndex_of h0 h5]at h1;exact Qa h1
  exact item_listR pl.isList h0 (by lia) (by rw[Z];simpa using ew) F hs
 ·have Z:(i+(U.toArray.size:Int)).toNat=j:=by
   rw[seqIndex_neg (by lia) h4]at h1;rw[Pl,<- hl];exact Qa h1
  exact subscriptTail_builtinR (x:=w) pl.isList.typeIs Wj.lookup
   (wpAny_getItem_list_neg (Q:=λr s'=>r=w/\EP X pins σ Q r s') pl.isList (by lia) (by rw[Pl] <;> lia) (by lia) (by rw[Z];simpa using ew) ⟨rfl,F⟩) hs
theorem ix_tup:IxR X (rIxT X.K):=by
 intro value F pins s σ H x y v u Q I rx Y h hs;obtain⟨p,xs,i,z,rfl,rfl,hq,he,q⟩:=h;cases rx;obtain⟨t,rfl⟩:=Y;obtain⟨aa,r,pl,hz⟩:=I.tuple hq;obtain⟨j,h1,h2,h3,h4,h5⟩:=Zcl he;obtain⟨w,ew,U⟩:=r.get h2;have Z:=r.length;have hn:=Jw;have O:EP X pins σ Q w s:=⟨z,H,I,U,q⟩;exact subscriptTail_builtinR (x:=w) pl.typeIs slot_tuple_getitem.lookup
  (getItem_tuple (j:=j) (Q:=λr s'=>r=w/\EP X pins σ Q r s') pl (by lia) (by lia) (by rw[Pl,<- Z];exact h1) (by simpa using ew) ⟨rfl,O⟩) hs
theorem Zjc:IxR X rIxS:=by
 intro value F pins s σ H x y v u Q I rx Y h hs;obtain⟨z,i,c,rfl,rfl,hz,he,q⟩:=h;obtain⟨t,rfl⟩:=rx;obtain⟨t',rfl⟩:=Y;obtain⟨j,h1,h2,h3,h4,O⟩:=Zcl he;have Z:z.cps.toList.length=z.length:=by simp[Str.length]
 rw[Z]at h1 h4 O;have hn:=Jw;exact tail_any (typeIs_str s z t) slot_str_getitem.lookup (getItem_str (c:=c) (by
  have U:decide (i < -(2 ^ 63:Int))=false:=decide_eq_false (by lia);have e2:decide (i ≥ 2 ^ 63)=false:=decide_eq_false (by lia);rw[U,e2,Bool.or_false]) (by rw[h1];simpa using h2) ⟨.str ⟨#[c]⟩,H,I.tok _,⟨_,rfl⟩,q⟩) hs
def Js (K:Pg):R2:=λx y H Q=>rIxL K x y H Q\/rIxT K x y H Q\/rIxS x y H Q
theorem Zpt:IxR X (Js X.K):=ix_list.or (ix_tup.or Zjc)
theorem Zi1 (its:List Value)(n j:Nat)(u:Value):Qv (·.setIfInBounds j u) { cls:=.type "list",data:=.seq its.toArray n }={ cls:=.type "list",data:=.seq (its.set j u).toArray n }:=by
 simp[Qv]
theorem Inv.lst (I:Inv X pins σ H s)(h:H p=some (.lst xs)) :
  ∃(its:List Value)(n:Nat),Vals xs its/\s.heap.get? p=some { cls:=.type "list",data:=.seq its.toArray n }/\xs.length<=sizeLine:=by
 obtain⟨z,its,n,r,e⟩:=I.hok p _ h;exact⟨its,n,r,e,z⟩
theorem Inv.lstUpd {pins:List (Addr×Obj)}{σ:St}{H:Hp}{s:Shared}{p:Addr}{xs ys:List V}{its its':List Value}{n n':Nat}{f:Obj->Obj}(I:Inv X pins σ H s)(h:H p=some (.lst xs))
  (ho:s.heap.get? p=some { cls:=.type "list",data:=.seq its.toArray n }) (hf:f { cls:=.type "list",data:=.seq its.toArray n }={ cls:=.type "list",data:=.seq its'.toArray n' }) (r:Vals ys its') (hz:ys.length<=sizeLine) (t:Nat) :
  Inv X pins σ (upd H p (.lst ys)) { s with heap:=s.heap.update p f,toks:=t }:=by
 have e:(s.heap.update p f).get? p=some { cls:=.type "list",data:=.seq its'.toArray n' }:=by
  rw[R3 f ho (by rw[hf] <;> rfl),hf]
 refine I.write (x:=p) (e:=p) (by rw[h];trivial) (.inl rfl) (λb u j q=>(Q8 _ _ (Ps j)).trans q) ⟨_,e⟩ ?_;exact⟨hz,its',n',r,e⟩
def Zgp:V->V->V->Hp->(Hp->Prop)->Prop:=λo i v H Q=>eX4 λp xs k j=>o=.ref p/\i=.int k/\H p=some (.lst xs)/\E3 xs.length k=some j/\Q (upd H p (.lst (xs.set j v)))
theorem Zpm:Oz X Zgp:=by
 intro pins s σ H o i v ov iv u Q I ro ri rv h;obtain⟨p,xs,k,j,rfl,rfl,hp,hj,q⟩:=h;cases ro;obtain⟨t,rfl⟩:=ri;obtain⟨F,n,r,U,hz⟩:=I.lst hp;obtain⟨h1,h2,Z,h4⟩:=Zeo hj;have O:=r.length;have hn:=Jw;have I':Inv X pins σ (upd H p (.lst (xs.set j v))) { s with heap:=s.heap.update p (Qv (·.setIfInBounds j u)) } :=
  I.lstUpd hp U (Zi1 F n j u) (r.set rv j) (by rw[Sw];exact hz) s.toks
 by_cases h0:0<=k
 ·have Y:k.toNat=j:=by
   rw[seqIndex_of h0 h4]at h1;exact Qa h1
  exact PySem.W.ki_setAt U h0 (by lia) (by rw[Pl,<- O];exact h4) (by rw[Y];exact⟨_,I',q⟩)
 ·have Y:(k+(F.toArray.size:Int)).toNat=j:=by
   rw[seqIndex_neg (by lia) Z]at h1;rw[Pl,<- O];exact Qa h1
  exact PySem.W.ki_setBack U (by lia) (by rw[Pl,<- O];exact Z) (by lia) (by rw[Y];exact⟨_,I',q⟩)
theorem Zq6 (lo hi:Option Int)(n:Nat):(sliceBounds lo hi none n).1=((HT.sIx n 0 lo:Nat):Int)/\(sliceBounds lo hi none n).2.1=((HT.sIx n n hi:Nat):Int)/\(sliceBounds lo hi none n).2.2=1:=by
 refine⟨?_,?_,rfl⟩
 ·cases lo with
  |none=>simp[sliceBounds,HT.sIx]
  |some i =>
   simp only[sliceBounds,HT.sIx,Option.getD_none,show(1:Int) > 0 by decide,if_true];by_cases h:i<0
   ·simp only[h,if_true] <;> lia
   ·simp only[h,if_false] <;> lia
 ·cases hi with
  |none=>simp[sliceBounds,HT.sIx]
  |some i =>
   simp only[sliceBounds,HT.sIx,Option.getD_none,show(1:Int) > 0 by decide,if_true];by_cases h:i<0
   ·simp only[h,if_true] <;> lia
   ·simp only[h,if_false] <;> lia
theorem Zra (its:List Value)(lo hi:Option Int):slicePick its.toArray lo hi none=((its.drop (HT.sIx its.length 0 lo)).take (HT.sIx its.length its.length hi-HT.sIx its.length 0 lo)).toArray:=by
 obtain⟨h1,h2,j⟩:=Zq6 lo hi its.toArray.size;unfold slicePick;rw[h1,h2,j];simp only[sliceRange_one,pick_run,Pl] <;> rfl
def Zbz (K:Pg):V->Option Int->Option Int->Hp->VK->Prop:=λx lo hi H Q=>∃a xs,x=.ref a/\SqL K H a xs/\∀p,H p=none->Q (.ref p) (upd H p (.lst (B8 xs lo hi)))
theorem sl_list:SlR X (Zbz X.K):=by
 intro pins s σ H x v vl vu lo hi sl Q I O hs pl U h;obtain⟨a,xs,rfl,Y,q⟩:=h;cases O;obtain⟨Z,r,F,hz⟩:=I.list Y;have j:=r.length;refine⟨"list",_,Wj.lookup,F.isList.typeIs,?_⟩;refine wpAny_getItem_list_slice F.isList hs pl U .none (by simp) ?_ (by rw[Pl] <;> lia);rw[Zra,<- j];refine⟨.ref s.heap.objs.size,_,I.laid (t':=s.toks) (o:=.lst (B8 xs lo hi)) (λb ob q=>Pm _ q) (Pj _) ?_,rfl,q _ (I.hok.fresh (Pj _))⟩;exact⟨Qg (Zgc xs lo hi) hz,_,0,(r.drop (HT.sIx xs.length 0 lo)).take (HT.sIx xs.length xs.length hi-HT.sIx xs.length 0 lo),P3 _ rfl⟩
noncomputable def C2:V->Bool
 |.non=>true
 |.bl _=>true
 |.int _=>true
 |.str _=>true
 |_=>false
noncomputable def Em:V->V->Bool
 |.non,.non=>true
 |.bl a,.bl b=>a == b
 |.bl a,.int b=>(if a then 1 else 0) == b
 |.int a,.bl b=>a == (if b then 1 else 0)
 |.int a,.int b=>a == b
 |.str a,.str b=>a == b
 |_,_=>false
theorem Zbb (ry:RelV y u)(rx:RelV x v)(fy:C2 y=true)(fx:C2 x=true):P6 A s u v (Em y x):=by
 cases y with
 |non =>
  cases ry;cases x with
  |non=>cases rx;exact Wr _
  |bl b=>cases rx;exact P6.none_bool b
  |int b=>obtain⟨t,rfl⟩:=rx;exact P6.none_int b t
  |str b=>obtain⟨t,rfl⟩:=rx;exact P6.none_str b t
  |_=>exact absurd (show false=true from fx) Pu
 |bl a =>
  cases ry;cases x with
  |non=>cases rx;exact P6.bool_none a
  |bl b=>cases rx;exact P6.bool_bool a b
  |int b=>obtain⟨t,rfl⟩:=rx;exact P6.bool_int a b t
  |str b=>obtain⟨t,rfl⟩:=rx;exact P6.bool_str a b t
  |_=>exact absurd (show false=true from fx) Pu
 |int a =>
  obtain⟨j,rfl⟩:=ry;cases x with
  |non=>cases rx;exact P6.int_none a j
  |bl b=>cases rx;exact P6.int_bool a j b
  |int b=>obtain⟨t,rfl⟩:=rx;exact P6.int_int a j b t
  |str b=>obtain⟨t,rfl⟩:=rx;exact P6.int_str a j b t
  |_=>exact absurd (show false=true from fx) Pu
 |str a =>
  obtain⟨j,rfl⟩:=ry;cases x with
  |non=>cases rx;exact P6.str_none a j
  |bl b=>cases rx;exact P6.str_bool a j b
  |int b=>obtain⟨t,rfl⟩:=rx;exact P6.str_int a j b t
  |str b=>obtain⟨t,rfl⟩:=rx;exact P6.str_str a j b t
  |_=>exact absurd (show false=true from fx) Pu
 |_=>exact absurd (show false=true from fy) Pu
noncomputable def F8 (x:V)(u:Value):Bool:=match u with
 |.none=>Em .non x
 |.bool b=>Em (.bl b) x
 |.int i _=>Em (.int i) x
 |.str z _=>Em (.str z) x
 |_=>false
theorem Zh8 (r:RelV y u)(f:C2 y=true):F8 x u=Em y x:=by
 cases y with
 |non=>cases r;rfl
 |bl b=>cases r;rfl
 |int i=>obtain⟨t,rfl⟩:=r;rfl
 |str z=>obtain⟨t,rfl⟩:=r;rfl
 |_=>exact absurd (show false=true from f) Pu
theorem Zbh:∀{xs:List V}{us:List Value},Vals xs us->xs.all C2=true->us.any (F8 x)=xs.any λy=>Em y x
 |_,_,.nil,_=>rfl
 |y::xs,u::us,.cons r t,f=>by
  rw[Ro,Ry]at f;rw[Ug,Ug,Zh8 r f.1,Zbh t f.2]
theorem Zcm (rx:RelV x v)(fx:C2 x=true):∀{xs:List V}{us:List Value},Vals xs us->xs.all C2=true->∀u∈us,P6 A s u v (F8 x u)
 |_,_,.nil,_=>λu j=>by cases j
 |y::xs,u::us,.cons r t,f=>λF j=>by
  rw[Ro,Ry]at f;rcases Po.mp j with rfl|j
  ·rw[Zh8 r f.1];exact Zbb r rx f.1 fx
  ·exact Zcm rx fx t f.2 F j
noncomputable def E8 (x:V)(xs:List V):Bool:=xs.any λy=>Em y x
def rIn (K:Pg)(neg:Bool):R2:=λx y H Q=>∃p xs,y=.ref p/\(SqL K H p xs\/SqT K H p xs)/\C2 x=true/\xs.all C2=true/\Q (.bl (if neg then !E8 x xs else E8 x xs)) H
theorem op_in_seq:OpR X (compareOp .In) (rIn X.K false):=by
 intro pins s σ H x y v u Q I Y Z h;obtain⟨p,xs,rfl,F,U,fs,q⟩:=h;cases Z;rcases F with F|F
 ·obtain⟨j,r,pl,hz⟩:=I.list F;refine SeqAt.in_listAt (F8 x) pl.isList (λw O=>Zcm Y U r fs w (by simpa using O)) ⟨.bl _,H,I,rfl,?_⟩;rw[show j.toArray.any (F8 x)=j.any (F8 x) by simp,Zbh r fs];exact q
 ·obtain⟨j,r,pl,hz⟩:=I.tuple F;refine SeqAt.in_tupleAt (F8 x) pl (λw O=>Zcm Y U r fs w (by simpa using O)) ⟨.bl _,H,I,rfl,?_⟩;rw[show j.toArray.any (F8 x)=j.any (F8 x) by simp,Zbh r fs];exact q
theorem Zle:Cw X (.type "list") (λxs H Q=>∃p ys,xs=[.ref p]/\(SqL X.K H p ys\/SqT X.K H p ys)/\∀l,H l=none->Q (.ref l) (upd H l (.lst ys))):=by
 intro pins s σ H xs us Q I r h;obtain⟨p,ys,rfl,Y,q⟩:=h;obtain⟨u,rfl,rx⟩:=Hj r;cases rx;have U:∀(j:List Value),Vals ys j->ys.length<=sizeLine->∀(h':Heap)(F:Nat),(∀b o',s.heap.get? b=some o'->h'.get? b=some o') ->
   h'.get? s.heap.objs.size=some { cls:=.type "list",dict:=none,data:=.seq j.toArray F,slots:=#[] }->EP X pins σ Q (.ref s.heap.objs.size) { s with heap:=h' }:=λj O hz h' F kp e =>
  ⟨.ref s.heap.objs.size,_,I.laid (t':=s.toks) kp (Pj _) (show ObjOk X.prog X.w _ h' _ (.lst ys) from⟨hz,j,F,O,e⟩),rfl,q _ (I.hok.fresh (Pj _))⟩
 rcases Y with Y|Y
 ·obtain⟨j,O,pl,hz⟩:=I.list Y;have Z:=O.length;obtain⟨o,ho,hc,n,hd⟩:=pl.isList;exact call_list_seq p (.inl rfl) ho hc hd (λh' F kp e=>U j O hz h' F kp e) (by simp only[Pl] <;> lia)
 ·obtain⟨j,O,pl,hz⟩:=I.tuple Y;have Z:=O.length;obtain⟨o,ho,hc,n,hd⟩:=pl;exact call_list_seq p (.inr rfl) ho hc hd (λh' F kp e=>U j O hz h' F kp e) (by simp only[Pl] <;> lia)
theorem Zqe:Cw X (.type "tuple") (λxs H Q=>∃p ys,xs=[.ref p]/\((SqL X.K H p ys/\∀l,H l=none->Q (.ref l) (upd H l (.tup ys)))\/(SqT X.K H p ys/\Q (.ref p) H))):=by
 intro pins s σ H xs us Q I r h;obtain⟨p,ys,rfl,h⟩:=h;obtain⟨u,rfl,rx⟩:=Hj r;cases rx;rcases h with⟨O,q⟩|⟨O,q⟩
 ·obtain⟨j,F,pl,Z⟩:=I.list O;have Y:=F.length;refine call_tuple_list pl.isList (λh' kp=>?_) (by simp only[Pl] <;> lia);have U:Inv X pins σ H { s with heap:=h' }:=I.kept (t':=s.toks) kp;have I2:Inv X pins σ (upd H h'.objs.size (.tup ys)) { s with heap:=h'.push { cls:=.type "tuple",data:=.seq j.toArray } } :=
   U.laid (t':=s.toks) (λb o e=>Pm _ e) (Pj _) (show ObjOk X.prog X.w _ _ _ (.tup ys) from⟨Z,j,F,IsTup.new _ _⟩)
  exact⟨.ref h'.objs.size,_,I2,rfl,q _ (U.hok.fresh (Pj _))⟩
 ·obtain⟨j,F,pl,Z⟩:=I.tuple O;exact call_tuple_same pl ⟨.ref p,H,I,rfl,q⟩
def J3 (K:Pg)(T:String)(x:V)(H:Hp):Prop:=match x with
 |.str _=>T="str"
 |.int _=>T="int"
 |.ref p=>(T="list" /\ ∃xs,SqL K H p xs)\/(T="tuple" /\ ∃o,K.lookup p=some o/\o.cls=.type "tuple"/\o.dict=none) \/
   (T="dict"/\((∃kvs,H p=some (.dK kvs))\/∃kvs,H p=some (.dT kvs)))\/(T="set" /\ ∃S n,H p=some (.set S n))
 |_=>False
theorem Zhp (I:Inv X pins σ H s)(r:RelV x v)(ty:J3 X.K T x H) :
  s.TypeIs v T/\∀a,v=.ref a->∃ob,s.heap.get? a=some ob/\ob.dict=none:=by
 cases x with
 |str z =>
  obtain⟨t,rfl⟩:=r;cases (show T="str" from ty);exact⟨typeIs_str s z t,λ_ e=>nomatch e⟩
 |int i =>
  obtain⟨t,rfl⟩:=r;cases (show T="int" from ty);exact⟨typeIs_int s i t,λ_ e=>nomatch e⟩
 |ref p =>
  cases r;rcases ty with⟨rfl,xs,U⟩|⟨rfl,o,j,O,hd⟩|⟨rfl,j⟩|⟨rfl,S,n,j⟩
  ·obtain⟨Y,_,pl,_⟩:=I.list U;refine⟨pl.isList.typeIs,λa e=>?_⟩;cases e;obtain⟨o,n,e,c,hd,_⟩:=pl;exact⟨o,e,hd⟩
  ·refine⟨⟨o,I.kIn p o j,O⟩,λa e=>?_⟩;cases e;exact⟨o,I.kIn _ o j,hd⟩
  ·have z:∃o,s.heap.get? p=some o/\o.ExactDict:=by
    rcases j with⟨kvs,j⟩|⟨kvs,j⟩
    ·obtain⟨_,_,_,_,o,_,_,e,ex,_⟩:=I.hok p _ j;exact⟨o,e,ex⟩
    ·obtain⟨_,_,_,_,o,_,_,e,ex,_⟩:=I.hok p _ j;exact⟨o,e,ex⟩
   obtain⟨o,e,ex⟩:=z;refine⟨⟨o,e,ex.1⟩,λa F=>?_⟩;cases F;exact⟨o,e,ex.2.1⟩
  ·obtain⟨o,_,_,_,e,ex,_⟩:=I.hok p _ j;refine⟨⟨o,e,ex.1⟩,λa F=>?_⟩;cases F;exact⟨o,e,ex.2.1⟩
 |_=>exact Ql ty
def Oq (K:Pg)(T:String)(r:V->List V->Hp->VK->Prop)(to:TE):TE:=λσ H Q=>to σ H λx H1=>J3 K T x H1/\r x [] H1 Q
def tBM (K:Pg)(T:String)(r:V->List V->Hp->VK->Prop)(to:TE)(t:TA):TE:=λσ H Q=>to σ H λx H1=>J3 K T x H1/\t σ H1 λxs H2=>r x xs H2 Q
variable {o e:Expr}{es:List Expr}{to:TE}{t:TA}{name:Str}{apos cpos:Pos}{T id:String}{r:V->List V->Hp->VK->Prop}
end
def MtM (X:Cx)(id:String)(r:V->List V->Hp->VK->Prop):Prop :=
 ∀(pins:List (Addr×Obj))(s:Shared)(σ:St)(H:Hp)(x:V)(xs:List V)(v:Value)(us:List Value)(Q:VK),Inv X pins σ H s->RelV x v->Vals xs us->r x xs H Q ->
  wpAny (model X.prog X.w) X.A (call (.builtin id) (v::us)) (EP X pins σ Q) X.xe s
theorem Vals.one:∀{x:V}{us:List Value},Vals [x] us->∃u,us=[u]/\RelV x u
 := λh=>by
 cases h with
 |cons r t =>
 cases t;exact⟨_,rfl,r⟩
theorem Vals.two:∀{x y:V}{us:List Value},Vals [x,y] us->∃u v,us=[u,v]/\RelV x u/\RelV y v
 := λh=>by
 cases h with
 |cons r t =>
 cases t with
 |cons q z =>
 cases z;exact⟨_,_,rfl,r,q⟩
theorem Vals.zero:∀{us:List Value},Vals [] us->us=[]
 |_,.nil=>rfl
theorem Vals.dropLast (h:Vals xs us):Vals xs.dropLast us.dropLast:=by
 induction h with
 |nil=>exact .nil
 |cons r t j =>
  cases t with
  |nil=>exact .nil
  |cons q F=>exact .cons r j
theorem Vals.reverse (h:Vals xs us):Vals xs.reverse us.reverse:=by
 induction h with
 |nil=>exact .nil
 |cons r t j=>rw[T6,T6];exact Vals.append j (.cons r .nil)
theorem Vals.rep (h:Vals xs us):∀k:Nat,Vals (Qr k xs).flatten (Qr k us).flatten
 |0=>.nil
 |k+1=>by
  rw[Tv,Tv,U7,U7];exact Vals.append h (Vals.rep h k)
theorem Zj8 {α:Type}(l:List α):l.eraseIdx (l.length-1)=l.dropLast:=by
 induction l with
 |nil=>rfl
 |cons a r j =>
  cases r with
  |nil=>rfl
  |cons b r =>
   have e:(a::b::r).length-1=((b::r).length-1)+1:=by
    have h1:(a::b::r).length=r.length+2:=rfl;have h2:(b::r).length=r.length+1:=rfl;lia
   rw[e,List.eraseIdx_cons_succ,j]
   all_goals rfl
theorem Zez (its:List Value):∀(k:Nat)(acc:List Value),
  List.foldl (λx1 x2=>x1++x2) acc.toArray (Qr k its.toArray)=(acc++(Qr k its).flatten).toArray
 |0,acc=>by simp
 |k+1,acc=>by
  have e:acc.toArray++its.toArray=(acc++its).toArray:=by simp
  have j:(acc++its)++(Qr k its).flatten=acc++(Qr (k+1) its).flatten:=by
   rw[Tv,U7,P8]
  rw[<- j,<- Zez its k (acc++its),<- e,Tv,List.foldl_cons]
section
variable {X:Cx}{pins:List (Addr×Obj)}{σ:St}{H:Hp}{s:Shared}{l b:Addr}{xs ys zs:List V}
theorem Inv.lset {its its':List Value}{n:Nat}{f:Array Value->Array Value}{t':Nat}(I:Inv X pins σ H s)(hH:H l=some (.lst xs))
  (e:s.heap.get? l=some { cls:=.type "list",data:=.seq its.toArray n }) (hf:f its.toArray=its'.toArray) (hv:Vals ys its') (hz:ys.length<=sizeLine) :
  Inv X pins σ (upd H l (.lst ys)) { s with heap:=s.heap.update l (Qv f),toks:=t' }:=by
 have q:=PySem.IsL.update e f;rw[hf]at q;refine I.write (x:=l) (e:=l) (by rw[hH];exact trivial) (.inl rfl) (λO u j F=>(Q8 s.heap (Qv f) (Ps j)).trans F) ⟨_,q⟩ ?_;exact⟨hz,its',_,hv,q⟩
theorem Inv.lnew (I:Inv X pins σ H s)(hv:Vals ys its)(hz:ys.length<=sizeLine) :
  Inv X pins σ (upd H s.heap.objs.size (.lst ys)) { s with heap:=s.heap.push { cls:=.type "list",data:=.seq its.toArray },toks:=t' } :=
 I.laid (λ_ _ q=>Pm _ q) (Pj _) ⟨hz,its,0,hv,P3 _ rfl⟩
theorem Inv.fresh (I:Inv X pins σ H s):H s.heap.objs.size=none:=I.hok.fresh (Pj _)
theorem Inv.lstM (I:Inv X pins σ H s)(hH:H l=some (.lst xs)):xs.length<=sizeLine/\∃(its:List Value)(n:Nat),Vals xs its/\xs.length=its.length/\s.heap.get? l=some { cls:=.type "list",data:=.seq its.toArray n }:=by
 obtain⟨z,its,n,r,e⟩:=I.hok l _ hH;exact⟨z,its,n,r,r.length,e⟩
theorem Zdg (h:n<=sizeLine):Uu n=false:=by
 unfold Uu;exact decide_eq_false (by lia)
end
section
variable {X:Cx}
def Zho:V->List V->Hp->VK->Prop:=λx vs H Q=>eX3 λl xs y=>x=.ref l/\vs=[y]/\H l=some (.lst xs)/\xs.length<sizeLine/\Q .non (upd H l (.lst (xs++[y])))
theorem C7:MtM X "list.append" Zho:=by
 intro pins s σ H x vs v us Q I Z U h;obtain⟨l,xs,y,rfl,rfl,O,hz,q⟩:=h;cases Z;obtain⟨u,rfl,Y⟩:=U.one;obtain⟨z,j,n,r,hl,e⟩:=I.lstM O;refine Sn F.slot_list_append ⟨_,e,rfl⟩ F.entry_list_append (F.args_list_append_2 _ _) (PySem.list_append l j.toArray n u (by rw[Pl];lia)) ⟨e,?_⟩;refine⟨.non,_,I.lset (its':=j++[u]) O e (by simp) (r.append (.cons Y .nil)) ?_,rfl,q⟩;rw[Pn,Py];lia
def Zre:V->List V->Hp->VK->Prop:=λx vs H Q=>eX4 λl b xs zs=>x=.ref l/\vs=[.ref b]/\H l=some (.lst xs)/\H b=some (.lst zs)/\xs.length+zs.length<=sizeLine/\Q .non (upd H l (.lst (xs++zs)))
theorem Os:MtM X "list.extend" Zre:=by
 intro pins s σ H x vs v us Q I rx rv h;obtain⟨l,b,xs,zs,rfl,rfl,Z,hB,hz,q⟩:=h;cases rx;obtain⟨u,rfl,ru⟩:=rv.one;cases ru;obtain⟨z,O,n,r,hl,e⟩:=I.lstM Z;obtain⟨z2,j,n2,r2,aa,e2⟩:=I.lstM hB;have Y:O.toArray.size+j.toArray.size<=sizeLine:=by rw[Pl,Pl];lia
 have U:¬(!O.toArray.isEmpty && Uu (O.toArray.size+j.toArray.size))=true:=by
  rw[Zdg Y,Bool.and_false];exact Pu
 refine Sn F.slot_list_extend ⟨_,e,rfl⟩ F.entry_list_extend (F.args_list_extend_2 _ _)
  (AutoSeq1.list_extend_list_list_0 l O.toArray n b j.toArray n2 U (by rw[Pl];lia) (by lia)) ⟨e,e2,?_⟩
 refine⟨.non,_,I.lset (its':=O++j) Z e (by simp) (r.append r2) ?_,rfl,q⟩;rw[Pn];lia
def rPop:V->List V->Hp->VK->Prop:=λx vs H Q=>eX3 λl xs y=>x=.ref l/\vs=[]/\H l=some (.lst xs)/\xs[xs.length-1]?=some y/\Q y (upd H l (.lst xs.dropLast))
theorem Kp:MtM X "list.pop" rPop:=by
 intro pins s σ H x vs v us Q I rx rv h;obtain⟨l,xs,y,rfl,rfl,Y,hy,q⟩:=h;cases rx;have U:=rv.zero;subst U;obtain⟨z,j,n,r,hl,e⟩:=I.lstM Y;obtain⟨u,Z,ru⟩:=r.get hy;have O:j.toArray[j.toArray.size-1]?=some u:=by
  show j.toArray[j.length-1]?=some u;rw[<- Array.getElem?_toList,<- hl];exact Z
 refine Sn F.slot_list_pop ⟨_,e,rfl⟩ F.entry_list_pop (F.args_list_pop_1 _) (MeetsSeq.list_pop_last l j.toArray n u O (by rw[Pl];lia)) ⟨e,?_⟩;refine⟨y,_,I.lset (its':=j.dropLast) Y e ?_ r.dropLast ?_,ru,q⟩
 ·show j.toArray.eraseIdxIfInBounds (j.toArray.size-1)=j.dropLast.toArray;rw[Pl,List.eraseIdxIfInBounds_toArray,Zj8]
 ·rw[List.length_dropLast];lia
def rCat:R2:=λx y H Q=>eX4 λl b xs zs=>x=.ref l/\y=.ref b/\H l=some (.lst xs)/\H b=some (.lst zs)/\xs.length+zs.length<=sizeLine/\∀p,H p=none->Q (.ref p) (upd H p (.lst (xs++zs)))
theorem op_cat:OpR X (binaryOp .Add) rCat:=by
 intro pins s σ H x y v u Q I Z O h;obtain⟨l,b,xs,zs,rfl,rfl,U,hB,hz,q⟩:=h;cases Z;cases O;obtain⟨z,F,n,r,hl,e⟩:=I.lstM U;obtain⟨z2,j,n2,r2,Y,e2⟩:=I.lstM hB;refine PySem.P.add_list e e2 ?_ (by rw[Pl,Pl];lia);have ea:F.toArray++j.toArray=(F++j).toArray:=by simp
 rw[ea];exact⟨.ref _,_,I.lnew (t':=s.toks) (r.append r2) (by rw[Pn];lia),rfl,q _ I.fresh⟩
def rRep:R2:=λx y H Q=>eX3 λl k xs=>x=.ref l/\y=.int k/\H l=some (.lst xs)/\-(2 ^ 63)<=k/\k<2 ^ 63/\xs.length*k.toNat<=sizeLine /\
 ∀p,H p=none->Q (.ref p) (upd H p (.lst (Qr k.toNat xs).flatten))
theorem Zl3 {α:Type}(xs:List α)(k:Nat):(Qr k xs).flatten.length=k*xs.length:=by
 induction k with
 |zero=>simp
 |succ k j=>rw[Tv,U7,Pn,j,Nat.succ_mul,Nat.add_comm]
theorem Zuc:OpR X (binaryOp .Mult) rRep:=by
 intro pins s σ H x y v u Q I rx ry h;obtain⟨l,k,xs,rfl,rfl,hH,h1,h2,hz,q⟩:=h;cases rx;obtain⟨t,rfl⟩:=ry;obtain⟨z,j,n,r,hl,e⟩:=I.lstM hH;have ac:j.toArray.size*k.toNat<=sizeLine:=by rw[Pl,<- hl];exact hz
 have aa:¬j.toArray.size*k.toNat > (2 ^ 63-1) / 8:=by
  have:(sizeLine:Nat)<=(2 ^ 63-1) / 8:=by decide
  lia
 have Y:¬(!Builtin.List.listFitsIndex k)=true:=by
  rw[fitsIndex_both h1 h2];exact Pu
 have O:¬Uu (j.toArray.size*k.toNat)=true:=by
  rw[Zdg ac];exact Pu
 have Z:List.foldl (λx1 x2=>x1++x2) #[] (Qr (if j.toArray.isEmpty=true then 0 else k.toNat) j.toArray)=(Qr k.toNat j).flatten.toArray:=by
  have f0:∀m:Nat,List.foldl (λx1 x2=>x1++x2) #[] (Qr m j.toArray)=(Qr m j).flatten.toArray:=λm=>by
   have:=Zez j m [];rw[Sx]at this;exact this
  rw[f0];cases j with
  |nil=>simp
  |cons a r'=>rw[if_neg (by simp)]
 refine wpAny_binaryOp_repeat_ref (T:="list") (U:="int") (by decide) ⟨_,e,rfl⟩ (λs'=>typeIs_int s' k t) noFill_list_mul F.fills_int_mul F.slot_int_rmul repeat_list F.slot_int_index.lookup
  (Sn F.slot_int_rmul (typeIs_int s k t) F.entry_int_rmul (F.args_int_rmul_2 _ _) (int___rmul___int_list k t l j.toArray n)
   ⟨e,rfl,⟨_,e,rfl⟩,Sn F.slot_list_mul ⟨_,e,rfl⟩ F.entry_list_mul (F.args_list_mul_2 _ _) (AutoListH.list___mul___list_int_3 l j.toArray n k t Y aa O) ⟨e,?_⟩⟩)
 rw[Z];exact⟨.ref _,_,I.lnew (t':=s.toks) (r.rep k.toNat) (by rw[Zl3,Nat.mul_comm];exact hz),rfl,q _ I.fresh⟩
end
section
variable {prog:Program}{w:World}{A:Around}{E:Value->Shared->Prop}{s:Shared}
end
section
variable {X:Cx}
end
end L2
namespace Att
open PySem PySem.W PySem.Calls PyProof.Rows
theorem Zlf:∀(ns:List Int)(vs:List Value),WellAll P h vs (ns.map WData.int)->IntsAre vs ns:=by
 intro ns
 induction ns with
 |nil =>
  intro vs w;rw[Vu]at w;cases w;exact .nil
 |cons n ns j =>
  intro vs w;rw[Qs]at w;cases w with
  |cons a b =>
   cases a;exact .cons _ _ (j _ b)
theorem Zpy {l:OpenLaw}{n:Nat}(hn:l.most=some n){P:Params}{h:Heap}{args:List WData}{vals:List Value}
  (hpre:l.row.toRowW.claim.pre args=true) (hwl:WellAll P h vals args) :
  eX3 λa vs ns=>vals=[Value.ref a]/\args=[WData.list (ns.map WData.int)]/\h.get? a=some { cls:=.type "list",data:=.seq vs.toArray }/\IntsAre vs ns/\ns.length<=n:=by
 have U:WShape.hasAll [] args [.list .int]=true:=(pre_splitW hpre).1;have Y:l.pre.holds [] { args:=args }=true:=(pre_splitW hpre).2;obtain⟨d,r,rfl,h1,h2⟩:=hasAllW_cons U;obtain rfl:=hasAllW_nil h2;obtain⟨xs,rfl,h3⟩:=hasW_list h1;obtain⟨ns,rfl⟩:=items_int h3;have F:ns.length<=n:=by
  unfold OpenLaw.pre at Y;have O:(WTm.not (.lt (.lit (.int (n:Int))) (.len (.arg 0)))).holds [] { args:=[.list (ns.map .int)] }=true:=by
   have O:=(holds_andW Y).1;rw[hn]at O;exact O
  have I:=condW_of O (w_not (w_lt w_lit (w_len_list (w_arg rfl))));rw[Pp]at I;refine Nat.le_of_not_lt λq=>?_;have q':(n:Int)<((ns.length:Nat):Int):=by lia
  first
   |(rw[decide_eq_true q']at I;exact absurd I (by decide))
   |(simp at I;lia)
 cases hwl with
 |cons w1 w2 =>
  cases w2;cases w1 with
  |list Z j=>exact⟨_,_,ns,rfl,rfl,Z,Zlf ns _ j,F⟩
theorem Zqt (l:OpenLaw)(args:List WData):l.row.toRowW.claim.post args (.bool true) args=true :=
 postW_of (r:=l.row.toRowW) (X:=(true == true))
  (show WShape.has [] (.bool true) .bool=true by first|rfl|decide|simp[WShape.has,WShape.arms,WShape.armsAll])
  (show(WTm.eq .res (.lit (.bool true))).value [] { args:=args,res:=some (.bool true),after:=args }=some (.bool (true == true)) from w_eq_bool (w_res rfl) w_lit) rfl
theorem attach_call {l:OpenLaw}{n:Nat}{q:Program}{loose:List Str}{XP:(Str->Option Value)->Heap->Prop}{YP:World->Heap->Prop}{d:DefRec}
  (hn:l.most=some n) (hdf:d.params.defaults=[])
  (call:∀(w:World)(s₀ s₁:Shared)(mg mb:Str->Option Value)(fa:Addr)(o:Obj)(pm cd doc:Value)(a:Addr)(vs:List Value)(ns:List Int),
   Ground q loose [] XP w s₀ mg mb s₁.heap->YP w s₁.heap ->
   s₁.heap.get? fa=some o->o.data=.func (docDef d.name d.params d.body d.scope pm cd doc)->s₁.heap.CodeRec cd d.name->mg d.name=some (.ref fa) ->
   s₁.heap.get? a=some { cls:=.type "list",data:=.seq vs.toArray }->IntsAre vs ns->ns.length<=n->s₁.gens=#[] ->
   codeAny (model l.prog w) callerA (.call (.ref fa) ⟨[.ref a],[]⟩) (λr s'=>r=.ok (.ret (.bool true))/\OldK s₁.heap s'.heap/\s'.os=s₁.os/\AllBare s'.gens) s₁) :
  WalkO q loose XP YP l.row.toRowW d [] (λf vs=>PySem.call f vs):=by
 intro w s₀ s₁ mg mb G Y fa o pm cd doc dV kV ho hd U hD Z hg ac ad as F ae af aa ag;obtain rfl:dV=.none:=Dflts.none hD hdf;obtain rfl:kV=.none:=Dflts.noKw hD;obtain⟨a,vs,ns,rfl,rfl,I,j,O⟩:=Zpy hn F aa;refine enter_call (Te (call w s₀ s₁ mg mb fa o pm cd doc a vs ns G Y ho (fd_plain hd) U Z I j O hg) λr s' hq=>?_);obtain⟨rfl,h2,h3,h4⟩:=hq;exact⟨.inl ⟨.bool true,.bool true,[],rfl,λ_=>rfl,.bool true,Zqt l _,λ_=>⟨List.Pairwise.nil,λ_ hm=>(nomatch hm)⟩⟩,h2,h3,h4⟩
section
variable {prog:Program}{w:World}{A:Around}{E:Value->Shared->Prop}{s:Shared}{K:Frag}
end
end Att
namespace L2
open PySem PySem.Spec PyProof.Rows
theorem Zhi:∀{vs:List Value}{ns:List Int},IntsAre vs ns->Vals (ns.map V.int) vs
 |_,_,.nil=>.nil
 |_,_,.cons n t h=>.cons ⟨t,rfl⟩ (Zhi h)
def Zb2 (H:Hp):Prop:=∀b,H b=none\/∃o xs,H b=some (.frz o (.lst xs))
theorem Zrq {P:Program}{w:World}{K:Pg}{mg mb:Str->Option Value}{CX:Cq}{k:Nat}{fa a:Addr}{fd:FuncData}{x:Str}{sp:Sp}{s₁:Shared}{vs:List Value}{ns:List Int}
  (KX:K.In s₁.heap) (hns:s₁.heap.Ns mainGlobals mg) (hb:s₁.heap.Ns builtinsNs mb) (hbb:∀x:Str,x≠"__name__" -> mb x=bootBuiltins x) (hlim:s₁.heap.NoLimit) (hg:s₁.gens=#[])
  (ha:s₁.heap.get? a=some { cls:=.type "list",data:=.seq vs.toArray }) (hi:IntsAre vs ns) (hl:ns.length<=sizeLine) (hr:Room k callerA)
  (F:∀base:Heap,K.In base->base.Ns mainGlobals mg->FnOk P w K mg base CX k fa fd [x] sp) (hbind:∀(s:Shared)(u:Value),BindsTo s fd ⟨[u],[]⟩ [(x,u)])
  (hsp:∀H:Hp,Zb2 H->SqL K H a (ns.map V.int)->sp [.ref a] H (λv _=>v=.bl true) λ_ _ _=>False)
  (hCX:∀H e s',CX [] H s₁ (λ_ _ _=>False) e s'->False) :
  codeAny (model P w) callerA (.call (.ref fa) ⟨[.ref a],[]⟩) (λr s'=>r=.ok (.ret (.bool true))/\OldK s₁.heap s'.heap/\s'.os=s₁.os/\AllBare s'.gens) s₁:=by
 have rv:=Zhi hi;have aa:=hi.length;have O:∀H:Hp,Zb2 H->SqL K H a (ns.map V.int)->HOk P w H s₁.heap->(∀b,H b≠none->b=a)->(H a≠none->K.lookup a=none) ->
   codeAny (model P w) callerA (.call (.ref fa) ⟨[.ref a],[]⟩) (λr s'=>r=.ok (.ret (.bool true))/\OldK s₁.heap s'.heap/\s'.os=s₁.os/\AllBare s'.gens) s₁:=by
  intro H hO hS hok hA hK;have j:∀{b:Addr}{o:Obj},s₁.heap.get? b=some o->H b=none->(F7 s₁.heap H).get? b=some o:=λe n=>Znf e n;have ad:∀{b:Addr}{o:Obj}{es:Array DictEntry}{Z:Nat},s₁.heap.get? b=some o->o.data=.dict es Z->H b=none:=λ{b o es Z} e d=>by
   cases q:H b with
   |none=>rfl
   |some u =>
    have e':b=a:=hA b (by rw[q];simp);subst e';rw[ha]at e;cases e;have d':Data.seq vs.toArray _=Data.dict es Z:=d;cases d'
  have I:∀{b:Addr}{m:Str->Option Value},s₁.heap.Ns b m->(F7 s₁.heap H).Ns b m:=λ{b m} ⟨o,es,Z,e,d,r⟩=>⟨o,es,Z,j e (ad e d),d,r⟩;have U:K.In (F7 s₁.heap H):=λb o e=>j (KX b o e) (by
   cases q:H b with
   |none=>rfl
   |some u =>
    have e':b=a:=hA b (by rw[q];simp);subst e';rw[hK (by rw[q];simp)]at e;cases e)
  have hM:Mod K mg (F7 s₁.heap H):=⟨U,I hns,⟨mb,I hb,hbb⟩,let ⟨mc,h1,h2⟩:=hlim;⟨mc,I h1,h2⟩⟩;have e0:Env0 P w K mg (F7 s₁.heap H) callerA [] s₁ H:=⟨rfl,hM,λb o e=>Zpi e,Nat.le_of_eq (Zjt _ _),trivial,λb hb=>absurd (show b∈([]:List Addr) from hb) (by simp),hok,.of_eq hg⟩;refine Te ((F _ U (I hns)).run callerA [] s₁ H ⟨[.ref a],[]⟩ [.ref a] [.ref a] _ _ hr e0 (hbind s₁ (.ref a)) (.cons rfl .nil) (hsp H hO hS)) λr s' h=>?_;cases r with
  |error e=>exact(hCX H e s' h).elim
  |ok fl =>
   cases fl with
   |next=>exact Ql h
   |brk=>exact Ql h
   |cont=>exact Ql h
   |ret u =>
    obtain⟨v,H',os,bare,un,ac,r',q⟩:=h;have q':v=.bl true:=q;subst q';obtain rfl:u=Value.bool true:=r';refine⟨rfl,OldK.of_keep λb o e=>?_,os,bare⟩;cases q:H b with
    |none=>exact un.keep b o e q (by intro z;exact absurd (show b∈([]:List Addr) from z) (by simp)) (by simp)
    |some u =>
     rcases hO b with z|⟨ob,xs,z⟩
     ·rw[q]at z;cases z
     ·have z2:=un.frzs b ob _ z;obtain⟨e1,_⟩:=hok b _ z;obtain⟨e2,_⟩:=ac b _ z2;rw[e]at e1;cases e1;exact e2
 cases hk:K.lookup a with
 |some o =>
  have e:=KX a o hk;rw[ha]at e;cases e;refine O (λ_=>none) (λ_=>.inl rfl) (.inr ⟨_,vs.toArray,_,hk,rfl,rfl,rfl,by rw[Pl,aa];exact hl,by simpa using rv⟩) (λb u z=>by have Y:(none:Option HO)=some u:=z;cases Y) (λb z=>absurd rfl z) λz=>absurd rfl z
 |none =>
  refine O (λb=>if b=a then some (.frz { cls:=.type "list",data:=.seq vs.toArray } (.lst (ns.map V.int))) else none) (λb=>?_) (.inl (.inr ⟨{ cls:=.type "list",data:=.seq vs.toArray },if_pos rfl⟩)) (λb u z=>?_) (λb z=>?_) λ_=>hk
  ·by_cases hb:b=a
   ·exact .inr ⟨_,_,if_pos hb⟩
   ·exact .inl (if_neg hb)
  ·by_cases hb:b=a
   ·have Y:=(if_pos hb).symm.trans z;cases Y;subst hb;exact⟨ha,by rw[Pp];exact hl,vs,_,rv,ha⟩
   ·have Y:=(if_neg hb).symm.trans z;cases Y
  ·by_cases hb:b=a
   ·exact hb
   ·exact absurd (if_neg hb) z
theorem walk_of {l:Ws}{n k:Nat}{q:Program}{loose:List Str}{XP:(Str->Option Value)->Heap->Prop}{YP:World->Heap->Prop}{d:DefRec}{K:Params->Pg}{CX:World->Cq}{sp:World->Sp}{x:Str}
  (hn:l.most=some n) (hn2:n<=sizeLine) (hdf:d.params.defaults=[]) (hr:Room k callerA)
  (hY:∀(w:World)(h:Heap),YP w h->(K w.params).In h)
  (F:∀(w:World)(mg:Str->Option Value)(fa:Addr)(h:Heap),(K w.params).In h->h.Ns mainGlobals mg->mg d.name=some (.ref fa) ->
   ∃fd:FuncData,(∀(s:Shared)(u:Value),BindsTo s fd ⟨[u],[]⟩ [(x,u)]) /\
    ∀base:Heap,(K w.params).In base->base.Ns mainGlobals mg->FnOk l.prog w (K w.params) mg base (CX w) k fa fd [x] (sp w))
  (hsp:∀(w:World)(H:Hp)(a:Addr)(ns:List Int),ns.length<=n->Zb2 H->SqL (K w.params) H a (ns.map V.int)->sp w [.ref a] H (λv _=>v=.bl true) λ_ _ _=>False)
  (hCX:∀(w:World)(H:Hp)(s:Shared)(e:Value)(s':Shared),CX w [] H s (λ_ _ _=>False) e s'->False) :
  PySem.W.WalkO q loose XP YP l.row.toRowW d [] (λf vs=>PySem.call f vs):=by
 refine Att.attach_call hn hdf λw s₀ U mg mb fa o pm cd aa a vs ns G Y ho hd ac Z O I j hg=>?_;have KX:=hY w _ Y;obtain⟨fd,hb,hF⟩:=F w mg fa _ KX G.T.g Z;exact Zrq KX G.T.g G.T.b G.T.builtins G.T.nolimit hg O I (Qg j hn2) hr hF hb (λH hO hS=>hsp w H a ns j hO hS) λH e s'=>hCX w H U e s'
noncomputable def Hr (s:Stmt):Arguments:=match s with
 |.FunctionDef _ a _ _ _ _ _ _ _ _=>a
 |_=>{ posonlyargs:=[],args:=[],vararg:=none,kwonlyargs:=[],kw_defaults:=[],kwarg:=none,defaults:=[] }
noncomputable def Fc (s:Stmt):List Stmt:=match s with
 |.FunctionDef _ _ b _ _ _ _ _ _ _=>b
 |_=>[]
noncomputable def A5 (s:Stmt):Scope:=match s with
 |.FunctionDef _ _ _ _ _ _ sc _ _ _=>sc
 |_=>{ kind:=.function,names:=[],isGenerator:=false,isCoroutine:=false }
noncomputable abbrev Aq:Cq:=λ_ _ _ _ _ _=>False
noncomputable abbrev E0:XK:=λ_ _ _=>False
theorem Dj:F6 Aq X E0:=λ_ _ _ _ _ _ _ h=>h.elim
structure Fun (K:Pg)(x qual:Str)(st:Stmt)(f:Addr)(fd:FuncData):Prop where
 ex:eX9 λ(oc:Value)(od:Option Addr)(kV doc pm:Value)(an:Option Addr)(cdv ct:Value)(osl:Array (Option Value))=>
  fd=Sb x qual (Hr st) (Fc st) (A5 st) .none kV doc pm an cdv ct/\K.lookup f=some ⟨oc,od,.func fd,osl⟩/\PySem.W.codeIn K cdv qual=true
 kp:Rm K (.ref f)=true
section
variable {P:Program}{w:World}{K:Pg}{mg:Str->Option Value}{base:Heap}
theorem Fun.ok {x qual:Str}{st:Stmt}{f:Addr}{fd:FuncData}{N ps:List Str}{k:Nat}{sp:Sp}(F:Fun K x qual st f fd)(S:A9 N ps (A5 st))(len:∀vs H Q E,sp vs H Q E->vs.length=ps.length)
  (hbody:∀(cdv:Value)(A:Around)(outer:List Env)(s:Shared)(H:Hp)(vs:List V)(Q:VK)(E:XK),Room k (A.deeper (envOfC qual (A5 st) s.heap.objs.size f cdv))->sp vs H Q E ->
   ∃t,PSs (El Aq P w K mg base N qual (A5 st) f cdv A outer s H E).nox (Fc st) t/\t { nx:=λ_ H'=>Q .non H',rt:=Q } (Fn N vs) H):FnOk P w K mg base Aq (k+1) f fd ps sp:=by
 obtain⟨oc,od,kV,Y,pm,an,cdv,ct,O,rfl,Z,j⟩:=F.ex;refine Zd3 Z j S len λA outer s H vs Q E U I=>?_;obtain⟨t,h,q⟩:=hbody cdv A outer s H vs Q E U I;exact⟨t,h.nox,q⟩
theorem Fun.binds {x qual:Str}{st:Stmt}{f:Addr}{fd:FuncData}{ps:List Str}(F:Fun K x qual st f fd)
  (h:∀(kV doc pm:Value)(an:Option Addr)(cdv ct:Value)(us:List Value),us.length=ps.length->bindArgs (Sb x qual (Hr st) (Fc st) (A5 st) .none kV doc pm an cdv ct) ⟨us,[]⟩=pure (ps.zip us)):Binds K fd ps []:=by
 obtain⟨U,od,kV,doc,pm,an,cdv,ct,j,rfl,O,I⟩:=F.ex;exact .all (h kV doc pm an cdv ct)
theorem fun_mk {x qual:Str}{st:Stmt}{f:Addr}{oc:Value}{od an:Option Addr}{osl:Array (Option Value)}{kV doc pm cdv ct:Value}(l:K.lookup f=some ⟨oc,od,.func (Sb x qual (Hr st) (Fc st) (A5 st) .none kV doc pm an cdv ct),osl⟩)
  (c:PySem.W.codeIn K cdv qual=true) (k:Rm K (.ref f)=true):Fun K x qual st f (Sb x qual (Hr st) (Fc st) (A5 st) .none kV doc pm an cdv ct):=⟨⟨oc,od,kV,doc,pm,an,cdv,ct,osl,rfl,l,c⟩,k⟩
end
section
variable {X:Cx}
end
theorem iteF {A B:Prop}(h:B):if false=true then A else B:=by
 rw[if_neg Pu];exact h
theorem iteT {A B:Prop}(h:A):if true=true then A else B:=by
 rw[if_pos rfl];exact h
theorem Be {c A B:Prop}[Decidable c](h1:c->A)(h2:¬c->B):if c then A else B:=by
 by_cases h:c
 ·rw[if_pos h];exact h1 h
 ·rw[if_neg h];exact h2 h
def Same (H H':Hp):Prop:=∀b o,H b=some o->H' b=some o
theorem Same.refl (H:Hp):Same H H:=λ_ _ h=>h
theorem Same.trans (a:Same H H1)(b:Same H1 H2):Same H H2:=λc o h=>b c o (a c o h)
theorem Same.free (e:Same H H')(h:H' l=Option.none):H l=Option.none:=by
 cases q:H l with
 |none=>rfl
 |some o =>
  rw[e l o q]at h;cases h
theorem Same.seq {K:Pg}{H H':Hp}{a:Addr}{xs:List V}(e:Same H H')(h:SqL K H a xs):SqL K H' a xs:=by
 rcases h with(h|⟨o,h⟩)|h
 ·exact .inl (.inl (e _ _ h))
 ·exact .inl (.inr ⟨o,e _ _ h⟩)
 ·exact .inr h
end L2
set_option maxHeartbeats 8000000
namespace L2
open PySem PySem.Spec PyProof.Rows
noncomputable def D8 (env:Env):List (Str×NameKind)->List (Str×Addr)->List (Str×Addr)
 |[],j=>j
 |(n,k)::r,j=>D8 env r (if k == .free then (match env.cells.lookup n with|some a=>(n,a)::j|none=>j) else j)
theorem Zah:∀{ns:List (Str×NameKind)}{acc:List (Str×Addr)}{x:Str}{c:Addr},(∀x c,acc.lookup x=some c->env.cells.lookup x=some c)->(D8 env ns acc).lookup x=some c->env.cells.lookup x=some c
 |[],acc,x,c,h,e=>h x c e
 |(n,k)::r,acc,x,c,h,e=>by
  refine Zah (ns:=r) ?_ e;intro y d;split
  ·split
   ·rename_i a F;intro q;rw[R7]at q;split at q
    ·rename_i I;have j:y=n:=by simpa using I
     subst j;rw[F];exact q
    ·exact h y d q
   ·exact h y d
  ·exact h y d
theorem Zg0:∀{ns:List (Str×NameKind)}{acc:List (Str×Addr)}{x:Str},(acc.lookup x).isSome=true->((D8 env ns acc).lookup x).isSome=true
 |[],acc,x,h=>h
 |(n,k)::r,acc,x,h=>by
  refine Zg0 (ns:=r) ?_;split
  ·split
   ·rw[R7];split
    ·rfl
    ·exact h
   ·exact h
  ·exact h
theorem Zde:∀{ns:List (Str×NameKind)}{acc:List (Str×Addr)}{x:Str},(x,NameKind.free)∈ns->(env.cells.lookup x).isSome=true->((D8 env ns acc).lookup x).isSome=true
 |[],acc,x,h,_=>by cases h
 |(n,k)::r,acc,x,h,j=>by
  rcases Po.mp h with e|e
  ·cases e;refine Zg0 (ns:=r) ?_;obtain⟨a,F⟩:=Sf.mp j;rw[if_pos (by rfl),F];show(Rz n ((n,a)::acc)).isSome=true;rw[R7];simp
  ·exact Zde (ns:=r) e j
theorem Zik (h:∀x∈scope.names,x.2=.free->(env.cells.lookup x.1).isSome=true):closureFor scope env=pure (D8 env scope.names []):=by
 have all:∀(ns:List (Str×NameKind))(j:List (Str×Addr)),(∀x∈ns,x.2=.free->(env.cells.lookup x.1).isSome=true) ->
   (forIn ns j λ(x:Str×NameKind) (cs:List (Str×Addr))=>(if (x.2 == NameKind.free)=true then do let a <- cellOf env x.1;pure (ForInStep.yield ((x.1,a)::cs)) else pure (ForInStep.yield cs):Sem (ForInStep (List (Str×Addr)))))=pure (D8 env ns j):=by
  intro ns
  induction ns with
  |nil=>intro j _;rfl
  |cons x r Z =>
   intro j U;obtain⟨n,k⟩:=x;rw[Ua];by_cases I:(k == NameKind.free)=true
   ·obtain⟨a,O⟩:=Sf.mp (U (n,k) Tx (by simpa using I));have O:env.cells.lookup n=some a:=O;have F:cellOf env n=pure a:=by unfold cellOf;rw[O]
    simp only[I,if_true,F];refine Eq.trans (Z ((n,a)::j) λy Y=>U y (Rt _ Y)) ?_
    conv=>rhs;unfold D8
    simp only[I,if_true,O]
   ·simp only[I];refine Eq.trans (Z j λy Y=>U y (Rt _ Y)) ?_
    conv=>rhs;unfold D8
    simp only[I];rfl
 unfold closureFor;exact(by
  have:=all scope.names [] h
  first|exact this|(simp only[bind_pure] ;exact this)|simpa using this)
noncomputable def Dh (X:Cx)(scope:Scope)(C:Addr)(N:List Str)(s₀:Shared)(H₀:Hp)(ex:List Addr):Cx where
 prog:=X.prog
 w:=X.w
 K:=X.K
 mg:=X.mg
 base:=X.base
 A:=X.A
 N:=N
 s₀:=s₀
 H₀:=H₀
 env:=compEnvC scope (D8 X.env scope.names []) C X.env
 outer:=X.stack
 stack:=X.stack
 ex:=ex
 fn:=λ_=>false
 calm:=X.calm
 pn:=[]
 xe:=λ_ _=>False
structure Hz (sc:Scope)(env:Env):Prop where
 kind:sc.kind=.function
 nocell:∀y∈sc.names,y.2≠.cell
 loc:∀y∈sc.names,y.2=.local->sc.names.lookup y.1=some .local
 free:∀x∈sc.names,x.2=.free->(env.cells.lookup x.1).isSome=true
theorem Nk {env:Env}:∀{names:List (Str×NameKind)}{x:Str}{k:NameKind},((names.map λ(n,k)=>if (k == NameKind.free && env.scope.kind == .function && env.kindOf n == some .cell) then (n,NameKind.cell) else (n,k)).lookup x=some k) ->
  ∃k',names.lookup x=some k'/\(k'=k\/(k'=.free/\k=.cell))
 |[],x,k,h=>by simp at h
 |(n,q)::r,x,k,h=>by
  have I:=@Nk env r x k;have h:Rz x ((if (q == NameKind.free && env.scope.kind == .function && env.kindOf n == some .cell)=true then (n,NameKind.cell) else (n,q))::_)=some k:=h;rw[R7];cases F:x == n with
  |true =>
   by_cases j:(q == NameKind.free && env.scope.kind == .function && env.kindOf n == some .cell)=true
   ·rw[if_pos j]at h;simp only[R7,F]at h;refine⟨q,rfl,.inr ⟨?_,(Qa h).symm⟩⟩;simp only[Ry]at j;simpa using j.1.1
   ·rw[if_neg j]at h;simp only[R7,F]at h;exact⟨q,rfl,.inl (Qa h)⟩
  |false =>
   by_cases j:(q == NameKind.free && env.scope.kind == .function && env.kindOf n == some .cell)=true
   ·rw[if_pos j]at h;simp only[R7,F]at h;exact I h
   ·rw[if_neg j]at h;simp only[R7,F]at h;exact I h
def Gp (X:Cx)(scope:Scope)(N:List Str)(σ σ0:St):Prop :=
 σ0.length=N.length/\∀(i:Nat)(x:Str)(v:V),N[i]?=some x->σ0[i]?=some (some v)->∃j:Nat,X.N[j]?=some x/\σ[j]?=some (some v)/\scope.names.lookup x=some .free/\(X.env.kindOf x=some .cell\/X.env.kindOf x=some .free)
section
variable {X:Cx}
theorem Zp5 (I:Inv X pins σ H s)(S:Hz scope X.env)(hf:∀b∈fp,FpOk X pins H b)(hlt:∀b∈fp,b<s.heap.objs.size)(T:Gp X scope N σ σ0)(hn:h'.Ns s.heap.objs.size (λ_=>none))(hk:∀b o,s.heap.get? b=some o->h'.get? b=some o) :
  Inv (Dh X scope s.heap.objs.size N s H fp) [] σ0 H { s with heap:=h',toks:=tk }:=by
 have F:∀x c,(D8 X.env scope.names []).lookup x=some c->X.env.cells.lookup x=some c:=λx c e=>Zah (ns:=scope.names) (acc:=[]) (λy d z=>by simp at z) e;have U:∀x,scope.names.lookup x=some .free->∃c,(D8 X.env scope.names []).lookup x=some c:=λx e=>by
  have m:=Sh e;exact Sf.mp (Zde m (S.free _ m rfl))
 have ac:∀b∈fp,b ∉ Bz X.stack:=λb hb z=>by
  obtain⟨_,f1,f2,_⟩:=hf b hb;rcases Po.mp (I.stkSub b z) with e|e
  ·exact f1 e
  ·exact f2 e
 have Z:∀x,((relabel scope X.env).names.lookup x=some .cell\/(relabel scope X.env).names.lookup x=some .free)->scope.names.lookup x=some .free:=λx Y=>by
  rcases Y with Y|Y
  ·obtain⟨k',e,q⟩:=Nk Y;rcases q with q|⟨q,_⟩
   ·subst q;exact absurd rfl (S.nocell _ (Sh e))
   ·rw[e,q]
  ·obtain⟨k',e,q⟩:=Nk Y;rcases q with q|⟨_,q⟩
   ·rw[e,q]
   ·cases q
 have noex:∀b o,X.base.get? b=some o->b ∉ fp:=λb o e hb=>by
  obtain⟨_,_,_,f3,_⟩:=hf b hb;rcases f3 with z|z
  ·exact I.ok.noex b o e z
  ·exact absurd (P9 (Pq e) (Qg I.ok.bsz z)) (Q4 _)
 refine⟨⟨I.ok.mod,S.kind,I.ok.glob,I.ok.blt,Pj _,λx y c e1 e2=>I.ok.inj x y c (F x c e1) (F y c e2),λx Y=>U x (Z x Y),λx c z=>absurd (show false=true from z) Pu,I.ok.hd,I.ok.frames,.inl rfl,
   λb hb=>⟨P0 (hlt b hb),λx c e=>(hf b hb).2.2.2.2.1 x c (F x c e)⟩,I.bs,Qg I.ok.bsz I.sz,noex,ac,I.stack,I.stkFree⟩,
  rfl,I.bare,Un.kept hk,⟨_,hn,λi x v e1 e2 e3=>?_⟩,λx c e=>?_,I.hok.fresh (Pj _),λx c e=>I.freeC x c (F x c e),λp hp=>absurd (show p∈([]:List (Addr×Obj)) from hp) (by simp),I.hok.kept hk,T.1⟩
 ·obtain⟨j,hj,hs,aa,O⟩:=T.2 i x v e1 e2;obtain⟨m,_,hl⟩:=I.loc;obtain⟨u,r,l⟩:=hl j x v hj hs (O.elim (λz=>Or.inr (Or.inl z)) λz=>Or.inr (Or.inr z));refine⟨u,r,.inr ⟨?_,?_⟩⟩
  ·show(relabel scope X.env).names.lookup x=some .cell\/(relabel scope X.env).names.lookup x=some .free;rcases e3 with z|z|z
   ·obtain⟨k',e,q⟩:=Nk (show(relabel scope X.env).names.lookup x=some .local from z);rw[aa]at e;cases e;rcases q with q|⟨_,q⟩ <;> cases q
   ·exact .inl z
   ·exact .inr z
  ·obtain⟨c,hc⟩:=U x aa;refine⟨c,hc,?_⟩;rcases l with⟨k,_⟩|⟨_,c',e,z⟩
   ·rcases O with O|O <;> (rw[O]at k;cases k)
   ·have e':=F x c hc;rw[e]at e';cases e';obtain⟨o,ho,hd⟩:=z;exact⟨o,hk _ o ho,hd⟩
 ·obtain⟨v,o,ho,hd⟩:=I.cell x c (F x c e);exact⟨v,o,hk _ o ho,hd⟩
theorem Zt7 (I:Inv X pins σ H s)(hf:∀b∈fp,FpOk X pins H b)(I':Inv (Dh X scope s.heap.objs.size N s H fp) pins' σ' H' s')(hs:P4 s.heap.objs.size s'.heap h'):Inv X pins σ H' { s' with heap:=h' }:=by
 have U:H' s.heap.objs.size=none:=I'.free;have ne:∀b o,s.heap.get? b=some o->b≠s.heap.objs.size:=λb o e=>P0 (Pq e);have B:Un (Bz X.stack) fp H H' s.heap s'.heap:=I'.base;refine I.call' (s':={ s' with heap:=h' }) (ch:=fp) I'.os ⟨λb o e n j F=>?_,λb o e n j F=>?_,B.free,λb o e F=>?_,B.tups,B.frzs,B.tbls⟩ (λb o e=>?_) I'.bare (λb j=>?_)
 ·exact(hs.2 b (ne b o e)).trans (B.keep b o e n j F)
 ·obtain⟨Y,q⟩:=B.slot b o e n j F;exact⟨Y,(hs.2 b (ne b o e)).trans q⟩
 ·obtain⟨o',q⟩:=B.there b o e F;exact⟨o',(hs.2 b (ne b o e)).trans q⟩
 ·refine(I'.hok b o e).stay (λc w' O q=>(hs.2 c ?_).trans q) (λ_ q=>q) λ_ _ q=>q;rintro rfl;rcases O with rfl|O
  ·rw[U]at e;cases e
  ·rw[U]at O;cases O
 ·obtain⟨_,f1,_,f3,Z,f5⟩:=hf b j;exact⟨f3,f1,Z,f5⟩
end
section
variable {prog:Program}{w:World}{A:Around}{R:Result->Shared->Prop}{s:Shared}
theorem Zk0 (I:Nat->Shared->Prop)(turn:∀n s,I n s->wpAny (model prog w) A (pyNext it) (λr s₁=>match r with
   |none=>R (.ok .next) s₁
   |some v=>wpAny (model prog w) A (letOwnedTupleGo target it v) (λ_ s₁'=>wpAny (model prog w) A (assign target env v) (λ_ s₂ =>
     wpAny (model prog w) A (forIn ifs true λc r=>if r=true then do let ok <- isTrue c env (eval c env);pure (ForInStep.yield ok) else pure (ForInStep.yield r)) (λok s₃ =>
      if ok=true then wpAny (model prog w) A (eval elt env) (λx s₄ =>
       wpAny (model prog w) A (call (.builtin "list.append") [acc,x]) (λ_ s₅=>∃m,m<n/\I m s₅) (λ_ _=>False) s₄) (λ_ _=>False) s₃
      else ∃m,m<n/\I m s₃) (λ_ _=>False) s₂) (λ_ _=>False) s₁') (λ_ _=>False) s₁) (λ_ _=>False) s)(n:Nat)(h:I n s):codeAny (model prog w) A (.compLoop (.ListComp elt [⟨target,iter,ifs,0⟩] scope pos) 0 it acc env) R s:=by
 refine codeAny_loop rfl I (λn s hI=>?_) n h;show wpAny _ A ((compTurn (.ListComp elt [⟨target,iter,ifs,0⟩] scope pos) 0 it acc env).onRaise (λx=>do noteFrame x env;theTreesLotGoes x)) _ _ s;refine wpAny_noted ?_;rw[compTurn_list];have up:∀{α:Type}{t:Sem α}{Q:α->Shared->Prop}{s:Shared}{E:Value->Shared->Prop},wpAny (model prog w) A t Q (λ_ _=>False) s->wpAny (model prog w) A t Q E s:=λh=>wpAny_noRaise h;refine Ph (wpAny_standAt (Ph (up (Ak (turn n s hI) λr s₁ F=>?_))));cases r with
 |none=>exact Pi F
 |some v =>
  refine Ph (up (Ak F λ_ s₁' O=>?_));refine Ph (up (Ak O λ_ s₂ U=>Ph (up (Ak U λok s₃ j=>?_))));cases ok with
  |false=>exact Pi ⟨rfl,j⟩
  |true =>
   exact Ph (Ph (up (Ak j λx s₄ Y=>Ph (up (Ak Y λ_ s₅ Z=>Pi (Pi ⟨rfl,Z⟩))))))
end
def Kz (J:It)(g:TG)(tt:TT)(te:TE)(σ0:St)(H1:Hp)(D:Addr)(Q:VK):Prop :=
 ∃W:Nat->Nat->St->Hp->Prop,(∃m,W 0 m σ0 (upd H1 D (.lst [])))/\∀i m σ' H',W i m σ' H' ->
  (J.stop i H'/\Q (.ref D) H')\/(J.go i H'/\∃N:St->Hp->Prop,(∀j H2,N j H2->∃m',m'<m/\W (i+1) m' j H2)/\∀x H2,J.yld i H' x H2->g x σ' H2 λj O=>tt j O λb I =>
   if b=true then te j I λy F=>∃ys,F D=some (.lst ys)/\ys.length<sizeLine/\N j (upd F D (.lst (ys++[y]))) else N j I)
def Kl (wi:TI)(σ0:St->St)(g:TG)(tt:TT)(te:TE):TE:=λσ H Q=>wi σ H λJ H1=>∀D,H1 D=none->Kz J g tt te (σ0 σ) H1 D Q
def Hi (X:Cx)(ifs:List Expr)(t:TT):Prop :=
 ∀(pins:List (Addr×Obj))(s:Shared)(σ:St)(H:Hp)(Q:Bool->Hp->Prop),Inv X pins σ H s->t σ H Q ->
  wpAny (model X.prog X.w) X.A (forIn ifs true λc r=>if r=true then do let ok <- isTrue c X.env (eval c X.env);pure (ForInStep.yield ok) else pure (ForInStep.yield r)) (TP X pins σ Q) X.xe s
def O0:TT:=λ_ H Q=>Q true H
section
variable {X:Cx}{elt target iter:Expr}{ifs:List Expr}{scope:Scope}{pos:Pos}{N:List Str}{wi:TI}{σ0:St->St}{g:TG}{tt:TT}{te:TE}
theorem Zdo {pins:List (Addr×Obj)}{σ:St}{H:Hp}{s:Shared}{it:Addr}{fp:List Addr}{tn:Nat->Heap->Prop}{J:It}{Q:Addr->Hp->Prop}{RR:Value->Addr->Result->Shared->Prop}{E:Value->Shared->Prop}
  (hc:X.calm=true) (S:Hz scope X.env) (T:Gp X scope N σ (σ0 σ)) (I:Inv X pins σ H s) (Tn:Hf X.prog X.w X.K target J fp it tn) (st:tn 0 s.heap) (hf:∀b∈fp,FpOk X pins H b)
  (hg:∀C s H fp,PG (Dh X scope C N s H fp) target g) (ht:∀C s H fp,Hi (Dh X scope C N s H fp) ifs tt) (he:∀C s H fp,PE (Dh X scope C N s H fp) elt te)
  (hw:∀D,H D=none->∃W:Nat->Nat->St->Hp->Prop,(∃m,W 0 m (σ0 σ) (upd H D (.lst [])))/\∀i m σ' H',W i m σ' H' ->
   (J.stop i H'/\Q D H')\/(J.go i H'/\∃N:St->Hp->Prop,(∀σ2 H2,N σ2 H2->∃m',m'<m/\W (i+1) m' σ2 H2)/\∀x H2,J.yld i H' x H2->g x σ' H2 λσ2 H3=>tt σ2 H3 λb H4 =>
    if b=true then te σ2 H4 λy H5=>∃ys,H5 D=some (.lst ys)/\ys.length<sizeLine/\N σ2 (upd H5 D (.lst (ys++[y]))) else N σ2 H4))
  (hR:∀(D C:Addr)(H':Hp)(s':Shared)(m:Str->Option Value),s.heap.objs.size<=C->H' C=none->s'.heap.Ns C m->(∀h',P4 C s'.heap h'->Inv X pins σ H' { s' with heap:=h' })->Q D H'->RR (.ref D) C (.ok .next) s') :
  wpAny (model X.prog X.w) X.A (newList []) (λacc s₃=>wpAny (model X.prog X.w) X.A (newFunctionEnv scope X.env.globals (D8 X.env scope.names []) [] X.env.qual none .none (some X.env)) (λcenv s₄ =>
   codeAny (model X.prog X.w) X.A (.compStart (.ListComp elt [⟨target,iter,ifs,0⟩] scope pos) 0 (.ref it) acc { cenv with scope:=relabel scope X.env }) (RR acc cenv.locals) s₄) E s₃) E s:=by
 refine R5 (wpAny_newFunctionEnv S.nocell (by intro y hy;simp at hy) (λae ag af=>?_) S.kind);have hD:H s.heap.objs.size=none:=I.hok.fresh (Pj _);have I3:Inv X pins σ (upd H s.heap.objs.size (.lst [])) { s with heap:=s.heap.push { cls:=.type "list",dict:=none,data:=.seq ([]:List Value).toArray } }:=I.lnew (ys:=[]) (its:=[]) (t':=s.toks) .nil (by simp);have av:∀b∈fp,b<s.heap.objs.size:=λb j=>by obtain⟨o,e,_⟩:=Tn.obj _ _ st b j;exact Pq e
 have ah:∀b∈fp,FpOk X pins (upd H s.heap.objs.size (.lst [])) b:=λb j=>⟨by rw[Ag (P0 (av b j))];exact(hf b j).1,(hf b j).2⟩;have aj:∀b∈fp,b<({ s with heap:=s.heap.push { cls:=.type "list",dict:=none,data:=.seq ([]:List Value).toArray } }:Shared).heap.objs.size:=λb j=>by
  show b<(s.heap.push _).objs.size;rw[Qq];exact Nat.lt_succ_of_lt (av b j)
 have a0:∀b o,({ s with heap:=s.heap.push { cls:=.type "list",dict:=none,data:=.seq ([]:List Value).toArray } }:Shared).heap.get? b=some o->ae.get? b=some o:=λb o e =>
  af.extBut b o (P0 (Pq e)) (Pm _ e)
 have I4:=Zp5 (N:=N) (tk:=s.toks+([]:List (Str×Value)).length) I3 S ah aj T ag a0;have as:tn 0 ae:=Tn.keep _ _ _ st λb j o e=>a0 b o (Pm _ e);obtain⟨W,⟨m0,w0⟩,a3⟩:=hw _ hD;generalize hX:Dh X scope ({ s with heap:=s.heap.push { cls:=.type "list",dict:=none,data:=.seq ([]:List Value).toArray } }:Shared).heap.objs.size N { s with heap:=s.heap.push { cls:=.type "list",dict:=none,data:=.seq ([]:List Value).toArray } } (upd H s.heap.objs.size (.lst [])) fp=F at I4;have eP:F.prog=X.prog:=by rw[<- hX];rfl
 have eW:F.w=X.w:=by rw[<- hX];rfl
 have eK:F.K=X.K:=by rw[<- hX];rfl
 have eA:F.A=X.A:=by rw[<- hX];rfl
 have eC:F.calm=true:=by rw[<- hX];exact hc
 have eX:F.xe=λ_ _=>False:=by rw[<- hX];rfl
 have bi:F.ex=fp:=by rw[<- hX];rfl
 have a7:PG F target g:=by rw[<- hX];exact hg _ _ _ _
 have bg:Hi F ifs tt:=by rw[<- hX];exact ht _ _ _ _
 have a6:PE F elt te:=by rw[<- hX];exact he _ _ _ _
 have eE:F.env=compEnvC scope (D8 X.env scope.names []) ({ s with heap:=s.heap.push { cls:=.type "list",dict:=none,data:=.seq ([]:List Value).toArray } }:Shared).heap.objs.size X.env:=by rw[<- hX];rfl
 have aa:∀{H':Hp},(∀b∈fp,H' b=none)->∀b∈fp,FpOk F [] H' b:=λ{H'} hn b j=>by
  obtain⟨f0,f1,f2,f3,f4,f5⟩:=ah b j;rw[<- hX];refine⟨hn b j,P0 (aj b j),λz=>?_,.inl j,λx c e=>f4 x c (Zah (ns:=scope.names) (acc:=[]) (λy d z=>by simp at z) e),λp hp=>absurd (show p∈([]:List (Addr×Obj)) from hp) (by simp)⟩;rcases Po.mp (I3.stkSub b z) with e|e
  ·exact f1 e
  ·exact f2 e
 have bf:∀b∈fp,upd H s.heap.objs.size (.lst []) b=none:=λb j=>(ah b j).1;have ad:codeAny (model X.prog X.w) X.A (.compLoop (.ListComp elt [⟨target,iter,ifs,0⟩] scope pos) 0 (.ref it) (.ref s.heap.objs.size) F.env)
   (RR (.ref s.heap.objs.size) ({ s with heap:=s.heap.push { cls:=.type "list",dict:=none,data:=.seq ([]:List Value).toArray } }:Shared).heap.objs.size)
   { s with heap:=ae,toks:=s.toks+([]:List (Str×Value)).length }:=by
  refine Zk0 (λn s'=>eX3 λi σ' H'=>Inv F [] σ' H' s'/\tn i s'.heap/\(∀b∈fp,H' b=none)/\W i n σ' H') ?_ m0 ⟨0,σ0 σ,_,I4,as,bf,w0⟩;rintro n s5 ⟨i,ai,H5,I5,aq,ax,w5⟩;rcases a3 i n ai H5 w5 with⟨stop,qn⟩|⟨go,Nx,hN,step⟩
  ·have q:=Tn.done F eP eW eK eC i [] s5 ai H5 (λ_ _=>False) I5 (aa ax) aq stop;rw[eA]at q;refine Ak q λr s6 zq=>?_;obtain⟨hr,I6⟩:=zq;subst hr;obtain⟨mm,ak,_⟩:=I6.loc;rw[eE]at ak;have au:=I6.free;rw[eE]at au;refine hR _ _ H5 s6 mm ?_ au ak (λh' hs=>?_) qn
   ·show s.heap.objs.size<=(s.heap.push _).objs.size;rw[Qq];exact Vz _
   ·rw[<- hX]at I6;exact Zt7 I3 ah I6 hs
  ·have q:=Tn.item F eP eW eK eC i [] s5 ai H5 (λ_ _=>False) I5 (aa ax) aq go;rw[eA]at q;refine Ak q λr s6 zq=>?_;obtain⟨u,hr,h6⟩:=zq;subst hr;refine Ak h6 λ_ s7 zq=>?_;obtain⟨x,H7,I7,r7,y7,ao,ba⟩:=zq;have bb:=I7.pinned (aa ba) (Tn.obj _ _ ao);have q8:=a7 _ s7 ai H7 x u _ bb r7 (step x H7 y7);rw[eP,eW,eA,eX]at q8;refine Ak q8 λ_ s8 zq=>?_;obtain⟨Y,H8,I8,q8⟩:=zq;have q9:=bg _ s8 Y H8 _ I8 q8;rw[eP,eW,eA,eX]at q9;refine Ak q9 λok s9 zq=>?_;obtain⟨H9,I9,q9⟩:=zq;have ac:∀{O:St}{U:Hp}{Z:Shared},Inv F ([]++Kj fp s7.heap) O U Z->Nx O U->∃m,m<n/\eX3 λi σ' H'=>Inv F [] σ' H' Z/\tn i Z.heap/\(∀b∈fp,H' b=none)/\W i m σ' H':=λ{O U Z} an al=>by
    obtain⟨m',hm,w10⟩:=hN O U al;refine⟨m',hm,i+1,O,U,an.unpinned,Tn.keep _ _ _ ao λb j o e=>(an.pin (b,o) (Ra _ (Ra _ (Ob j e)))).1,λb j=>?_,w10⟩;obtain⟨o,e,d⟩:=Tn.obj _ _ ao b j;exact(an.pin (b,o) (Ra _ (Ra _ (Ob j e)))).2.1
   cases ok with
   |false =>
    have am:Nx Y H9:=q9;exact ac I9 am
   |true =>
    have am:te Y H9 _:=q9;have ap:=a6 _ s9 Y H9 _ I9 am;rw[eP,eW,eA,eX]at ap;refine Ak ap λy Z zq=>?_;obtain⟨yv,U,a5,a8,ys,a4,hz,al⟩:=zq;have ay:=(C7 (X:=F)) _ Z Y U (.ref s.heap.objs.size) [yv] (.ref s.heap.objs.size) [y] (λ_ aw=>Nx Y aw) a5 rfl (.cons a8 .nil) ⟨_,ys,yv,rfl,rfl,a4,hz,al⟩;rw[eP,eW,eA,eX]at ay;exact Ak ay λ_ bh ⟨_,aw,be,_,a9⟩=>ac be a9
 rw[eE]at ad;exact codeAny_compStart_list ad (Tn.self _ 0 _ _ _ as ad)
theorem Zjg (hc:X.calm=true)(S:Hz scope X.env)(hi:PI X target iter wi)(T:∀σ,σ.length=X.N.length->Gp X scope N σ (σ0 σ))
  (hg:∀C s H fp,PG (Dh X scope C N s H fp) target g) (ht:∀C s H fp,Hi (Dh X scope C N s H fp) ifs tt) (he:∀C s H fp,PE (Dh X scope C N s H fp) elt te)
  (hs:autoParam (∀x,foldedSetIterable iter X.env x=pure x) zE):PE X (.ListComp elt [⟨target,iter,ifs,0⟩] scope pos) (Kl wi σ0 g tt te):=by
 intro pins s σ H Q I h;rw[eval_ListComp];refine wpAny_comprehension_free (use:=none) rfl hs (Zik S.free) S.kind S.loc (Ak (hi pins s σ H _ I h) λxv aa F=>Ak F λac Z j=>?_);obtain⟨it,fp,tn,J,H2,rfl,I2,Tn,U,f2,hw⟩:=j;refine Zdo (Q:=λD H'=>Q (.ref D) H') (RR:=λY C=>compPost (model X.prog X.w) X.A X.xe none (EP X pins σ Q) Y C) hc S (T σ I.len) I2 Tn U f2 hg ht he hw ?_;intro D C H' s' m hC _ hn hI hq;exact⟨m,hn,λh' O=>⟨.ref D,H',hI h' O,rfl,hq⟩⟩
theorem Zsn (hc:X.calm=true)(S:Hz scope X.env)(hi:PI X target iter wi)(T:∀σ,σ.length=X.N.length->Gp X scope N σ (σ0 σ))(hg:∀C s H fp,PG (Dh X scope C N s H fp) target g)(ht:∀C s H fp,Hi (Dh X scope C N s H fp) ifs tt)(he:∀C s H fp,PE (Dh X scope C N s H fp) elt te)(hN:X.N.Nodup)(hy:X.N[i]?=some y)(hx:Fh X.env.scope y)(hsw:autoParam (swapsWith (.ListComp elt [⟨target,iter,ifs,0⟩] scope pos) (some (.Name y py)) spos.line X.env=pure true) zX)(hf:autoParam (X.fn y=true\/X.env.scope.names.lookup y=some .local) zQ)(hs:autoParam (∀x,foldedSetIterable iter X.env x=pure x) zE):PS X (.Assign [.Name y py] (.ListComp elt [⟨target,iter,ifs,0⟩] scope pos) spos) (G8 (Kl wi σ0 g tt te) (Gz i)):=by
 intro pins s σ H D I h;rw[exec_Assign_Name_used _ _ _ _ hsw];refine Ph (wpAny_standAt (Ph ?_));show wpAny _ X.A (do let _ <- comprehension (.ListComp elt [⟨target,iter,ifs,0⟩] scope pos) scope X.env _ (newList []) false (eval iter X.env) (some (assign (.Name y py) X.env))) _ _ s;refine Ph (Ak (wpAny_comprehension_free (use:=some (assign (.Name y py) X.env)) (Q:=λ_ s'=>SP X pins D .next s') rfl hs (Zik S.free) S.kind S.loc
  (Ak (hi pins s σ H _ I h) λxv ah U=>Ak U λai ag Y=>?_)) λ_ s' hq=>Pi (Pi hq))
 obtain⟨it,fp,tn,J,H2,rfl,F,Tn,ae,f2,hw⟩:=Y;refine Zdo (Q:=λL H'=>D.nx (σ.set i (some (.ref L))) H') (RR:=λac C=>compPost (model X.prog X.w) X.A X.xe (some (assign (.Name y py) X.env)) (λ_ s'=>SP X pins D .next s') ac C) hc S (T σ I.len) F Tn ae f2 hg ht he hw ?_;intro L C H' s' m O j hn hI hq;have I3:Inv X pins σ H' s':=hI s'.heap (.refl ..);refine wpAny_assign_Name (Zgy I3 hN hy hx (v:=.ref L) rfl (λs4 I4 af=>?_) hf);obtain⟨a,ad,ha⟩:=af;have aa:C≠a:=by
  rintro rfl;rcases ha with e|e
  ·have:=F.lt;rw[<- e]at this;exact absurd (P9 this O) (Q4 _)
  ·obtain⟨v,z⟩:=F.cell y _ e;exact absurd (P9 z.lt O) (Q4 _)
 refine⟨m,hn.sameBut ad aa,λh' Z=>⟨_,H',?_,hq⟩⟩;have e4:({ s4 with heap:=h' }:Shared)={ s4 with heap:=h',toks:=s4.toks }:=rfl;rw[e4];refine I4.turned (it:=C) (λb o hb e=>(Z.2 b hb).trans e) j ?_ (.inr (Qg F.sz O)) ?_ ?_
 ·exact Q1 (P9 F.lt O)
 ·rintro x c e rfl;obtain⟨v,z⟩:=F.cell x _ e;exact absurd (P9 z.lt O) (Q4 _)
 ·rintro p hp e;exact absurd (P9 (Pq (F.pin p hp).1) (by rw[e];exact O)) (Q4 _)
end
section
variable {X:Cx}
theorem Zmn {K:Pg}{T:String}:Rn K (.type T) (.type T)=some true:=by
 unfold Rn;rw[if_pos (by simp)]
theorem Zva {K:Pg}{T U:String}{b:Bool}{l:List Value}(hm:PySem.W.kitMeta U=true)(hn:¬T=U)(hl:fastBuiltinMro T=some l)(hb:l.contains (.type U)=b):Rn K (.type T) (.type U)=some b:=by
 unfold Rn;rw[if_neg (by simp[hn])];show(if PySem.W.kitMeta U=true then Sa K (.type T) (.type U) else none)=some b;rw[if_pos hm];show(fastBuiltinMro T).map (·.contains (.type U))=some b;rw[hl,<- hb];rfl
theorem Zrd:OpR X (compareOp .LtE) (λx y H Q=>∃i j,x=.str i/\y=.str j/\Q (.bl (!(decide (j.cps.toList<i.cps.toList)))) H):=by
 intro pins s σ H x y v u Q I O F h;obtain⟨i,j,rfl,rfl,q⟩:=h;obtain⟨t,rfl⟩:=O;obtain⟨U,rfl⟩:=F;exact PySem.P.le_str (Bx I q rfl)
theorem Zo2:OpR X (compareOp .In) (λx y H Q=>∃(c:Nat)(j:Str),x=.str ⟨#[c]⟩/\y=.str j/\Q (.bl (decide (c∈j.cps.toList))) H):=by
 intro pins s σ H x y v u Q I F O h;obtain⟨c,j,rfl,rfl,q⟩:=h;exact Zqh pins s σ H _ _ v u Q I F O ⟨_,_,rfl,rfl,by rw[StrLaws.found_one];exact q⟩
def Pe:V->Option Int->Option Int->Hp->VK->Prop:=λx lo hi H Q=>∃z,x=.str z/\z.length<=sizeLine/\Q (.str (Uk z lo hi)) H
theorem sl_str:SlR X Pe:=by
 intro pins s σ H x v vl vu lo hi sl Q I rx hs pl Z h;obtain⟨z,rfl,U,q⟩:=h;obtain⟨t,rfl⟩:=rx;obtain⟨o,Y,O,hd⟩:=hs;refine⟨"str",_,slot_str_getitem.lookup,typeIs_str _ _ _,?_⟩;cases pl with
 |none =>
  cases Z with
  |none=>exact Uw (l:=none) (u:=none) (st:=none) ⟨_,Y,O,hd⟩ rfl (Vg ⟨Qg (Vv z _ _) U,λF k=>⟨.str (Uk z _ _),H,I.tok k,⟨F,rfl⟩,q⟩⟩)
  |int j u=>exact Uw (l:=none) (u:=some (j,u)) (st:=none) ⟨_,Y,O,hd⟩ rfl (Vg ⟨Qg (Vv z _ _) U,λF k=>⟨.str (Uk z _ _),H,I.tok k,⟨F,rfl⟩,q⟩⟩)
 |int i ti =>
  cases Z with
  |none=>exact Uw (l:=some (i,ti)) (u:=none) (st:=none) ⟨_,Y,O,hd⟩ rfl (Vg ⟨Qg (Vv z _ _) U,λF k=>⟨.str (Uk z _ _),H,I.tok k,⟨F,rfl⟩,q⟩⟩)
  |int j u=>exact Uw (l:=some (i,ti)) (u:=some (j,u)) (st:=none) ⟨_,Y,O,hd⟩ rfl (Vg ⟨Qg (Vv z _ _) U,λF k=>⟨.str (Uk z _ _),H,I.tok k,⟨F,rfl⟩,q⟩⟩)
end
noncomputable def Its (z:Str):It:=⟨λi _=>i<z.cps.size,λi H x H'=>H'=H/\∃c,z.cps.toList[i]?=some c/\x=.str ⟨#[c]⟩,λi _=>i=z.cps.size⟩
theorem Zpz (z:Str):["enumerate","zip","dict_itemiterator","dict_reverseitemiterator","odict_iterator","itertools.zip_longest","itertools.pairwise"].contains (strIterType z)=false:=by
 unfold strIterType;cases z.cps.all (· < 128) <;> decide
theorem Zgw (hh:A.handled=none)(it:Addr)(z:Str)(t:Tok):Walks P w A it [it] [it] z.cps.size (SignAt z) (λi h=>h.IsStrIter it (strIterType z) z t i):=by
 unfold strIterType;cases z.cps.all (· < 128)
 ·exact Walks.strWide hh it z t
 ·exact Walks.strAscii hh it z t
theorem Zqi {P:Program}{w:World}{K:Pg}{tg:Expr}(it:Addr)(z:Str)(t:Tok):Hf P w K tg (Its z) [it] it (λi h=>h.IsStrIter it (strIterType z) z t i) where
 mem:=by simp
 obj:=λi h st b j=>by
  have e:b=it:=by simpa using j
  subst e;obtain⟨o,e,c,d⟩:=st;exact⟨o,e,λv z=>by rw[d]at z;cases z⟩
 keep:=λi h h' st k=>let ⟨o,e,r⟩:=st;⟨o,k it (by simp) o e,r⟩
 item:=by
  intro X Y hw hK hc i pins s σ H E I U st O;subst Y hw hK;obtain⟨f0,f1,f2,f3,Z,f5⟩:=U it (by simp);refine(Zgw (P:=X.prog) (w:=X.w) (I.ok.hd hc) it z t).item i s _ _ O st λv h' tk hv F kk=>?_;obtain⟨c,u,aa,rfl⟩:=hv;have I1:Inv X pins σ H { s with heap:=h',toks:=tk }:=I.turned (λb o j e=>kk b o (by simpa using j) e) f0 f1 f3 Z f5;obtain⟨o,e,cc,d⟩:=id F;exact⟨_,rfl,Me (s:={ s with heap:=h',toks:=tk }) e cc d (Zpz z) ⟨.str ⟨#[c]⟩,H,I1,⟨u,rfl⟩,⟨rfl,c,by simpa using aa,rfl⟩,F,λb j=>(U b j).1⟩⟩
 done:=by
  intro X Y hw hK hc i pins s σ H E I U st O;subst Y hw hK;obtain⟨f0,f1,f2,f3,Z,f5⟩:=U it (by simp);have O:i=z.cps.size:=O;subst O;exact(Zgw (P:=X.prog) (w:=X.w) (I.ok.hd hc) it z t).done s _ _ st λh' tk kk=>⟨rfl,I.turned (λb o j e=>kk b o (by simpa using j) e) f0 f1 f3 Z f5⟩
 self:=λA i s Q E st h=>by
  obtain⟨o,e,c,d⟩:=st;unfold strIterType at c;cases ha:z.cps.all (· < 128)
  ·rw[ha]at c;exact wpAny_pyIter_striter_wide ⟨o,e,c,d⟩ h
  ·rw[ha]at c;exact wpAny_pyIter_striter_ascii ⟨o,e,c,d⟩ h
section
variable {X:Cx}{tg:Expr}
end
section
variable {g:TG}{tt:TT}{te:TE}{σ0:St}{H1:Hp}{D:Addr}{Q:VK}
def Nb (g:TG)(tt:TT)(te:TE)(D:Addr)(Nx:List V->St->Hp->Prop)(x:V)(σ:St)(H:Hp):Prop :=
 g x σ H λj O=>tt j O λb I=>if b=true then te j I λy F=>∃ys,F D=some (.lst ys)/\ys.length<sizeLine/\(∃zs,upd F D (.lst (ys++[y])) D=some (.lst zs)/\Nx zs j (upd F D (.lst (ys++[y])))) else ∃zs,I D=some (.lst zs)/\Nx zs j I
theorem Zfx {lo:Int}{n:Nat}(Pv:Nat->List V->St->Hp->Prop)(h0:Pv 0 [] σ0 (upd H1 D (.lst [])))
  (hs:∀i ys σ H,i<n->H D=some (.lst ys)->Pv i ys σ H->Nb g tt te D (Pv (i+1)) (.int (lo+i)) σ H)
  (hd:∀ys σ H,H D=some (.lst ys)->Pv n ys σ H->Q (.ref D) H):Kz (G5 lo n) g tt te σ0 H1 D Q:=by
 refine⟨λi m σ H=>m=n-i/\i<=n/\∃ys,H D=some (.lst ys)/\Pv i ys σ H,⟨n,by simp,Qk _,[],Ae,h0⟩,?_⟩;rintro i m σ H ⟨rfl,hi,ys,I,p⟩;by_cases j:i<n
 ·refine .inr ⟨j,λF H2=>∃zs,H2 D=some (.lst zs)/\Pv (i+1) zs F H2,λU H' O=>⟨n-(i+1),by lia,rfl,j,O⟩,λx H' y=>?_⟩;obtain⟨e,y⟩:=y;subst e y;exact hs i ys σ _ j I p
 ·have e:i=n:=by lia
  subst e;exact .inl ⟨Pj _,hd ys σ H I p⟩
theorem Lo {K:Pg}{a:Addr}{xs:List V}(Pv:Nat->List V->St->Hp->Prop)(h0:Pv 0 [] σ0 (upd H1 D (.lst [])))(hl:∀i ys σ H,i<=xs.length->Pv i ys σ H->SqL K H a xs)
  (hs:∀i x ys σ H,xs[i]?=some x->H D=some (.lst ys)->Pv i ys σ H->Nb g tt te D (Pv (i+1)) x σ H)
  (hd:∀ys σ H,H D=some (.lst ys)->Pv xs.length ys σ H->Q (.ref D) H):Kz (Hu K a) g tt te σ0 H1 D Q:=by
 refine⟨λi m σ H=>m=xs.length-i/\i<=xs.length/\∃ys,H D=some (.lst ys)/\Pv i ys σ H,⟨xs.length,by simp,Qk _,[],Ae,h0⟩,?_⟩;rintro i m σ H ⟨rfl,hi,ys,I,p⟩;have q:=hl i ys σ H hi p;by_cases j:i<xs.length
 ·refine .inr ⟨⟨xs,xs[i],q,by simp[j]⟩,λF H2=>∃zs,H2 D=some (.lst zs)/\Pv (i+1) zs F H2,λU H' O=>⟨xs.length-(i+1),by lia,rfl,j,O⟩,λx H' y=>?_⟩;obtain⟨e,y⟩:=y;subst e;exact hs i x ys σ _ (y xs q) I p
 ·have e:i=xs.length:=by lia
  subst e;exact .inl ⟨⟨xs,q,Pj _⟩,hd ys σ H I p⟩
end
section
variable {X:Cx}
theorem Zgz:∀{bs:List Bool}{us:List Value},Vals (bs.map V.bl) us->us=bs.map Value.bool
 |[],_,.nil=>rfl
 |b::bs,_,.cons r t=>by
  cases r;rw[Zgz t];rfl
theorem Zph {bs:List Bool}:(P7 bs.length).all (λi=>bs.getD i true)=bs.all id:=by
 induction bs with
 |nil=>rfl
 |cons b r j =>
  rw[Qc,List.range_succ_eq_map,Ro,List.all_map,Ro];have:((λi=>(b::r).getD i true) ∘ Nat.succ)=λi=>r.getD i true:=by
   funext i;simp
  rw[this,j];rfl
theorem Zth (hc:X.calm=true):Cw X (.builtin "all") (λxs H Q=>∃(p:Addr)(bs:List Bool),xs=[.ref p]/\SqL X.K H p (bs.map V.bl)/\Q (.bl (bs.all id)) H):=by
 intro pins s σ H xs us Q I r h;obtain⟨p,bs,rfl,hq,q⟩:=h;obtain⟨u,rfl,ru⟩:=r.one;cases ru;obtain⟨aa,rv,pl,hz⟩:=I.list hq;obtain rfl:=Zgz rv;refine call_all_walk (U8 pl.isList ?_);have U:p<s.heap.objs.size:=by obtain⟨o,e,_⟩:=pl.isList;exact Pq e
 have ac:(s.heap.push { cls:=.type "list_iterator",data:=.fields #[.ref p,rawInt 0] }).IsList p (bs.map Value.bool).toArray:=pl.isList.at λo e=>Pm _ e;refine⟨s.heap.objs.size,_,_,_,_,_,λi=>bs.getD i true,rfl,Walks.list (A:=X.A.in1) (show X.A.in1.handled=none from I.ok.hd hc) s.heap.objs.size p (P0 U) (bs.map Value.bool).toArray,⟨⟨_,P3 _ rfl,rfl,rfl⟩,?_⟩,?_,?_⟩
 ·exact pl.isList.at λo e=>Pm _ e
 ·intro i v s' Q' E' hv O;have j:(bs.map Value.bool)[i]?=some v:=by simpa using hv
  rw[Qy]at j;cases e:bs[i]? with
  |none=>rw[e]at j;cases j
  |some b =>
   rw[e]at j;cases j;have:bs.getD i true=b:=by simp[List.getD,e]
   have O:Q' (bs.getD i true) s':=O;rw[this]at O;exact Ru O
 ·intro h' tk hk;have I1:Inv X pins σ H { s with heap:=s.heap.push { cls:=.type "list_iterator",data:=.fields #[.ref p,rawInt 0] } }:=I.kept (t':=s.toks) λb o e=>Pm _ e;have F:=I.fpOk (Pj s.heap.objs.size) (I.hok.fresh (Pj _));obtain⟨f0,f1,f2,f3,Z,f5⟩:=F;have I2:Inv X pins σ H { s with heap:=h',toks:=tk }:=Inv.turned (s:={ s with heap:=s.heap.push { cls:=.type "list_iterator",data:=.fields #[.ref p,rawInt 0] } }) (h':=h') (t':=tk) (it:=s.heap.objs.size) I1 (λb o Y e=>hk b o (by simpa using Y) e) f0 f1 f3 Z f5;refine⟨.bl (bs.all id),H,I2,?_,q⟩;show Value.bool _=Value.bool _;have:(bs.map Value.bool).toArray.size=bs.length:=by simp
  rw[this,Zph]
end
theorem Same.upd (h:H p=none):Same H (upd H p o):=λb u e=>by rw[Ag (Cy e h)];exact e
theorem Cf (h:H a=none)(o:HO):∃H1,Same H H1/\H1 a=some o/\upd H a o=H1:=⟨_,Same.upd h,Ae,rfl⟩
theorem Same.put (s:Same H0 H)(h:H p=none):Same H0 (L2.upd H p o):=s.trans (Same.upd h)
theorem Same.over (s:Same H0 H)(h:H0 p=none):Same H0 (L2.upd H p o):=λb u e=>by rw[Ag (Cy e h)];exact s b u e
theorem Same.tup {K:Pg}{H H':Hp}{a:Addr}{xs:List V}(e:Same H H')(h:SqT K H a xs):SqT K H' a xs:=by
 rcases h with(h|⟨o,h⟩)|h
 ·exact .inl (.inl (e _ _ h))
 ·exact .inl (.inr ⟨o,e _ _ h⟩)
 ·exact .inr h
theorem Fz (hk:sc.kind=.function)(hc:(sc.names.all λy=>y.2 != .cell)=true)(hl:(sc.names.all λy=>y.2 != .local || sc.names.lookup y.1 == some .local)=true)(hf:(sc.names.all λy=>y.2 != .free || out.names.lookup y.1 == some .cell)=true):Hz sc (envOfC qual out n f cd) where
 kind:=hk
 nocell:=λy j e=>by have:=R8.mp hc y j;rw[e]at this;cases this
 loc:=λy j e=>by
  have:=R8.mp hl y j;rw[e]at this;simpa using this
 free:=λy j e=>by
  have h:=R8.mp hf y j;rw[e]at h;have h:out.names.lookup y.1=some .cell:=by simpa using h
  obtain⟨c,hc⟩:=Zac (n:=n+1) h;show((cellsFrom (n+1) out.names []).lookup y.1).isSome=true;rw[hc];rfl
noncomputable def Ed (k:Nat)(cap:List Nat)(σ:St):St:=Qr k none++cap.map λj=>(σ[j]?).join
theorem Zod (hl:k+cap.length=N.length)(h:∀(i j:Nat)(x:Str),cap[i]?=some j->N[k+i]?=some x->X.N[j]?=some x/\scope.names.lookup x=some .free/\(X.env.kindOf x=some .cell\/X.env.kindOf x=some .free)):Gp X scope N σ (Ed k cap σ):=by
 refine⟨by unfold Ed;simp[hl],λi x v O F=>?_⟩;unfold Ed at F;by_cases hi:i<k
 ·rw[Qd (by simpa using hi),List.getElem?_replicate,if_pos hi]at F;cases F
 ·rw[Qn (by simpa using hi),List.length_replicate,Qy]at F;cases I:cap[i-k]? with
  |none=>rw[I]at F;cases F
  |some j =>
   rw[I]at F;have F:(σ[j]?).join=some v:=Qa F;obtain⟨h1,h2,U⟩:=h (i-k) j x I (by rw[show k+(i-k)=i by lia];exact O);refine⟨j,h1,?_,h2,U⟩;cases e:σ[j]? with
   |none=>rw[e]at F;cases F
   |some o=>rw[e]at F;exact congrArg some F
theorem Fy (hl:k+cap.length=N.length)(h:((cap.zip (N.drop k)).all λp=>X.N[p.1]? == some p.2 && scope.names.lookup p.2 == some .free && (X.env.kindOf p.2 == some .cell || X.env.kindOf p.2 == some .free))=true):∀σ,σ.length=X.N.length->Gp X scope N σ (Ed k cap σ):=λσ _ =>
 Zod hl λi j x I F=>by
  have m:(j,x)∈cap.zip (N.drop k):=by
   refine Qo (i:=i) ?_;rw[List.getElem?_zip_eq_some];exact⟨I,by rw[List.getElem?_drop];exact F⟩
  have:=R8.mp h _ m;simp only[Ry,Bool.or_eq_true,beq_iff_eq]at this;exact⟨this.1.1,this.1.2,this.2⟩
theorem G3 {α:Type}{xs:List α}{i:Int}(h0:0<=i)(h1:i<xs.length):∃v,Cm xs i=some v/\v∈xs:=by
 have F:i.toNat<xs.length:=by lia
 refine⟨xs[i.toNat],?_,Vb F⟩;have:=Ck (xs:=xs) (j:=i.toNat) (v:=xs[i.toNat]) (by simp[F]);rwa[Int.toNat_of_nonneg h0]at this
noncomputable def Zat:Expr->Option V
 |.Constant (.str x) _ _=>some (.str x)
 |.Constant (.int i) _ _=>some (.int i)
 |.Constant (.bool b) _ _=>some (.bl b)
 |.Constant .none _ _=>some .non
 |_=>none
noncomputable def Mu:List Expr->Option (List V)
 |[]=>some []
 |e::es=>match Zat e,Mu es with
  |some v,some vs=>some (v::vs)
  |_,_=>none
def Zay (xs:List V):TA:=λ_ H Q=>Q xs H
theorem Zm1 (h:Zat e=some v):PE X e (tC v)/\∀es,starEach (e::es) X.env=(false,eval e X.env)::starEach es X.env:=by
 unfold Zat at h;split at h
 ·cases h;exact⟨Zdd,λ_=>rfl⟩
 ·cases h;exact⟨Zei,λ_=>rfl⟩
 ·cases h;exact⟨Zdj,λ_=>rfl⟩
 ·cases h;exact⟨Zij,λ_=>rfl⟩
 ·cases h
theorem Ziq:∀{es:List Expr}{xs:List V},Mu es=some xs->PA X es (Zay xs)
 |[],xs,h=>by
  have h:some []=some xs:=h;cases h;exact Zfr
 |e::es,xs,h=>by
  unfold Mu at h;split at h
  ·rename_i v vs h1 h2;cases h;obtain⟨p,hs⟩:=Zm1 (X:=X) h1;exact Zey p (Ziq h2) (hs es)
  ·cases h
structure A8 (P:Program)(w:World)(K:Pg)(mg:Str->Option Value)(base:Heap)(k:Nat)(x:Str)(ps:List Str)(sp:Sp):Prop where
 ex:∃(f:Addr)(fd:FuncData),FnOk P w K mg base Aq k f fd ps sp/\mg x=some (.ref f)/\Rm K (.ref f)=true/\Binds K fd ps []
section
variable {X:Cx}{k:Nat}{x:Str}{ps:List Str}{sp:Sp}{p pos:Pos}{e:Expr}{es:List Expr}{t:TA}
end
end L2
namespace L2
open PySem
theorem Zki (h:Oi u=some x):RelV x u:=by
 cases u <;> simp only[Oi]at h <;> first|(cases h;first|rfl|exact⟨_,rfl⟩)|cases h
noncomputable def Ev:List Value->Option (List V)
 |[]=>some []
 |u::r=>match Oi u,Ev r with
  |some x,some xs=>some (x::xs)
  |_,_=>none
theorem Zdx:∀{us:List Value}{xs:List V},Ev us=some xs->Vals xs us
 |[],xs,h=>by
  have h:some []=some xs:=h;cases h;exact .nil
 |u::r,xs,h=>by
  unfold Ev at h;split at h
  ·rename_i x ys h1 h2;cases h;exact .cons (Zki h1) (Zdx h2)
  ·cases h
theorem Hc (l:K.lookup a=some ⟨.type "tuple",od,.seq its n,sl⟩)(h:Ev its.toList=some xs)(hz:xs.length<=1000):∀H,SqT K H a xs:=λH=>by
 have v:=Zdx h;refine .inr ⟨_,its,n,l,rfl,rfl,?_,v⟩;have e:=v.length;have b:1000<=sizeLine:=by decide
 have j:its.toList.length=its.size:=U2;lia
theorem J0 (F:FnOk P w K mg base Aq k f fd ps sp)(m:mg x=some (.ref f))(kp:Rm K (.ref f)=true)(b:Binds K fd ps []):A8 P w K mg base k x ps sp:=⟨f,fd,F,m,kp,b⟩
section
variable {P:Program}{w:World}{K:Pg}{mg:Str->Option Value}{base:Heap}
end
end L2
set_option autoImplicit true
namespace L2
open PySem PySem.Spec PyProof.Rows
structure QE (X:Cx)(e:Expr)(t:TE):Prop where
 run:PE X e t
structure QT (X:Cx)(e:Expr)(t:TT):Prop where
 run:PT X e t
structure QW (X:Cx)(e:Expr)(t:TT):Prop where
 run:PW X e t
structure QA (X:Cx)(es:List Expr)(t:TA):Prop where
 run:PA X es t
structure QS (X:Cx)(st:Stmt)(t:TS):Prop where
 run:PS X st t
structure E7 (X:Cx)(sts:List Stmt)(t:TS):Prop where
 run:PSs X sts t
structure QG (X:Cx)(e:Expr)(g:TG):Prop where
 run:PG X e g
structure QGs (X:Cx)(es:List Expr)(g:Eh):Prop where
 run:PGs X es g
structure QI (X:Cx)(tg iter:Expr)(wi:TI):Prop where
 run:PI X tg iter wi
structure QC (X:Cx)(op:CmpOp)(a b:Expr)(t:TE):Prop where
 run:PC X op a b t
structure QO (X:Cx)(e:Option Expr)(t:TO):Prop where
 run:PO X e t
structure QTs (X:Cx)(ifs:List Expr)(t:TT):Prop where
 run:Hi X ifs t
theorem Ac {i j pos}:QE X (.Constant (.int i) j pos) (tC (.int i)):=⟨Zei⟩
theorem B9 {b j pos}:QE X (.Constant (.bool b) j pos) (tC (.bl b)):=⟨Zdj⟩
theorem Dp {j pos}:QE X (.Constant .none j pos) (tC .non):=⟨Zij⟩
theorem Am {x j pos}:QE X (.Constant (.str x) j pos) (tC (.str x)):=⟨Zdd⟩
theorem B3 (hg:Gl X x)(hm:X.mg x=none)(hv:bootBuiltins x=some u)(r:RelV v u)(hn:autoParam (x≠"__name__") zW)(hd:autoParam ((x == ("__debug__":Str))=false) zW):QE X (.Name x pos) (tC v):=⟨λ_ _ _ H _ I h=>Ga I hg hm hv ⟨v,H,I,r,h⟩ hn hd⟩
theorem Ai (ho:OpR X (binaryOp op) r)(ha:QE X a ta)(hb:QE X b tb):QE X (.BinOp a op b pos) (Fm r ta tb):=by
 refine⟨?_⟩;have ha:=ha.run;have hb:=hb.run
 intro pins s σ H Q I h;exact wpAny_BinOp (Zcc ha hb I h λv u O x y H2 U F j q=>ho pins O σ H2 x y v u Q U F j q)
theorem Fv (ho:UnR X (unaryOp op) r)(ha:QE X a ta):QE X (.UnaryOp op a pos) (tUn r ta):=by
 refine⟨?_⟩;have ha:=ha.run
 intro pins s σ H Q I h;exact UnaryOp_ (Ak (ha pins s σ H _ I h) λv j ⟨x,H1,U,O,F⟩=>ho pins j σ H1 x v Q U O F)
theorem J6 (h:QC X op a b t)(h1:behindInMarks op b=false:=by first|exact Nz _ (by decide) (by decide)|rfl):QE X (.Compare a [op] [b] pos) t:=by
 refine⟨?_⟩;have h:=h.run;exact λpins s σ H Q I j=>wpAny_Compare1 (h pins s σ H Q I j) h1
theorem L0 (h:QC X op a b t)(h1:behindInMarks op b=false:=by first|exact Nz _ (by decide) (by decide)|rfl):QT X (.Compare a [op] [b] pos) (tB t):=by
 refine⟨?_⟩;have h:=h.run
 intro pins s σ H Q I Y;refine wpAny_isTrue_Compare1 (Ak (h pins s σ H _ I Y) λv s1 h1=>Ak h1 λu s2 h2=>Ak h2 λc Z F=>?_) h1;obtain⟨x,H1,U,O,j⟩:=F;obtain⟨d,rfl,q⟩:=j;cases O;exact Ru ⟨H1,U,q⟩
theorem D5 (ho:OpR X (compareOp op) r)(ha:QE X a ta)(hb:QE X b tb)(hm:behindInMarks op b=false):QE X (.Compare a [op] [b] pos) (Fm r ta tb):=by
 refine⟨?_⟩;have ha:=ha.run;have hb:=hb.run
 intro pins s σ H Q I h;exact wpAny_Compare1 (Zcc ha hb I h λv u O x y H2 U F j q=>ho pins O σ H2 x y v u Q U F j q) hm
theorem Az (ho:OpR X (compareOp op) r)(ha:QE X a ta)(hb:QE X b tb)(hm:behindInMarks op b=false):QT X (.Compare a [op] [b] pos) (Zcd (Fm r ta tb)):=by
 refine⟨?_⟩;have ha:=ha.run;have hb:=hb.run
 intro pins s σ H Q I h;refine wpAny_isTrue_Compare1 (Ak (ha pins s σ H _ I h) λv s1 ⟨x,H1,Y,U,O⟩=>Ak (hb pins s1 σ H1 _ Y O) λu Z ⟨y,H2,I2,r2,q2⟩ =>
  Ak (ho pins Z σ H2 x y v u _ I2 U r2 q2) λc s3 ⟨z,H3,F,j,k,e,q3⟩=>?_) hm
 subst e;cases j;exact Ru ⟨H3,F,q3⟩
theorem Zdm (ho:OpR X (compareOp op) r)(ho':OpR X (compareOp op') r')(ha:QE X a ta)(hb:QE X b tb)(hc:QE X c tc)(hm:lastMarks [op,op'] [b,c]=false:=by with_unfolding_all rfl):QE X (.Compare a [op,op'] [b,c] pos) (Zc7 r r' ta tb tc):=by
 refine⟨?_⟩;have ha:=ha.run;have hb:=hb.run;have hc:=hc.run
 intro pins s σ H Q I h;refine Compare_chain (Ak (ha pins s σ H _ I h) λv s1 ⟨x,H1,I1,r1,Z⟩=>chain_link (Ak (hb pins s1 σ H1 _ I1 Z) λu s2 ⟨y,H2,I2,U,q2⟩ =>
  Ak (ho pins s2 σ H2 x y v u _ I2 r1 U q2) λd s3 ⟨z,O,F,Y,k,e,j⟩=>?_)) hm
 subst e;cases Y;refine Ru ?_;cases k with
 |false=>exact ite_ff ⟨.bl false,O,F,rfl,j⟩
 |true=>exact ite_tt (chain_last (Ak (hc pins s3 σ O _ F j) λw' s4 ⟨z',H4,I4,r4,q4⟩=>ho' pins s4 σ H4 y z' u w' Q I4 U r4 q4))
theorem Bp (h:QE X e t)(he:autoParam (∀whole,isTrue e X.env whole=(do let v <- whole;standAt e.pos;holding [v] (truthy v))) zE):QT X e (tB t):=by
 refine⟨?_⟩;have h:=h.run
 intro pins s σ H Q I O;refine isTrue_plain (Ak (h pins s σ H _ I O) λv Z F=>?_) (he _);obtain⟨x,H1,Y,U,j⟩:=F;obtain⟨d,rfl,q⟩:=j;cases U;exact Ru ⟨H1,Y,q⟩
theorem D7 (ha:QT X a tA):QW X (.BoolOp .And [a] pos) tA:=by
 refine⟨?_⟩;have ha:=ha.run
 intro F pins s σ H Q I h;refine isTrue_and (Ak (ha pins s σ H Q I h) λc j e=>?_);cases c with
 |true=>exact isTrue_and_nil e
 |false=>exact e
theorem Dl (ha:QT X a tA):QW X (.BoolOp .Or [a] pos) tA:=by
 refine⟨?_⟩;have ha:=ha.run
 intro F pins s σ H Q I h;refine isTrue_or (Ak (ha pins s σ H Q I h) λc j e=>?_);cases c with
 |false=>exact isTrue_or_nil e
 |true=>exact e
theorem Ef (ha:QT X a tA)(hb:QW X (.BoolOp .And (b::rest) pos) tB'):QW X (.BoolOp .And (a::b::rest) pos) (Zbn tA tB'):=by
 refine⟨?_⟩;have ha:=ha.run;have hb:=hb.run
 intro Y pins s σ H Q I h;refine isTrue_and (Ak (ha pins s σ H _ I h) λc O U=>?_);obtain⟨H1,F,j⟩:=U;cases c with
 |true=>exact hb Y pins O σ H1 Q F j
 |false=>exact⟨H1,F,j⟩
theorem C8 (ha:QT X a tA)(hb:QW X (.BoolOp .Or (b::rest) pos) tB'):QW X (.BoolOp .Or (a::b::rest) pos) (tOr tA tB'):=by
 refine⟨?_⟩;have ha:=ha.run;have hb:=hb.run
 intro Y pins s σ H Q I h;refine isTrue_or (Ak (ha pins s σ H _ I h) λc O U=>?_);obtain⟨H1,F,j⟩:=U;cases c with
 |true=>exact⟨H1,F,j⟩
 |false=>exact hb Y pins O σ H1 Q F j
theorem Cn (ha:QT X a tA):QT X (.UnaryOp .Not a pos) (Zbx tA):=by
 refine⟨?_⟩;have ha:=ha.run
 intro pins s σ H Q I h;exact isTrue_not (ha pins s σ H (λc H1=>Q (!c) H1) I h)
theorem Fk {op}(h:QE X a t):QE X (.BoolOp op [a] pos) t:=by
 refine⟨?_⟩;have h:=h.run;exact λpins s σ H Q I j=>BoolOp_one (h pins s σ H Q I j)
theorem Fo (ha:QE X a ta)(hb:QE X (.BoolOp .And (b::rest) pos) tb):QE X (.BoolOp .And (a::b::rest) pos) (Zb7 ta tb):=by
 refine⟨?_⟩;have ha:=ha.run;have hb:=hb.run
 intro pins s σ H Q I h;refine BoolOp_and (Ak (ha pins s σ H _ I h) λv Y O=>?_);obtain⟨x,H1,F,U,j⟩:=O;obtain⟨c,rfl,j⟩:=j;cases U;refine Ru ?_;cases c with
 |true=>exact hb pins Y σ H1 Q F j
 |false=>exact⟨.bl false,H1,F,rfl,j⟩
theorem Zs9 (ha:QE X a ta)(hb:QE X (.BoolOp .Or (b::rest) pos) tb):QE X (.BoolOp .Or (a::b::rest) pos) (Zcs ta tb):=by
 refine⟨?_⟩;have ha:=ha.run;have hb:=hb.run
 intro pins s σ H Q I h;refine BoolOp_or (Ak (ha pins s σ H _ I h) λv Y O=>?_);obtain⟨x,H1,F,U,j⟩:=O;obtain⟨c,rfl,j⟩:=j;cases U;refine Ru ?_;cases c with
 |false=>exact hb pins Y σ H1 Q F j
 |true=>exact⟨.bl true,H1,F,rfl,j⟩
theorem Zm7 (ha:QE X a ta):QE X (.UnaryOp .Not a pos) (Zap ta):=by
 refine⟨?_⟩;have ha:=ha.run
 intro pins s σ H Q I h;refine UnaryOp_ (Ak (ha pins s σ H _ I h) λv Y F=>?_);obtain⟨x,H1,U,O,j⟩:=F;obtain⟨c,rfl,j⟩:=j;cases O;exact not_of (Ru ⟨.bl (!c),H1,U,rfl,j⟩)
theorem Nl (hc:QT X c tA)(ha:QE X a ta)(hb:QE X b tb):QE X (.IfExp c a b pos) (Ir tA ta tb):=by
 refine⟨?_⟩;have hc:=hc.run;have ha:=ha.run;have hb:=hb.run
 intro pins s σ H Q I h;refine wpAny_IfExp (Ak (hc pins s σ H _ I h) λd j U=>?_);obtain⟨H1,O,F⟩:=U;cases d with
 |true=>exact ha pins j σ H1 Q O F
 |false=>exact hb pins j σ H1 Q O F
theorem A2  : E7 X [] O9:=⟨λ_ _ σ H _ I h=>Sv ⟨σ,H,I,h⟩⟩
theorem Ad {st:Stmt}{rest:List Stmt}{t u:TS}(h1:QS X st t)(h2:E7 X rest u):E7 X (st::rest) (Pb t u):=by
 refine⟨?_⟩;have h1:=h1.run;have h2:=h2.run
 intro pins s σ H D I h;refine Wk (Ak (h1 pins s σ H { D with nx:=u D } I h) λf F q=>?_);cases f with
 |next =>
  obtain⟨j,H',O,q⟩:=q;exact h2 pins F j H' D O q
 |ret v=>exact q
 |brk=>exact q
 |cont=>exact q
theorem Af {st:Stmt}{t:TS}(h1:QS X st t):E7 X [st] t:=by
 refine⟨?_⟩;have h1:=h1.run
 intro pins s σ H D I h;refine Wk (Ak (h1 pins s σ H D I h) λf j q=>?_);cases f with
 |next=>exact Sv q
 |ret v=>exact q
 |brk=>exact q
 |cont=>exact q
theorem B2 (he:QE X e te)(hs:autoParam (swapsWith e none pos.line X.env=pure false) zX):QS X (.Expr e pos) (Zb4 te):=by
 refine⟨?_⟩;have he:=he.run
 intro pins s σ H D I h;exact wpAny_Expr_any (Ak (he pins s σ H _ I h) λv O ⟨x,H1,F,U,j⟩=>⟨σ,H1,F,j⟩) I.quiet hs
theorem An (he:QE X e te):QS X (.Return (some e) pos) (Zcg te):=by
 refine⟨?_⟩;have he:=he.run
 intro pins s σ H D I h;exact wpAny_Return_some (Ak (he pins s σ H _ I h) λv U ⟨x,H1,O,F,j⟩=>⟨x,σ,H1,O,F,j⟩)
theorem Ay (hc:QT X c tc)(ha:E7 X a t)(hb:E7 X b u):QS X (.If c a b pos) (Cr tc t u):=by
 refine⟨?_⟩;have hc:=hc.run;have ha:=ha.run;have hb:=hb.run
 intro pins s σ H D I h;refine wpAny_If (Ak (hc pins s σ H _ I h) λd j U=>?_);obtain⟨H1,O,F⟩:=U;cases d with
 |true=>exact ha pins j σ H1 D O F
 |false=>exact hb pins j σ H1 D O F
theorem Ei  : QGs X [] Ow:=by
 refine⟨?_⟩
 intro pins s σ H vs j Q I r h;obtain⟨e,h⟩:=h;subst e;cases r;exact assignInOrder_nil ⟨σ,H,I,h⟩
theorem Ci (h1:QG X e t)(h2:QGs X es u)(hs:autoParam ((assignEach (e::es) X.env).map (·.2)=assign e X.env::(assignEach es X.env).map (·.2)) zX):QGs X (e::es) (Zcw t u):=by
 refine⟨?_⟩;have h1:=h1.run;have h2:=h2.run
 intro pins s σ H vs us Q I r h;obtain⟨v,vr,F,h⟩:=h;subst F;cases r with
 |cons r Z =>
  rw[hs];refine assignInOrder_cons (Ak (h1 pins s σ H _ _ _ I r h) λ_ s1 U=>?_);obtain⟨j,H1,Y,O⟩:=U;exact h2 pins s1 j H1 _ _ Q Y Z O
theorem Bc (hN:X.N.Nodup)(hi:X.N[i]?=some x)(hx:Fh X.env.scope x)(hf:autoParam (X.fn x=true\/X.env.scope.names.lookup x=some .local) zQ):QG X (.Name x pos) (Gz i):=by
 refine⟨?_⟩
 intro pins s σ H v u Q I r h;exact wpAny_assign_Name (Za1 I hN hi hx r (λs' j=>⟨_,H,j,h⟩) hf)
theorem Znn (hc:X.calm=true)(h:QGs X es t)(hn:autoParam ((assignEach es X.env).length=n) zX)(hst:autoParam ((assignEach es X.env).findIdx? (·.1)=none) zX):QG X (.Tuple es k pos) (Mr X.K n t):=by
 refine⟨?_⟩;have h:=h.run
 intro pins s σ H v u Q I r j;obtain⟨a,xs,O,hq,U,j⟩:=j;subst O;cases r;obtain⟨aa,F,Y,hz⟩:=I.tuple hq;refine assign_Tuple_tuple (I.ok.hd hc) Y (by simp[hn,<- U,F.length]) hst λh' hx=>?_;have Z:Inv X pins σ H { s with heap:=h' }:=I.kept (t':=s.toks) λb o e=>hx b o (P0 (Pq e)) e;exact h pins _ σ H xs _ Q Z (by simpa using F) j
theorem Zn3 (ho:QE X o to)(hi:QE X i ti)(hs:Oz X t)(ha:autoParam (∀v,assign (.Subscript o i pos) X.env v=(do
   let ov <- holding [v] (eval o X.env);let iv <- holding [v,ov] (eval i X.env)
   standAt pos
   holding [v,ov,iv] (setItem ov iv v)
   release [v,ov,iv] [])) zE):QG X (.Subscript o i pos) (Zbi to ti t):=by
 refine⟨?_⟩;have ho:=ho.run;have hi:=hi.run
 intro pins s σ H v u Q I r h;rw[ha];refine Ph (Q5 (Ak (ho pins s σ H _ I h) λov s1 j=>?_));obtain⟨x,H1,Y,U,O⟩:=j;refine Ph (Q5 (Ak (hi pins s1 σ H1 _ Y O) λiv s2 j=>?_));obtain⟨y,H2,I2,r2,Z⟩:=j;refine Ph (wpAny_standAt (Ph (Q5 (Ak (hs pins s2 σ H2 x y v ov iv u _ I2 U r2 r Z) λ_ s3 j=>?_))));obtain⟨H3,F,q3⟩:=j;exact wpAny_release ⟨σ,H3,F,q3⟩
theorem Fs (he:QE X e te)(hg:QG X tg g)(hs:autoParam (swapsWithSole [tg] e pos.line X.env=pure false) zX)(hw:autoParam (swappedStores [tg] e X.env=pure none) zX)(h1:autoParam ((assignEach [tg] X.env).map (·.2)=[assign tg X.env]) zX):QS X (.Assign [tg] e pos) (G8 te g):=by
 refine⟨?_⟩;have he:=he.run;have hg:=hg.run
 intro pins s σ H D I h;refine wpAny_Assign_stores (Ak (he pins s σ H _ I h) λv j O=>?_) hs hw;obtain⟨x,H1,Y,U,F⟩:=O;rw[h1];exact Ak (hg pins j σ H1 x v _ Y U F) λ_ Z q=>q
theorem Zcj (hN:X.N.Nodup)(hi:X.N[i]?=some x)(hx:Fh X.env.scope x)(he:QE X e te)(hs:autoParam (swapsWith e (some (.Name x pos')) pos.line X.env=pure false) zX)(hf:autoParam (X.fn x=true\/X.env.scope.names.lookup x=some .local) zQ):QS X (.Assign [.Name x pos'] e pos) (G8 te (Gz i)):=by
 refine⟨?_⟩;have he:=he.run
 intro pins s σ H D I h;refine wpAny_Assign_Name (Ak (he pins s σ H _ I h) λv s1 F=>?_) hs;obtain⟨y,H1,Y,U,j⟩:=F;exact Za1 Y hN hi hx U (λZ O=>⟨_,H1,O,j⟩) hf
theorem Zf0 (hp:PassesOwn (model X.prog X.w) X.A X.env X.xe)(hc:QT X c tc)(hb:E7 X body tb):QS X (.While c body [] pos) (Zfv tc tb):=by
 refine⟨?_⟩;have hc:=hc.run;have hb:=hb.run
 intro pins s σ H D I h;obtain⟨W,⟨m0,w0⟩,O⟩:=h;refine wpAny_While (codeAny_whileLoop (λn s'=>∃σ' H',Inv X pins σ' H' s'/\W n σ' H') ?_ m0 ⟨σ,H,I,w0⟩);rintro n s1 ⟨F,H1,I1,w1⟩;refine Sk hp (Ak (hc pins s1 F H1 _ I1 (O n F H1 w1)) λb s2 zq=>?_);obtain⟨H2,I2,Y⟩:=zq;cases b with
 |true =>
  obtain⟨N,hN,Y⟩:=Y;rw[if_pos rfl];refine Sk hp (Ak (hb pins s2 F H2 _ I2 Y) λf s3 Z=>?_);cases f with
  |next =>
   obtain⟨j,U,I3,n3⟩:=Z;obtain⟨m',hm,w3⟩:=hN j U n3;exact⟨m',hm,j,U,I3,w3⟩
  |cont =>
   obtain⟨j,U,I3,n3⟩:=Z;obtain⟨m',hm,w3⟩:=hN j U n3;exact⟨m',hm,j,U,I3,w3⟩
  |brk=>exact Z
  |ret v=>exact Z
 |false =>
  rw[if_neg Pu];exact Sv ⟨F,H2,I2,Y⟩
theorem Ey (hg:Gl X "range")(hm:X.mg "range"=none)(ha:QA X [a] ta)(hs:autoParam (starEach [a] X.env=[(false,eval a X.env)]) zX):QI X tg (.Call (.Name "range" p) [a] [] pos) (Zb8 ta):=by
 refine⟨?_⟩;have ha:=ha.run
 intro pins s σ H R I h;refine Call_ (Ga I hg hm boot_range (Sd (Ak (ha pos pins s σ H _ I h) λus s1 O=>?_) hs rfl));obtain⟨vs,H1,Z,U,F⟩:=O;obtain⟨j,e,F,Y,q⟩:=F;subst e;cases U with
 |cons r rr =>
  cases rr;obtain⟨t,rfl⟩:=r;exact call_range_1 (Zp6 Z (by lia) (by lia) F Y (by simpa using q))
theorem Dq (hp:PassesOwn (model X.prog X.w) X.A X.env X.xe)(hc:X.calm=true)(hi:QI X tg iter wi)(hg:QG X tg g)(hb:E7 X body tb)(hs:autoParam (∀x,foldedSetIterable iter X.env x=pure x) zE):QS X (.For tg iter body [] pos) (Zbp wi g tb):=by
 refine⟨?_⟩;have hi:=hi.run;have hg:=hg.run;have hb:=hb.run
 intro pins s σ H D I h;refine wpAny_For (Ak (hi pins s σ H _ I h) λv s1 h1=>Ak h1 λaj s2 h2=>?_) hs;obtain⟨it,fp,tn,J,H2,e,I2,T,ah,f2,W,⟨m0,w0⟩,ae⟩:=h2;subst e;have F:∀{H':Hp},(∀b∈fp,H' b=none)->∀b∈fp,FpOk X pins H' b:=λhn b hb=>⟨hn b hb,(f2 b hb).2⟩;refine codeAny_forLoop_any (λn s'=>eX3 λi σ' H'=>Inv X pins σ' H' s'/\tn i s'.heap/\(∀b∈fp,H' b=none)/\W i n σ' H') ?_ m0 ⟨0,σ,H2,I2,ah,λb hb=>(f2 b hb).1,w0⟩;rintro n s3 ⟨i,O,H3,I3,ac,ad,w3⟩;rcases ae i n O H3 w3 with⟨stop,qn⟩|⟨go,N,hN,step⟩
 ·refine Sk hp (Ak (T.done X rfl rfl rfl hc i pins s3 O H3 X.xe I3 (F ad) ac stop) λr s4 zq=>?_);obtain⟨hr,I4⟩:=zq;subst hr;exact Sv ⟨O,H3,I4,qn⟩
 ·refine Sk hp (Ak (T.item X rfl rfl rfl hc i pins s3 O H3 X.xe I3 (F ad) ac go) λr s4 zq=>?_);obtain⟨u,hr,h4⟩:=zq;subst hr;refine Sk hp (Ak h4 λ_ s5 zq=>?_);obtain⟨x,H5,I5,r5,y5,aa,ag⟩:=zq;have af:=I5.pinned (F ag) (T.obj _ _ aa);refine Sk hp (Ak (hg _ s5 O H5 x u _ af r5 (step x H5 y5)) λ_ s6 zq=>?_);obtain⟨ai,H6,I6,q6⟩:=zq;refine Sk hp (Ak (hb _ s6 ai H6 _ I6 q6) λf s7 q7=>?_);have U:∀{j:St}{Z:Hp},Inv X (pins++Kj fp s5.heap) j Z s7->N j Z->∃m,m<n/\eX3 λi σ' H'=>Inv X pins σ' H' s7/\tn i s7.heap/\(∀b∈fp,H' b=none)/\W i m σ' H':=λ{j Z} Y n7=>by
   obtain⟨m',hm,w7⟩:=hN j Z n7;refine⟨m',hm,i+1,j,Z,Y.unpinned,T.keep _ _ _ aa λb hb o e=>(Y.pin (b,o) (Ra _ (Ra _ (Ob hb e)))).1,λb hb=>?_,w7⟩;obtain⟨o,e,d⟩:=T.obj _ _ aa b hb;exact(Y.pin (b,o) (Ra _ (Ra _ (Ob hb e)))).2.1
  cases f with
  |next=>obtain⟨j,Z,Y,n7⟩:=q7;exact U Y n7
  |cont=>obtain⟨j,Z,Y,n7⟩:=q7;exact U Y n7
  |brk=>obtain⟨j,Z,Y,q7⟩:=q7;exact⟨j,Z,Y.unpinned,q7⟩
  |ret v=>obtain⟨x7,j,Z,Y,r7,q7⟩:=q7;exact⟨x7,j,Z,Y.unpinned,r7,q7⟩
theorem Zjy (he:QE X e ta)(hb:attributeBase e f X.env (eval e X.env)=eval e X.env):QE X (.Attribute e f pos) (Zae X.K ta f):=by
 refine⟨?_⟩;have he:=he.run
 intro pins s σ H Q I h;refine Zqq hb (Ak (he pins s σ H _ I h) λu s1 j=>?_);obtain⟨x,H1,U,O,a,C,dx,fs,v,ex,Y,c,n,l,q⟩:=j;subst ex;obtain rfl:u=Value.ref a:=O;exact Zdw U Y c n l λu' s2 Z F=>⟨v,H1,Z,F,q⟩
theorem Zr9 (ha:QE X o ta)(hv:QE X value tv)(hs:swapsWith value (some (.Attribute o f pos')) pos.line X.env=pure false):QS X (.Assign [.Attribute o f pos'] value pos) (Ng X.K ta tv f):=by
 refine⟨?_⟩;have ha:=ha.run;have hv:=hv.run
 intro pins s σ H D I h;refine plainObj_wpAny_Assign_Attribute (Ak (hv pins s σ H _ I h) λu s1 j=>?_) hs;obtain⟨y,H1,Y,O,q⟩:=j;refine Ak (ha pins s1 σ H1 _ Y q) λov s2 j=>?_;obtain⟨x,H2,I2,U,a,C,dx,fs,ex,ea,c,n,l,Z⟩:=j;subst ex;obtain rfl:ov=Value.ref a:=U;exact Zfh I2 ea c n l O λs3 F=>⟨σ,_,F,Z⟩
theorem Ab  : QA X [] J1:=⟨Zfr⟩
theorem Aa (ha:QE X e te)(hr:QA X es t)(hs:autoParam (starEach (e::es) X.env=(false,eval e X.env)::starEach es X.env) zX):QA X (e::es) (Zbk te t):=⟨Zey ha.run hr.run hs⟩
theorem Ao {x1}(h:QA X es t):QE X (.Tuple es x1 pos) (Ov t):=by
 refine⟨?_⟩;have h:=h.run
 intro pins s σ H Q I Y;refine wpAny_Tuple_spliced (Ak (h pos pins s σ H _ I Y) λO j ⟨xs,H1,F,r,z,q⟩=>⟨by rw[<- r.length];exact z,?_⟩);have U:H1 j.heap.objs.size=none:=F.hok.fresh (Pj _);refine⟨.ref j.heap.objs.size,upd H1 j.heap.objs.size (.tup xs),F.laid (t':=j.toks) (λb u e=>Pm _ e) (Pj _) ?_,rfl,q _ U⟩;exact⟨z,O,r,⟨_,P3 _ rfl,rfl,_,rfl⟩⟩
theorem Bq (h:QA X es t):QE X (.List es pos) (Zaj t):=by
 refine⟨?_⟩;have h:=h.run
 intro pins s σ H Q I Y;refine wpAny_List_spliced (Ak (h pos pins s σ H _ I Y) λO j ⟨xs,H1,F,r,z,q⟩=>⟨by rw[<- r.length];exact z,?_⟩);have U:H1 j.heap.objs.size=none:=F.hok.fresh (Pj _);refine⟨.ref j.heap.objs.size,upd H1 j.heap.objs.size (.lst xs),F.laid (t':=j.toks) (λb u e=>Pm _ e) (Pj _) ?_,rfl,q _ U⟩;exact⟨z,O,0,r,P3 _ rfl⟩
theorem A3 (C:A8 X.prog X.w X.K X.mg X.base k x ps sp)(hr:Room k X.A)(ha:QA X (e::es) t)(hg:autoParam (Gl X x) zX)(hdb:autoParam ((x == ("__debug__":Str))=false) zW)(he:autoParam (starEach (e::es) X.env=(false,eval e X.env)::starEach es X.env) zX)(hpl:autoParam ((backTo pos (starEach es X.env)).any (·.1)=false) zX):QE X (.Call (.Name x p) (e::es) [] pos) (Km sp [] E0 t):=by
 refine⟨?_⟩;have ha:=ha.run
 obtain⟨f,fd,F,O,I,j⟩:=C.ex;exact Zh5 F hr hg O I j .nil Dj ha hdb he hpl
theorem A6 {id:String}(hc:Cw X (.builtin id) r)(hg:Gl X x)(hm:X.mg x=none)(hv:bootBuiltins x=some (.builtin id))(ha:QA X (e::es) t)(hn:autoParam (x≠"__name__") zW)(hdb:autoParam ((x == ("__debug__":Str))=false) zW)(he:autoParam (starEach (e::es) X.env=(false,eval e X.env)::starEach es X.env) zX)(hpl:autoParam ((backTo pos (starEach es X.env)).any (·.1)=false) zX):QE X (.Call (.Name x p) (e::es) [] pos) (tCB r t):=by
 refine⟨?_⟩;have ha:=ha.run
 intro pins s σ H Q I h;refine Tz (Ga I hg hm hv ?_ hn hdb);exact PyProof.Rows.callWith_builtin1 (Ak (ha pos pins s σ H _ I h) λF j ⟨vs,H1,Y,U,O⟩=>hc pins j σ H1 vs F Q Y U O) he hpl
theorem D4 (hc:Cw X (.type T) r)(hg:Gl X x)(hm:X.mg x=none)(hv:bootBuiltins x=some (.type T))(ha:QA X (e::es) t)(hn:autoParam (x≠"__name__") zW)(hdb:autoParam ((x == ("__debug__":Str))=false) zW)(he:autoParam (starEach (e::es) X.env=(false,eval e X.env)::starEach es X.env) zX)(hpl:autoParam ((backTo pos (starEach es X.env)).any (·.1)=false) zX):QE X (.Call (.Name x p) (e::es) [] pos) (tCB r t):=by
 refine⟨?_⟩;have ha:=ha.run
 intro pins s σ H Q I h;refine Tz (Ga I hg hm hv ?_ hn hdb);exact Sd (Ak (ha pos pins s σ H _ I h) λF j ⟨vs,H1,Y,U,O⟩=>hc pins j σ H1 vs F Q Y U O) he hpl
theorem Ew  : QO X none Zb0:=by
 refine⟨?_⟩
 intro pins s σ H Q I h;rw[evalPart_none];exact Pi ⟨none,H,I,.none,h⟩
theorem Dr (h:QE X e te):QO X (some e) (Zcr te):=by
 refine⟨?_⟩;have h:=h.run
 intro pins s σ H Q I Y;rw[evalPart_some];refine Ak (h pins s σ H _ I Y) λu Z F=>?_;obtain⟨x,H1,U,O,j⟩:=F;obtain⟨i,rfl,q⟩:=j;obtain⟨t,rfl⟩:=O;exact⟨some i,H1,U,.int i t,q⟩
theorem Ej {lo hi:Option Expr}{r:V->Option Int->Option Int->Hp->VK->Prop}(hr:SlR X r)(he:QE X e te)(hl:QO X lo tl)(hu:QO X hi th):QE X (.Subscript e (.Slice lo hi none p2) pos) (tSl r te tl th):=by
 refine⟨?_⟩;have he:=he.run;have hl:=hl.run;have hu:=hu.run
 intro pins s σ H Q I h;refine Subscript_ (Ak (he pins s σ H _ I h) λv s1 F=>?_);obtain⟨x,H1,I1,r1,Z⟩:=F;refine wpAny_Slice (Ak (hl pins s1 σ H1 _ I1 Z) λU s2 F=>?_);obtain⟨l,H2,I2,pl,q2⟩:=F;refine Ak (hu pins s2 σ H2 _ I2 q2) λO j F=>?_;obtain⟨u,Y,I3,pu,q3⟩:=F;rw[evalPart_none];refine Pi ?_;have I4:Inv X pins σ Y { j with heap:=j.heap.push { cls:=.type "slice",data:=.fields #[U,O,.none] } }:=I3.kept (t':=j.toks) λb ob q=>Pm _ q;obtain⟨T,id,hT,ht,hg⟩:=hr pins { j with heap:=j.heap.push { cls:=.type "slice",data:=.fields #[U,O,.none] } } σ Y x v U O l u j.heap.objs.size Q I4 r1 (Heap.IsSliceOf.new ..) pl pu q3;show wpAny (model X.prog X.w) X.A (subscriptTail e (.Slice lo hi none p2) v (.ref j.heap.objs.size)) (EP X pins σ Q) X.xe { j with heap:=j.heap.push { cls:=.type "slice",data:=.fields #[U,O,.none] } };exact tail_any (ops:=[.ref j.heap.objs.size,v]) ht hT hg (by with_unfolding_all rfl)
theorem Jz (hr:IxR X r)(ha:QE X a ta)(hb:QE X b tb)(hs:Pa b):QE X (.Subscript a b pos) (Fm r ta tb):=by
 refine⟨?_⟩;have ha:=ha.run;have hb:=hb.run
 intro pins s σ H Q I h;exact Subscript_ (Zcc ha hb I h λv u O x y H2 U F j q=>hr a b pins O σ H2 x y v u Q U F j q (hs _ _))
theorem Zkk {T id:String}(pa:PlainAttrs T)(slot:Slot T name id)(hty:typeOf (.builtin id)=pure (.type "method_descriptor"))(hm:Hh X id r)(ho:QE X o to)(ha:QA X (e::es) t)(hbase:autoParam (attributeBase o name X.env (eval o X.env)=eval o X.env) zX)(hfew:autoParam (((backTo cpos (starEach (e::es) X.env)).all (λx=>!x.1) && (backToKw cpos (keywordEach [] X.env)).all (λx=>x.1.isSome)
   && decide ((e::es).length+([]:List Keyword).length+(if ([]:List Keyword).isEmpty then 0 else 1)<30))=true) zX) (hline:autoParam ((apos.endLine == cpos.line)=true) zX) (hs:autoParam (starEach (e::es) X.env=(false,eval e X.env)::starEach es X.env) zX) (hplain:autoParam ((backTo cpos (starEach es X.env)).any (·.1)=false) zX):QE X (.Call (.Attribute o name apos) (e::es) [] cpos) (tBM X.K T r to t):=by
 refine⟨?_⟩;have ho:=ho.run;have ha:=ha.run
 intro pins s σ H Q I h;refine wpAny_Call_method_late hbase hfew hline rfl (Ak (ho pins s σ H _ I h) λv s1 Y=>?_);obtain⟨x,H1,F,j,ty,U⟩:=Y;obtain⟨h1,h2⟩:=Zhp F j ty;refine⟨T,id,pa,slot,hty,h1,h2,?_⟩;have O:=ha cpos pins s1 σ H1 _ F U;rw[hs]at O ⊢;refine Calls.callWith_builtin (by show(false || (backTo cpos (starEach es X.env)).any (·.1))=false;rw[hplain] <;> rfl) (Calls.evalArgs_plain ?_);exact Ak O λZ s2 ⟨vs,H2,I2,r2,q2⟩=>hm pins s2 σ H2 x vs v Z Q I2 j r2 q2
theorem Zov {T id:String}(pa:PlainAttrs T)(slot:Slot T name id)(hty:typeOf (.builtin id)=pure (.type "method_descriptor"))(hm:Hh X id r)(ho:QE X o to)(hbase:autoParam (attributeBase o name X.env (eval o X.env)=eval o X.env) zX)(hline:autoParam ((apos.endLine == cpos.line)=true) zX):QE X (.Call (.Attribute o name apos) [] [] cpos) (Oq X.K T r to):=by
 refine⟨?_⟩;have ho:=ho.run
 intro pins s σ H Q I h;refine wpAny_Call_method0_late hbase hline (Ak (ho pins s σ H _ I h) λv O Y=>?_);obtain⟨x,H1,F,j,ty,U⟩:=Y;obtain⟨h1,h2⟩:=Zhp F j ty;exact⟨T,id,pa,slot,hty,h1,h2,Calls.callWith_builtin rfl (PySem.evalArgs_none (hm pins O σ H1 x [] v [] Q F j .nil U))⟩
theorem Lk (hc:X.calm=true)(S:Hz scope X.env)(hi:QI X target iter wi)(T:∀σ,σ.length=X.N.length->Gp X scope N σ (σ0 σ))(hg:∀C s H fp,QG (Dh X scope C N s H fp) target g)(ht:∀C s H fp,QTs (Dh X scope C N s H fp) ifs tt)(he:∀C s H fp,QE (Dh X scope C N s H fp) elt te)(hs:autoParam (∀x,foldedSetIterable iter X.env x=pure x) zE):QE X (.ListComp elt [⟨target,iter,ifs,0⟩] scope pos) (Kl wi σ0 g tt te):=⟨Zjg hc S hi.run T (λC s H fp=>(hg C s H fp).run) (λC s H fp=>(ht C s H fp).run) (λC s H fp=>(he C s H fp).run) hs⟩
theorem Nf (hc:X.calm=true)(S:Hz scope X.env)(hi:QI X target iter wi)(T:∀σ,σ.length=X.N.length->Gp X scope N σ (σ0 σ))(hg:∀C s H fp,QG (Dh X scope C N s H fp) target g)(ht:∀C s H fp,QTs (Dh X scope C N s H fp) ifs tt)(he:∀C s H fp,QE (Dh X scope C N s H fp) elt te)(hN:X.N.Nodup)(hy:X.N[i]?=some y)(hx:Fh X.env.scope y)(hsw:autoParam (swapsWith (.ListComp elt [⟨target,iter,ifs,0⟩] scope pos) (some (.Name y py)) spos.line X.env=pure true) zX)(hf:autoParam (X.fn y=true\/X.env.scope.names.lookup y=some .local) zQ)(hs:autoParam (∀x,foldedSetIterable iter X.env x=pure x) zE):QS X (.Assign [.Name y py] (.ListComp elt [⟨target,iter,ifs,0⟩] scope pos) spos) (G8 (Kl wi σ0 g tt te) (Gz i)):=⟨Zsn hc S hi.run T (λC s H fp=>(hg C s H fp).run) (λC s H fp=>(ht C s H fp).run) (λC s H fp=>(he C s H fp).run) hN hy hx hsw hf hs⟩
theorem Ip:QTs X [] O0:=⟨λ_ _ _ H _ I h=>wpAny_tests_nil ⟨H,I,h⟩⟩
theorem Zam (h:QT X c t):QTs X [c] t:=by
 refine⟨?_⟩;have h:=h.run;exact λpins s σ H Q I j=>wpAny_tests_one (h pins s σ H Q I j)
theorem Gh {j pos'}(ha:QE X a ta):QC X .Is a (.Constant .none j pos') (Zbr ta):=by
 refine⟨?_⟩;have ha:=ha.run
 intro pins s σ H Q I h;refine Ak (ha pins s σ H _ I h) λv Z O=>?_;obtain⟨x,H1,Y,U,F⟩:=O;exact Constant_none (is_none_gen ⟨.bl _,H1,Y,by rw[U.none_iff];rfl,F⟩)
theorem Zkb {j pos'}(ha:QE X a ta):QC X .IsNot a (.Constant .none j pos') (Zad ta):=by
 refine⟨?_⟩;have ha:=ha.run
 intro pins s σ H Q I h;refine Ak (ha pins s σ H _ I h) λv Z O=>?_;obtain⟨x,H1,Y,U,F⟩:=O;exact Constant_none (isnot_none_gen ⟨.bl _,H1,Y,by rw[U.none_iff];rfl,F⟩)
theorem N7 (h:Mu es=some xs):QA X es (Zay xs):=⟨Ziq h⟩
theorem qv (i:Nat)(hN:autoParam (X.N[i]?=some x) zX)(hv:Vis X.env.scope x:=by first|exact Or.inl rfl|exact Or.inr (Or.inl rfl)|exact Or.inr (Or.inr rfl))(hd:autoParam ((x == ("__debug__":Str))=false) zW)(hcd:autoParam ((x == ("__classdict__":Str))=false) zW):QE X (.Name x pos) (Zco i):=by
 refine⟨?_⟩
 intro pins s σ H Q I h;obtain⟨v,e,h⟩:=h;obtain⟨m,Y,Z⟩:=I.loc;obtain⟨u,r,l⟩:=Z i x v hN e hv;have F:EP X pins σ Q u s:=⟨v,H,I,r,h⟩;rcases l with⟨O,hm⟩|⟨O,c,U,j⟩
 ·exact wpAny_Name (wpAny_loadName_local I.ok.kind O Y hm F) hd
 ·rcases O with O|O
  ·exact wpAny_Name (wpAny_loadName_cell I.ok.kind O U j F) hd
  ·exact wpAny_Name (wpAny_loadName_free I.ok.kind O U j F hcd) hd
theorem QW.qt (h:QW X e t):QT X e t:=⟨h.run.pt⟩
section
variable {P:Program}{w:World}{K:Pg}{mg:Str->Option Value}{base:Heap}
theorem Fun.okq {x qual:Str}{st:Stmt}{f:Addr}{fd:FuncData}{N ps:List Str}{k:Nat}{sp:Sp}(F:Fun K x qual st f fd)(S:A9 N ps (A5 st))(len:∀vs H Q E,sp vs H Q E->vs.length=ps.length)
  (hbody:∀(cdv:Value)(A:Around)(outer:List Env)(s:Shared)(H:Hp)(vs:List V)(Q:VK)(E:XK),Room k (A.deeper (envOfC qual (A5 st) s.heap.objs.size f cdv))->sp vs H Q E ->
   ∃t,E7 (El Aq P w K mg base N qual (A5 st) f cdv A outer s H E).nox (Fc st) t/\t { nx:=λ_ H'=>Q .non H',rt:=Q } (Fn N vs) H):FnOk P w K mg base Aq (k+1) f fd ps sp :=
 F.ok S len λcdv A outer s H vs Q E j h=>by
  obtain⟨t,q,r⟩:=hbody cdv A outer s H vs Q E j h;exact⟨t,q.run,r⟩
end
section
variable {X:Cx}
def Zmp:R2:=λx y H Q=>∃i j,x=.str i/\y=.str j/\i.length+j.length<=sizeLine/\Q (.str (i++j)) H
def Zed (K:Pg):R2:=λx y H Q=>eX4 λa b xs ys=>x=.ref a/\y=.ref b/\SqT K H a xs/\SqT K H b ys/\xs.length+ys.length<=sizeLine /\
 ∀r H',Same H H'->SqT K H' r (xs++ys)->Q (.ref r) H'
theorem Zsk:OpR X (binaryOp .Add) (Zed X.K):=by
 intro pins s σ H x y v u Q I rx ry h;obtain⟨a,b,xs,ys,rfl,rfl,Y,U,hz,q⟩:=h;by_cases hx:xs=[]
 ·subst hx;cases rx;cases ry;obtain⟨ag,r1,p1,_⟩:=I.tuple Y;obtain⟨af,r2,p2,_⟩:=I.tuple U;cases r1;obtain⟨⟨ah,dd,ae,sl⟩,ho,hc,n,hd⟩:=id p1;obtain⟨⟨ad,ac,aa,Z⟩,F,O,n2,j⟩:=id p2;simp only at hc hd O j;subst hc hd O j;exact Vt ⟨_,ho,rfl⟩ ⟨_,F,rfl⟩ Va Vo Uy Uv (Us _ _)
   (tuple_addW0 a b _ _ n n2 dd ac sl Z (by simp)) ⟨ho,F,⟨.ref b,H,I,rfl,q b H (Same.refl H) U⟩⟩
 ·refine Ze7 pins s σ H _ _ v u Q I rx ry ⟨a,b,xs,ys,rfl,rfl,Y,U,hx,hz,λe=>?_,λ_ p hp=>q p _ (λc o e=>by rw[Ag (Cy e hp)];exact e) (.inl (.inl Ae))⟩;subst e;exact q a H (Same.refl H) (by rw[Q0];exact Y)
def Ij (K:Pg):R2:=λx y H Q=>E1 (λi j=>.int (i+j)) x y H Q\/Zmp x y H Q\/rCat x y H Q\/Zed K x y H Q
theorem op_addA:OpR X (binaryOp .Add) (Ij X.K):=op_add.or (op_add_str.or (op_cat.or Zsk))
theorem s_add_int {K:Pg}{i j:Int}{H:Hp}{Q:VK}(h:Q (.int (i+j)) H):Ij K (.int i) (.int j) H Q:=.inl ⟨i,j,rfl,rfl,h⟩
theorem Mx {K:Pg}{i j:Str}{H:Hp}{Q:VK}(hl:i.length+j.length<=sizeLine)(h:Q (.str (i++j)) H):Ij K (.str i) (.str j) H Q:=.inr (.inl ⟨i,j,rfl,rfl,hl,h⟩)
theorem Gv {K:Pg}{a b:Addr}{xs ys:List V}{H:Hp}{Q:VK}(ha:H a=some (.lst xs))(hb:H b=some (.lst ys))(hz:xs.length+ys.length<=sizeLine)(h:∀p,H p=none->Q (.ref p) (upd H p (.lst (xs++ys)))):Ij K (.ref a) (.ref b) H Q:=.inr (.inr (.inl ⟨a,b,xs,ys,rfl,rfl,ha,hb,hz,h⟩))
theorem Zhb {K:Pg}{a b:Addr}{xs ys:List V}{H:Hp}{Q:VK}(ha:SqT K H a xs)(hb:SqT K H b ys)(hz:xs.length+ys.length<=sizeLine)(h:∀r H',Same H H'->SqT K H' r (xs++ys)->Q (.ref r) H'):Ij K (.ref a) (.ref b) H Q:=.inr (.inr (.inr ⟨a,b,xs,ys,rfl,rfl,ha,hb,hz,h⟩))
def Zcz:R2:=λx y H Q=>rI CMul (λi j=>.int (i*j)) x y H Q\/rRep x y H Q
theorem Im:OpR X (binaryOp .Mult) Zcz:=op_mul.or Zuc
theorem s_mul_l (h1:-(2 ^ 64)<i)(h2:i<2 ^ 64)(h:Q (.int (i*j)) H):Zcz (.int i) (.int j) H Q:=.inl ⟨i,j,rfl,rfl,.inl ⟨h1,h2⟩,h⟩
theorem s_mul_r (h1:-(2 ^ 64)<j)(h2:j<2 ^ 64)(h:Q (.int (i*j)) H):Zcz (.int i) (.int j) H Q:=.inl ⟨i,j,rfl,rfl,.inr ⟨h1,h2⟩,h⟩
theorem s_rI (hc:C i j)(h:Q (g i j) H):rI C g (.int i) (.int j) H Q:=⟨i,j,rfl,rfl,hc,h⟩
theorem s_rI0 (h:Q (g i j) H):E1 g (.int i) (.int j) H Q:=⟨i,j,rfl,rfl,h⟩
theorem s_rU (h:Q (g i) H):rU g (.int i) H Q:=⟨i,rfl,h⟩
def rLtA:R2:=λx y H Q=>E1 (λi j=>.bl (decide (i<j))) x y H Q\/∃i j,x=.str i/\y=.str j/\Q (.bl (decide (i.cps.toList<j.cps.toList))) H
theorem E6:OpR X (compareOp .Lt) rLtA:=op_lt.or Znc
def rLeA:R2:=λx y H Q=>E1 (λi j=>.bl (decide (i<=j))) x y H Q\/∃i j,x=.str i/\y=.str j/\Q (.bl (!(decide (j.cps.toList<i.cps.toList)))) H
theorem Ze0:OpR X (compareOp .LtE) rLeA:=op_le.or Zrd
theorem s_lt (h:Q (.bl (decide (i<j))) H):rLtA (.int i) (.int j) H Q:=.inl ⟨i,j,rfl,rfl,h⟩
theorem s_le (h:Q (.bl (decide (i<=j))) H):rLeA (.int i) (.int j) H Q:=.inl ⟨i,j,rfl,rfl,h⟩
def rInS (neg:Bool):R2:=λx y H Q=>∃(c:Nat)(j:Str),x=.str ⟨#[c]⟩/\y=.str j/\Q (.bl (if neg then !decide (c∈j.cps.toList) else decide (c∈j.cps.toList))) H
theorem Zt3:OpR X (compareOp .In) (rInS false):=Zo2
def Za4 (K:Pg)(neg:Bool):R2:=λx y H Q=>rIn K neg x y H Q\/rInS neg x y H Q
theorem Zk1:OpR X (compareOp .In) (Za4 X.K false):=op_in_seq.or Zt3
theorem Hd {K:Pg}{neg:Bool}{x:V}{p:Addr}{xs:List V}{H:Hp}{Q:VK}(hq:SqL K H p xs\/SqT K H p xs)(hx:C2 x=true)(hxs:xs.all C2=true)(h:Q (.bl (if neg then !E8 x xs else E8 x xs)) H):Za4 K neg x (.ref p) H Q:=.inl ⟨p,xs,rfl,hq,hx,hxs,h⟩
def Zct (K:Pg):V->Option Int->Option Int->Hp->VK->Prop:=λx lo hi H Q=>Zbz K x lo hi H Q\/Pe x lo hi H Q\/rSlT K x lo hi H Q
theorem Zne:SlR X (Zct X.K):=sl_list.or (sl_str.or Zdu)
theorem Jj {K:Pg}{a:Addr}{xs:List V}{lo hi:Option Int}{H:Hp}{Q:VK}(ha:SqL K H a xs)(h:∀p,H p=none->Q (.ref p) (upd H p (.lst (B8 xs lo hi)))):Zct K (.ref a) lo hi H Q:=.inl ⟨a,xs,rfl,ha,h⟩
theorem Bd {K:Pg}{a:Addr}{xs:List V}{i:Int}{v:V}{H:Hp}{Q:VK}(ha:SqL K H a xs)(hv:Cm xs i=some v)(h:Q v H):Js K (.ref a) (.int i) H Q:=.inl ⟨a,xs,i,v,rfl,rfl,ha,hv,h⟩
theorem Aw {K:Pg}{a:Addr}{xs:List V}{i:Int}{v:V}{H:Hp}{Q:VK}(ha:SqT K H a xs)(hv:Cm xs i=some v)(h:Q v H):Js K (.ref a) (.int i) H Q:=.inr (.inl ⟨a,xs,i,v,rfl,rfl,ha,hv,h⟩)
theorem Zkp {K:Pg}{z:Str}{i:Int}{c:Nat}{H:Hp}{Q:VK}(hl:z.length<=sizeLine)(hv:Cm z.cps.toList i=some c)(h:Q (.str ⟨#[c]⟩) H):Js K (.str z) (.int i) H Q:=.inr (.inr ⟨z,i,c,rfl,rfl,hl,hv,h⟩)
def Mn (K:Pg):List V->Hp->VK->Prop:=λxs H Q=>∃x n,xs=[x]/\LenV K x H n/\Q (.int n) H
theorem Zuj:Cw X (.builtin "len") (Mn X.K):=Znp
theorem Cp {K:Pg}{a:Addr}{xs:List V}{H:Hp}{Q:VK}(ha:SqL K H a xs)(h:Q (.int xs.length) H):Mn K [.ref a] H Q:=⟨_,_,rfl,.inl ⟨xs,ha,rfl⟩,h⟩
theorem Dv {K:Pg}{a:Addr}{xs:List V}{H:Hp}{Q:VK}(ha:SqT K H a xs)(h:Q (.int xs.length) H):Mn K [.ref a] H Q:=⟨_,_,rfl,.inr ⟨xs,ha,rfl⟩,h⟩
structure Eu (mg:Str->Option Value)(x:Str)(v:V):Prop where
 ex:∃u,mg x=some u/\RelV v u
theorem Ge (G:Eu X.mg x v)(hg:autoParam (Gl X x) zX)(hd:autoParam ((x == ("__debug__":Str))=false) zW):QE X (.Name x pos) (tC v):=by
 obtain⟨u,h,r⟩:=G.ex;exact⟨Zn6 hg h r hd⟩
def Zbf (K:Pg)(tl:TE):TI:=λσ H R=>tl σ H λx H1=>(∃a,x=.ref a/\(∃xs,SqL K H1 a xs)/\R (Hu K a) H1)\/(∃a,x=.ref a/\(∃xs,SqT K H1 a xs)/\R (Ic K a) H1)\/∃z,x=.str z/\R (Its z) H1
theorem Zli (hl:QE X l tl):QI X tg l (Zbf X.K tl):=by
 refine⟨λpins s σ H R I h=>?_⟩;refine Ak (hl.run pins s σ H _ I h) λv j zq=>?_;obtain⟨x,H1,F,Y,q1⟩:=zq;have one:∀(l:Expr)(t:TE),PE X l t->True:=λ_ _ _=>trivial;rcases q1 with⟨a,e,⟨xs,Z⟩,q⟩|⟨a,e,⟨xs,Z⟩,q⟩|⟨z,e,q⟩
 ·subst e;cases Y;obtain⟨U,rv,p,hz⟩:=F.list Z;refine U8 p.isList ?_;refine⟨j.heap.objs.size,[j.heap.objs.size],_,_,H1,rfl,F.kept (t':=j.toks) λb o e=>Pm _ e,Zkt a _,⟨_,P3 _ rfl,rfl,rfl⟩,λb O=>?_,q⟩;have e:b=j.heap.objs.size:=by simpa using O
  subst e;exact F.fpOk (Pj _) (F.hok.fresh (Pj _))
 ·subst e;cases Y;obtain⟨U,rv,p,hz⟩:=F.tuple Z;refine T3 (show j.heap.IsTuple a U.toArray from p) ?_;refine⟨j.heap.objs.size,[j.heap.objs.size],_,_,H1,rfl,F.kept (t':=j.toks) λb o e=>Pm _ e,Ztt a _,⟨_,P3 _ rfl,rfl,rfl⟩,λb O=>?_,q⟩;have e:b=j.heap.objs.size:=by simpa using O
  subst e;exact F.fpOk (Pj _) (F.hok.fresh (Pj _))
 ·subst e;obtain⟨t,rfl⟩:=Y;refine wpAny_pyIter_strU ?_;refine⟨j.heap.objs.size,[j.heap.objs.size],_,_,H1,rfl,F.kept (t':=j.toks) λb o e=>Pm _ e,Zqi _ z t,⟨_,P3 _ rfl,rfl,rfl⟩,λb O=>?_,q⟩;have e:b=j.heap.objs.size:=by simpa using O
  subst e;exact F.fpOk (Pj _) (F.hok.fresh (Pj _))
end
section
variable {X:Cx}{tg:Expr}
end
noncomputable def Jd (K:Pg)(a:Addr)(n:Nat):It :=
 ⟨λi H=>∃xs,SqL K H a xs/\xs.length=n/\i<n,λi H x H'=>H'=H/\∀xs,SqL K H a xs->xs[n-1-i]?=some x,λi _=>i=n⟩
theorem Zu4 {P:Program}{w:World}{K:Pg}{tg:Expr}(a it:Addr)(n:Nat):Hf P w K tg (Jd K a n) [it] it (λi h=>i<=n/\h.IsRevIter it a ((n:Int)-1-(i:Int))) where
 mem:=by simp
 obj:=λi h st b F=>by
  have e:b=it:=by simpa using F
  subst e;obtain⟨o,e,c,d⟩:=st.2;exact⟨o,e,λv z=>by rw[d]at z;cases z⟩
 keep:=λi h h' st k=>⟨st.1,st.2.at λo e=>k it (by simp) o e⟩
 item:=by
  intro X Z hw hK hc i pins s σ H E I Y st U;subst Z hw hK;obtain⟨xs,hq,hl,hi⟩:=U;obtain⟨aa,rv,p,hz⟩:=I.list hq;have hx:xs[n-1-i]?=some (xs[n-1-i]'(by lia)):=Pk (by lia);obtain⟨u,hu,ru⟩:=rv.get hx;obtain⟨f0,f1,f2,f3,f4,f5⟩:=Y it (by simp);have e:(n:Int)-1-(i:Int)=((n-1-i:Nat):Int):=by lia
  have j:=st.2;rw[e]at j;refine wpAny_pyNext_rev_item j p.isList (x:=u) (by simpa using hu) λh' O sb=>?_;have I1:Inv X pins σ H { s with heap:=h' }:=I.turned (t':=s.toks) (λb o F e=>(sb.2 b F).trans e) f0 f1 f3 f4 f5;have e2:((n-1-i:Nat):Int)-1=(n:Int)-1-((i+1:Nat):Int):=by lia
  rw[e2]at O;obtain⟨o,eo,c,d⟩:=id O;exact⟨u,rfl,Me (s:={ s with heap:=h' }) eo c d (by decide) ⟨_,H,I1,ru,⟨rfl,λys hy=>by rw[I.list_inj hy hq];exact hx⟩,⟨hi,O⟩,λb F=>(Y b F).1⟩⟩
 done:=by
  intro X Z hw hK hc i pins s σ H E I Y st U;subst Z hw hK;have U:i=n:=U;subst U;obtain⟨f0,f1,f2,f3,f4,f5⟩:=Y it (by simp);have e:(i:Int)-1-(i:Int)=-1:=by lia
  have j:=st.2;rw[e]at j;exact wpAny_pyNext_rev_end (I.ok.hd hc) j λh' eb=>⟨rfl,I.turned (t':=s.toks) (λb o F e=>eb b o F e) f0 f1 f3 f4 f5⟩
 self:=λ_ _ _ _ _ st h=>wpAny_pyIter_revIter st.2 h
theorem Zu1:bootBuiltins "reversed"=some (.type "reversed"):=by right
section
variable {X:Cx}{tg:Expr}
def Zcq (K:Pg)(ta:TA):TI:=λσ H R=>ta σ H λvs H1=>∃a xs,vs=[.ref a]/\SqL K H1 a xs/\R (Jd K a xs.length) H1
theorem Zm2 (hg:Gl X "reversed")(hm:X.mg "reversed"=none)(ha:QA X [a] ta)(hs:autoParam (starEach [a] X.env=[(false,eval a X.env)]) zX):QI X tg (.Call (.Name "reversed" p) [a] [] pos) (Zcq X.K ta):=by
 refine⟨λpins s σ H R I h=>?_⟩;refine Call_ (Ga I hg hm Zu1 (Sd (Ak (ha.run pos pins s σ H _ I h) λus j zq=>?_) hs rfl));obtain⟨vs,H1,U,r1,Z⟩:=zq;obtain⟨l,xs,e,hq,q⟩:=Z;subst e;cases r1 with
 |cons r rr =>
  cases rr;cases r;obtain⟨O,rv,pl,hz⟩:=U.list hq;refine call_reversed_list pl.isList ?_;have hl:=rv.length;have F:(j.heap.push (PySem.revObj l (((O.toArray).size:Int)-1))).IsRevIter j.heap.objs.size l ((xs.length:Int)-1-((0:Nat):Int)):=by
   refine⟨_,P3 _ rfl,rfl,?_⟩;have e:((O.toArray).size:Int)-1=(xs.length:Int)-1-((0:Nat):Int):=by simp[hl]
   rw[<- e];rfl
  refine wpAny_pyIter_revIter (it:=j.heap.objs.size) (l:=l) (i:=(xs.length:Int)-1-((0:Nat):Int)) F ?_;refine⟨j.heap.objs.size,[j.heap.objs.size],_,_,H1,rfl,U.kept (t':=j.toks) λb o e=>Pm _ e,Zu4 l _ xs.length,⟨Qk _,F⟩,λb Y=>?_,q⟩;have e:b=j.heap.objs.size:=by simpa using Y
  subst e;exact U.fpOk (Pj _) (U.hok.fresh (Pj _))
theorem Ze4 {K:Pg}{a:Addr}{xs:List V}{g:TG}{tb:TS}{D:Dc}{σ:St}{H:Hp}(Pv:Nat->St->Hp->Prop)(h0:Pv 0 σ H)(hl:∀i σ H,i<=xs.length->Pv i σ H->SqL K H a xs)
  (hs:∀i x σ H,i<xs.length->xs[xs.length-1-i]?=some x->Pv i σ H->g x σ H λσ2 H2=>tb { D with nx:=Pv (i+1),ct:=Pv (i+1),bk:=D.nx } σ2 H2) (hd:∀σ H,Pv xs.length σ H->D.nx σ H) :
  ∃W:Nat->Nat->St->Hp->Prop,(∃m,W 0 m σ H)/\∀i m σ H,W i m σ H ->
   ((Jd K a xs.length).stop i H/\D.nx σ H)\/((Jd K a xs.length).go i H/\∃N:St->Hp->Prop,(∀σ' H',N σ' H'->∃m',m'<m/\W (i+1) m' σ' H')/\∀x H',(Jd K a xs.length).yld i H x H'->g x σ H' λσ2 H2=>tb { D with nx:=N,ct:=N,bk:=D.nx } σ2 H2):=by
 refine⟨λi m σ H=>m=xs.length-i/\i<=xs.length/\Pv i σ H,⟨xs.length,by simp,Qk _,h0⟩,?_⟩;rintro i m σ H ⟨rfl,hi,p⟩;have q:=hl i σ H hi p;by_cases j:i<xs.length
 ·refine .inr ⟨⟨xs,q,rfl,j⟩,Pv (i+1),λσ' H' F=>⟨xs.length-(i+1),by lia,rfl,j,F⟩,λx H' y=>?_⟩;obtain⟨e,y⟩:=y;subst e;exact hs i x σ _ j (y xs q) p
 ·have e:i=xs.length:=by lia
  subst e;exact .inl ⟨rfl,hd σ H p⟩
end
section
variable {prog:Program}{w:World}{A:Around}{E:Value->Shared->Prop}{s:Shared}
theorem Zpj (hit:s.heap.IsTupleIter it t i)(ht:s.heap.IsTuple t items)(hx:items[i]?=some x)(hQ:∀h',h'.IsTupleIter it t (i+1)->P4 it s.heap h'->Q x { s with heap:=h' }):wpAny (model prog w) A (Q2 (.ref it)) Q E s:=by
 obtain⟨o,j,O,hd⟩:=id hit;obtain⟨U,I,_,nl,F⟩:=ht;unfold Q2;refine Ph (Ri (name:=Qt "__next__") hit.typeIs Ul
  (Rk Ul hit.typeIs Wz ?_ (Wy _)))
 show wpAny _ _ (field (.ref it) 0 >>= _) _ _ s;refine Ph (Pz j hd (x:=.ref t) rfl ?_);show wpAny _ _ (if (Value.ref t == Value.none)=true then _ else _) _ _ s;rw[if_neg (show ¬((Value.ref t == Value.none)=true) from Pu)];show wpAny _ _ (field (.ref it) 1 >>= _) _ _ s;refine Ph (Pz j hd (x:=.int i 0) rfl ?_);show wpAny _ _ (seqItems? (.ref t) >>= _) _ _ s;refine Ph (Rc I F ?_);simp only[Q3,hx];refine Ph (Ue j hd (by simp) (Pi ⟨x,rfl,Pi (hQ _ ?_ (P4.update ..))⟩));exact⟨_,R3 _ j (V8 (U4 hd _)),(Obj.cls_mapFields ..).trans O,by
  rw[U4 hd];simp[rawInt]⟩
theorem Zrj (hh:A.handled=none)(hit:s.heap.IsTupleIter it t i)(ht:s.heap.IsTuple t items)(hx:items[i]?=none)(hE:∀h' e,Ti it s.heap h'->(∃o,h'.get? e=some o/\o.cls=.type "StopIteration")->E (.ref e) { s with heap:=h' }):wpAny (model prog w) A (Q2 (.ref it)) Q E s:=by
 obtain⟨o,j,U,hd⟩:=id hit;obtain⟨O,I,_,nl,F⟩:=ht;unfold Q2;refine Ph (Ri (name:=Qt "__next__") hit.typeIs Ul
  (Rk Ul hit.typeIs Wz ?_ (Wy _)))
 show wpAny _ _ (field (.ref it) 0 >>= _) _ _ s;refine Ph (Pz j hd (x:=.ref t) rfl ?_);show wpAny _ _ (if (Value.ref t == Value.none)=true then _ else _) _ _ s;rw[if_neg (show ¬((Value.ref t == Value.none)=true) from Pu)];show wpAny _ _ (field (.ref it) 1 >>= _) _ _ s;refine Ph (Pz j hd (x:=.int i 0) rfl ?_);show wpAny _ _ (seqItems? (.ref t) >>= _) _ _ s;refine Ph (Rc I F ?_);simp only[Q3,hx];refine Ph (Tj (Ph (Ue j hd (by simp) ?_)));show wpAny _ _ (newExc (.type "StopIteration") [] >>= _) _ _ _;refine Ph ?_;simp only[newExc,newTuple];refine Ph (R5 ?_ (by size_fits));refine Ph (m:=firstArgMember _ _) (wpAny_of_eq (a:=Value.none) (by first|rfl|(simp only[firstArgMember];rfl)) ?_);refine R5 ?_ (by size_fits);simp only[raiseNew];refine Ph (wpAny_handled ?_)
 first|rw[show A.in1.handled=none from hh]|rw[hh]
 refine Ph (Pi (wpAny_throw ?_));exact hE _ _ (((P4.update ..).extBut.push _).push _) ⟨_,P3 _ rfl,rfl⟩
end
theorem Zcu (hh:A.handled=none)(it l:Addr)(hne:l≠it)(items:Array Value) :
  Draws prog w A it [it,l] items.size (λi v=>items[i]?=some v) (λi h=>h.IsTupleIter it l i/\h.IsTuple l items) where
 live:=λ_ _ st=>let ⟨o,ho,_⟩:=st.1;⟨o,ho⟩
 frame:=λ_ _ _ st I=>⟨st.1.at λo e=>I it (by simp) o e,let ⟨o,e,r⟩:=st.2;⟨o,I l (by simp) o e,r⟩⟩
 item:=λi s Q E hi st U=>by
  refine Zpj st.1 st.2 (x:=items[i]) (by simp[hi]) λh' F j=>?_;exact U _ h' s.toks (by simp[hi]) ⟨F,st.2.extBut j.extBut hne⟩ j
 done:=λs Q E st O=>Zrj hh st.1 st.2 (by simp) O
theorem Zrb (l:Addr)(items:Array Value)(n:Nat)(dct:Option Addr)(sl:Array (Option Value)) :
  Meets (Builtin.«enumerate.__new__» ⟨[.type "enumerate",.ref l],[]⟩) (λ_ R s=>s.heap.get? l=some { cls:=.type "tuple",dict:=dct,data:=.seq items n,slots:=sl } /\
   R (.ok (.ret (.ref (s.heap.push { cls:=.type "tuple_iterator",data:=.fields #[.ref l,.int 0 0] }).objs.size)))
    { s with heap:=(s.heap.push { cls:=.type "tuple_iterator",data:=.fields #[.ref l,.int 0 0] }).push { cls:=.type "enumerate",data:=.fields #[.none,.bool false,.ref s.heap.objs.size,rawInt 0,.none,.none] } }) :=
 .of_wp λprog w A R s h=>by
  obtain⟨hp,g,d,tk,os⟩:=s;obtain⟨j,h⟩:=h;have I:=sub_enumerate;have F:Heap.IsTuple (Shared.heap ⟨hp,g,d,tk,os⟩) l items:=⟨_,j,rfl,n,rfl⟩
  wp_walk using Um j
  refine wpAny_stack_any λst=>Pi ?_;split
  ·rename_i c _ _ _ _ _;cases (c == Value.type "enumerate")
   ·wp_walk using Um j,T3 F
    exact⟨_,rfl,h⟩
   ·wp_walk using Um j,T3 F
    exact⟨_,rfl,h⟩
  ·wp_walk using Um j,T3 F
   exact⟨_,rfl,h⟩
section
variable {prog:Program}{w:World}{A:Around}{E:Value->Shared->Prop}{s:Shared}
theorem Zte (hL:s.heap.IsTuple l items)(h:∀h',IsEnum h' (s.heap.objs.size+1) s.heap.objs.size 0 .none->h'.IsTupleIter s.heap.objs.size l 0->h'.objs.size=s.heap.objs.size+2 ->
   (∀b o,s.heap.get? b=some o->h'.get? b=some o)->Q (.ref (s.heap.objs.size+1)) { s with heap:=h' }) :
  wpAny (model prog w) A (call (.type "enumerate") [.ref l]) Q E s:=by
 obtain⟨⟨c,I,dt,Z⟩,Y,j,n,hd⟩:=hL;replace j:c=.type "tuple":=j;replace hd:dt=.seq items n:=hd;subst j hd;refine callType_new PySem.F.called_enumerate (by decide) (PySem.F.typeCall_enumerate_1 _) (PySem.F.newCall_enumerate_1 _) (λobj=>PySem.F.args_object_init_2 obj _) PySem.F.entry_enumerate_new
  (Zrb l items n I Z) ⟨Y,?_⟩
 have O:(s.heap.push { cls:=.type "tuple_iterator",data:=.fields #[.ref l,.int 0 0] }).objs.size=s.heap.objs.size+1:=Qq ..;show _/\_;rw[O];have U:IsEnum ((s.heap.push { cls:=.type "tuple_iterator",data:=.fields #[.ref l,.int 0 0] }).push
   { cls:=.type "enumerate",data:=.fields #[.none,.bool false,.ref s.heap.objs.size,rawInt 0,.none,.none] }) (s.heap.objs.size+1) s.heap.objs.size 0 .none:=by
  unfold IsEnum;rw[<- O];exact P3 _ rfl
 refine⟨⟨_,U,rfl⟩,h _ U ⟨_,Pm _ (P3 _ rfl),rfl,rfl⟩ (by rw[Qq,O]) λb o e=>Pm _ (Pm _ e)⟩
def Nv (h:Heap)(e it:Addr)(i:Int):Prop:=eX4 λ(a:Addr)(oa:Obj)(f1 old:Value)=>h.get? e=some { cls:=.type "enumerate",dict:=none,data:=.fields #[rawInt a,f1,.ref it,rawInt i,.none,old],slots:=#[] }/\h.get? a=some oa/\a≠e/\a≠it
theorem Zii (h:Q (s.heap.get? a) s):wpAny (model prog w) A (loadIfAlive a) Q E s:=by
 intro Γ p j;show Sem.wp _ Γ (.loadIfAlive a .pure) _ _ p s;rw[Sem.wp_loadIfAlive];exact h
theorem Zpo {e it:Addr}{fp:List Addr}{n i:Nat}{P:Nat->Value->Prop}{St:Nat->Heap->Prop}{Q:Value->Shared->Prop}
  (D:Draws prog w A it fp n P St) (he0:Nv s.heap e it i) (hst:St i s.heap) (hlt:i<n) (hne:e≠it) (hef:e ∉ fp)
  (hQ:∀x h' tk,P i x->Nv h' e it ((i:Int)+1)->St (i+1) h' ->
   h'.get? s.heap.objs.size=some { cls:=.type "tuple",data:=.seq #[.int i tk,x] }->h'.objs.size=s.heap.objs.size+1 ->
   (∀b o,b≠e->b≠it->s.heap.get? b=some o->h'.get? b=some o)->Q (.ref s.heap.objs.size) { s with heap:=h',toks:=tk+1 }) :
  wpAny (model prog w) A (Builtin.«enumerate.__next__» ⟨[.ref e],[]⟩) (λfin s'=>∃v,fin=.done (.ret v)/\Q v s') E s:=by
 obtain⟨a,oa,f1,old,he,a4,ak,aw⟩:=he0;obtain⟨hp,g,d,ay,os⟩:=s;show wpAny _ _ (field (.ref e) 2 >>= _) _ _ _;refine Ph (Pz he rfl (x:=.ref it) rfl ?_);refine Ph (D.item i _ _ _ hlt hst λx aa tk a3 aj I=>?_);replace I:P4 it hp aa:=I;have ag:=(I.2 e hne).trans he;have am:=I.extBut a oa aw a4;show wpAny _ _ (field (.ref e) 3 >>= _) _ _ ⟨aa,g,d,tk,os⟩;refine Ph (Pz ag rfl (x:=rawInt i) rfl ?_);show wpAny _ _ (field (.ref e) 4 >>= _) _ _ ⟨aa,g,d,tk,os⟩;refine Ph (Pz ag rfl (x:=.none) rfl ?_);show wpAny _ _ (mkInt i >>= _) _ _ ⟨aa,g,d,tk,os⟩;refine Ph (wpAny_mkInt ?_);show wpAny _ _ (setField (.ref e) 3 (rawInt ((i:Int)+1)) >>= _) _ _ ⟨aa,g,d,tk+1,os⟩;refine Ph (Rj ag (by simp) λai ae U=>?_);replace U:P4 e aa ai:=U;have al:=U.extBut a oa ak am;replace ae:ai.get? e=some { cls:=.type "enumerate",dict:=none,data:=.fields #[rawInt a,f1,.ref it,rawInt ((i:Int)+1),.none,old],slots:=#[] }:=ae;show wpAny _ _ (setField (.ref e) 4 .none >>= _) _ _ ⟨ai,g,d,tk+1,os⟩;refine Ph (Rj ae (by simp) λY af O=>?_);replace O:P4 e ai Y:=O;have an:=O.extBut a oa ak al;replace af:Y.get? e=some { cls:=.type "enumerate",dict:=none,data:=.fields #[rawInt a,f1,.ref it,rawInt ((i:Int)+1),.none,old],slots:=#[] }:=af;show wpAny _ _ (newTuple [.int i tk,x] >>= _) _ _ ⟨Y,g,d,tk+1,os⟩;refine Ph (wpAny_newTuple ?_);have ac:(Y.push { cls:=.type "tuple",data:=.seq #[.int i tk,x] }).get? e=some { cls:=.type "enumerate",dict:=none,data:=.fields #[rawInt a,f1,.ref it,rawInt ((i:Int)+1),.none,old],slots:=#[] }:=Pm _ af;have ad:(Y.push { cls:=.type "tuple",data:=.seq #[.int i tk,x] }).get? a=some oa:=Pm _ an;generalize hh₄:Y.push { cls:=.type "tuple",data:=.seq #[.int i tk,x] }=F at ac ad;have ap:Y.objs.size=hp.objs.size:=by rw[O.1,U.1,I.1]
 have a0:e<hp.objs.size:=Pq he;have as:F.get? hp.objs.size=some { cls:=.type "tuple",data:=.seq #[.int i tk,x] }:=by rw[<- hh₄,<- ap];exact P3 _ rfl
 have aq:F.objs.size=hp.objs.size+1:=by rw[<- hh₄,Qq,ap]
 have ax:∀b o,b≠e->b≠it->hp.get? b=some o->F.get? b=some o:=λb o ah au hb=>by
  rw[<- hh₄];exact Pm _ (O.extBut b o ah (U.extBut b o ah (I.extBut b o au hb)))
 have ao:St (i+1) F:=D.frame _ _ _ aj λb hb o y=>by
  have ah:b≠e:=λq=>hef (q ▸ hb);rw[<- hh₄];exact Pm _ (O.extBut b o ah (U.extBut b o ah y))
 show wpAny _ _ (Rh (.ref e) >>= _) _ _ ⟨F,g,d,tk+1,os⟩;rw[ap];clear hh₄ an al am af O ae U ag I aj ap Y ai aa;refine Ph ?_;unfold Rh;refine Ph (Pz ac rfl (x:=rawInt a) rfl ?_);show wpAny _ _ (loadIfAlive ((a:Int).toNat) >>= _) _ _ ⟨F,g,d,tk+1,os⟩;refine Ph (Zii ?_);rw[Q3];show wpAny _ _ (if (F.get? a).isNone=true then _ else _) _ _ ⟨F,g,d,tk+1,os⟩;rw[ad];rw[if_neg (by simp)];refine Ph (Pz ac rfl (x:=f1) rfl ?_);have fin:∀Z,Nv Z e it ((i:Int)+1)->P4 e F Z->Q (.ref hp.objs.size) ⟨Z,g,d,tk+1,os⟩:=λZ hl j =>
  hQ x Z tk a3 hl (D.frame _ _ _ ao λb hb o y=>j.extBut b o (λq=>hef (q ▸ hb)) y) (j.extBut _ _ (Q1 a0) as) (by rw[j.1,aq]) λb o ah au hb=>j.extBut b o ah (ax b o ah au hb)
 by_cases hf:(f1 != Value.bool true)=true
 ·simp only[hf,if_true];refine Ph (Rj ac (by simp) λZ av j=>?_);replace j:P4 e F Z:=j;refine Pi ?_;simp only[T4,if_false];refine Pi ⟨_,rfl,fin Z ⟨a,oa,.bool true,old,av,j.extBut a oa ak ad,ak,aw⟩ j⟩
 ·simp only[hf];refine Pi ?_;simp only[T4,if_false];exact Pi ⟨_,rfl,fin F ⟨a,oa,f1,old,ac,ad,ak,aw⟩ (P4.refl ..)⟩
def EnSt (h:Heap)(e it:Addr)(i:Nat):Prop:=(i=0/\∃old,IsEnum h e it 0 old)\/(0<i/\Nv h e it i)
theorem EnSt.obj (x:EnSt h e it i):∃vs,h.get? e=some { cls:=.type "enumerate",dict:=none,data:=.fields vs,slots:=#[] }:=by
 rcases x with⟨_,old,x⟩|⟨_,_,_,_,_,x,_⟩
 ·exact⟨_,x⟩
 ·exact⟨_,x⟩
theorem Zp3 {e it:Addr}{fp:List Addr}{n i:Nat}{P:Nat->Value->Prop}{St:Nat->Heap->Prop}{Q:Option Value->Shared->Prop}
  (D:Draws prog w A.in1 it fp n P St) (he:EnSt s.heap e it i) (hst:St i s.heap) (hlt:i<n) (hne:e≠it) (hef:e ∉ fp)
  (hQ:∀x h' tk,P i x->EnSt h' e it (i+1)->St (i+1) h' ->
   h'.get? s.heap.objs.size=some { cls:=.type "tuple",data:=.seq #[.int i tk,x] }->h'.objs.size=s.heap.objs.size+1 ->
   (∀b o,b≠e->b≠it->s.heap.get? b=some o->h'.get? b=some o)->Q (some (.ref s.heap.objs.size)) { s with heap:=h',toks:=tk+1 }) :
  wpAny (model prog w) A (pyNext (.ref e)) Q E s:=by
 obtain⟨vs,I⟩:=he.obj;have O:s.TypeIs (.ref e) "enumerate":=⟨_,I,rfl⟩;have j:e<s.heap.objs.size:=Pq I;have F:it<s.heap.objs.size:=by obtain⟨_,y⟩:=D.live _ _ hst;exact Pq y
 rcases he with⟨rfl,old,he⟩|⟨_,he⟩
 ·refine wpAny_pyNext_enum_itemD D he hst hlt hne hef λx h' tk a b c z k q=>?_;exact hQ x h' tk a (.inr ⟨Vw _,_,_,_,_,b,z,Q1 j,Q1 F⟩) c z k q
 ·unfold pyNext;exact Ph (Tb (Ri (name:=Qt "__next__") O Uo
   (Rk Uo O W1
    (Zpo D he hst hlt hne hef λx h' tk a b c z k q=>Pi (hQ x h' tk a (.inr ⟨Vw _,b⟩) c z k q)) (W0 _))))
theorem Zsa {e it:Addr}{fp:List Addr}{n:Nat}{P:Nat->Value->Prop}{St:Nat->Heap->Prop}{Q:Option Value->Shared->Prop}
  (D:Draws prog w A.in1 it fp n P St) (he:EnSt s.heap e it n) (hst:St n s.heap)
  (hQ:∀h',Ti it s.heap h'->Q none { s with heap:=h' }):wpAny (model prog w) A (pyNext (.ref e)) Q E s:=by
 obtain⟨vs,j⟩:=he.obj;have U:s.TypeIs (.ref e) "enumerate":=⟨_,j,rfl⟩;have h2:vs[2]?=some (.ref it):=by
  rcases he with⟨rfl,old,he⟩|⟨_,a,Z,f1,old,he,_⟩
  ·unfold IsEnum at he;rw[j]at he;injection he with he;injection he with _ _ he _;injection he with he;rw[he];rfl
  ·rw[j]at he;injection he with he;injection he with _ _ he _;injection he with he;rw[he];rfl
 unfold pyNext;refine Ph (Tb (Ri (name:=Qt "__next__") U Uo
  (Rk Uo U W1 ?_ (W0 _))))
 show wpAny _ _ (field (.ref e) 2 >>= _) _ _ _;refine Ph (Pz j rfl (x:=.ref it) h2 ?_);refine Ph (D.done _ _ _ hst λh' x F O=>?_);obtain⟨o,I,Y⟩:=O;refine Ph (Wl (T:="StopIteration") (b:=true) ⟨o,I,Y⟩ isSubtype_stop ?_);exact Pi (hQ _ F)
end
theorem Zem (hT:s.TypeIs (.ref it) T)(n1:typeLookup (.type T) "__len__"=pure none)(n2:typeLookup (.type T) "__length_hint__"=pure none)(h:Q true s):wpAny (model prog w) A (V1 (.ref it)) Q E s:=by
 unfold V1;refine Ph (Wu hT n1 ?_);show wpAny _ A (specialOf (Value.ref it) (Qt "__length_hint__") >>= _) _ _ _;refine Ph (Wu hT n2 ?_);exact Pi h
structure Src (X:Cx)(pins:List (Addr×Obj))(σ:St)(it:Addr)(T:String)(n:Nat)(H0:Hp)(J:Nat->List V->Hp->Heap->Prop):Prop where
 ty:∀i ys H h,J i ys H h->∃o,h.get? it=some o/\o.cls=.type T
 nl:(Value.type T == Value.type "list")=false/\(Value.type T == Value.type "tuple")=false
 hint:∃mr:Bool,∀(A:Around)(s:Shared)(Q:Bool->Shared->Prop)(E:Value->Shared->Prop),s.TypeIs (.ref it) T->Q mr s->wpAny (model X.prog X.w) A (V1 (.ref it)) Q E s
 self:∀(A:Around)(s:Shared)(ys:List V)(H:Hp)(Q:Value->Shared->Prop)(E:Value->Shared->Prop),J 0 ys H s.heap->Q (.ref it) s->wpAny (model X.prog X.w) A (pyIter (.ref it)) Q E s
 keep:∀i ys H h h' S zs zs',H0 S=none->H S=some (.lst zs)->J i ys H h->(∀b o,b≠S->h.get? b=some o->h'.get? b=some o)->(∃o,h'.get? S=some o)->J i ys (upd H S (.lst zs')) h'
 fresh:∀i ys H h,J i ys H h->H it=none
 item:∀(A:Around)(i:Nat)(s:Shared)(H:Hp)(ys:List V)(E:Value->Shared->Prop),A.handled=none->i<n->Inv X pins σ H s->J i ys H s.heap ->
  wpAny (model X.prog X.w) A (pyNext (.ref it)) (λr s'=>eX3 λu x H'=>r=some u/\RelV x u/\Inv X pins σ H' s'/\J (i+1) (ys++[x]) H' s'.heap/\∀S zs,H S=some (.lst zs)->H' S=some (.lst zs)) E s
 done:∀(A:Around)(s:Shared)(H:Hp)(ys:List V)(E:Value->Shared->Prop),A.handled=none->Inv X pins σ H s->J n ys H s.heap ->
  wpAny (model X.prog X.w) A (pyNext (.ref it)) (λr s'=>r=none/\Inv X pins σ H s') E s
section
variable {X:Cx}{pins:List (Addr×Obj)}{σ:St}{it:Addr}{T:String}{n:Nat}{H0:Hp}{J:Nat->List V->Hp->Heap->Prop}
theorem Zel (C:Src X pins σ it T n H0 J)(hn:n<=sizeLine)(hh:A.handled=none)(S:Addr)(hS0:H0 S=none)(res:Value)(fin:∀s' H' ys',Inv X pins σ H' s'->H' S=some (.lst ys')->ys'.length=n->(∃h,J n ys' H' h)->R (.ok (.ret res)) s') :
  ∀(k i:Nat)(s:Shared)(H:Hp)(ys:List V),n-i=k->i<=n->Inv X pins σ H s->J i ys H s.heap->H S=some (.lst ys)->ys.length=i ->
  codeAny (model X.prog X.w) A (.builtin "list.extend.loop" ⟨[.ref S,.ref it,res],[]⟩) R s:=by
 intro k
 induction k with
 |zero =>
  intro i s H ys hk hi I j hS hl;have aa:i=n:=by lia
  subst aa;refine Sy PySem.F.entry_extend_loop ?_;rw[Sr Tk _];show wpAny _ A.in1 (pyNext (.ref it) >>= _) _ _ s;refine Ph (Ak (C.done A.in1 s H ys _ hh I j) λr s' zq=>?_);obtain⟨hr,Z⟩:=zq;subst hr;exact Pi (fin s' H ys Z hS hl ⟨_,j⟩)
 |succ k ih =>
  intro i s H ys hk hi I j hS hl;have Y:i<n:=by lia
  refine Sy PySem.F.entry_extend_loop ?_;rw[Sr Tk _];show wpAny _ A.in1 (pyNext (.ref it) >>= _) _ _ s;refine Ph (Ak (C.item A.in1 i s H ys _ hh Y I j) λr s' zq=>?_);obtain⟨u,x,H',hr,rx,Z,j',kS⟩:=zq;subst hr;have U:=kS S ys hS;obtain⟨z,O,m,rv,ac,e⟩:=Z.lstM U;show wpAny _ A.in1 (updateSeq S (·.push u) >>= _) _ _ _;refine Ph ?_;have hu:(O.toArray.push u)=(O++[u]).toArray:=by simp
  have I2:=Z.lset (f:=(·.push u)) (its':=O++[u]) (ys:=ys++[x]) (t':=s'.toks) U e hu (rv.append (.cons rx .nil)) (by rw[Pn,Py];lia);refine Vh e rfl (Pi ⟨Sl Tk _,ih (i+1) _ _ (ys++[x]) (by lia) Y I2 ?_ Ae (by simp[hl])⟩)
   (by rw[Pl];lia) (by show(O.toArray.push u).size<=sizeLine+1;rw[Array.size_push,Pl];lia)
  exact C.keep _ _ _ _ _ S ys (ys++[x]) hS0 U j' (λb o hb eb=>(Q8 _ _ (Ps hb)).trans eb) ⟨_,R3 _ e rfl⟩
theorem Zhn (C:Src X pins σ it T n H J)(hn:n<=sizeLine)(hh:A.handled=none)(I:Inv X pins σ H s)(j:J 0 [] H s.heap)(jn:∀S,s.heap.objs.size<=S->H S=none->∀h',(∀b o,s.heap.get? b=some o->h'.get? b=some o)->J 0 [] (upd H S (.lst [])) h')(q:∀S H' ys,H S=none->H' S=some (.lst ys)->ys.length=n->(∃h,J n ys H' h)->Q (.ref S) H') :
  wpAny (model X.prog X.w) A (call (.type "list") [.ref it]) (EP X pins σ Q) E s:=by
 have hf:H s.heap.objs.size=none:=I.hok.fresh (Pj _);have an:s.heap.objs.size≠it:=by
  obtain⟨o,e,_⟩:=C.ty _ _ _ _ j;exact Q1 (Pq e)
 refine callType_codes (Q₁:=λobj ac=>obj=.ref s.heap.objs.size/\ac={ s with heap:=s.heap.push { cls:=.type "list",data:=.seq #[] } }) PySem.F.called_list (PySem.F.typeCall_list_1 _) PySem.F.entry_list_init
  (code_list_new _ ⟨rfl,rfl⟩) λobj ac ak=>?_
 obtain⟨rfl,rfl⟩:=ak;have hS:(s.heap.push { cls:=.type "list",data:=.seq #[] }).get? s.heap.objs.size=some { cls:=.type "list",data:=.seq #[] }:=P3 _ rfl;have I1:Inv X pins σ (upd H s.heap.objs.size (.lst [])) { s with heap:=s.heap.push { cls:=.type "list",data:=.seq ([]:List Value).toArray } }:=I.lnew (ys:=[]) (its:=[]) (t':=s.toks) .nil (by simp);have j1:J 0 [] (upd H s.heap.objs.size (.lst [])) (s.heap.push { cls:=.type "list",data:=.seq ([]:List Value).toArray })   := jn _ (Pj _) hf _ λb o e=>Pm _ e;refine⟨⟨_,hS,rfl⟩,PySem.F.args_list_init_2 _ _,?_⟩;generalize hs1:({ s with heap:=s.heap.push { cls:=.type "list",data:=.seq ([]:List Value).toArray } }:Shared)=U at I1;have aa:U.heap.get? s.heap.objs.size=some { cls:=.type "list",data:=.seq ([]:List Value).toArray }:=by rw[<- hs1];exact hS
 replace j1:J 0 [] (upd H s.heap.objs.size (.lst [])) U.heap:=by rw[<- hs1];exact j1
 have aj:({ s with heap:=s.heap.push { cls:=.type "list",data:=.seq #[] } }:Shared)=U:=hs1
 first|rw[aj]|skip
 show wpAny _ A.in1.in1 (do let old <- Builtin.List.listItems (.ref s.heap.objs.size);Builtin.List.listUpdate (.ref s.heap.objs.size) (λ_=>#[]);letGo old.toList.reverse;V2 (.ref s.heap.objs.size) (.ref it) .none) _ _ U;generalize s.heap.objs.size=S at *
 refine Ph ?_;unfold Builtin.List.listItems;refine Ph (Rc aa rfl (Pi ?_));show wpAny _ A.in1.in1 (updateSeq S (λ_=>#[]) >>= λ_=>letGo (#[]:Array Value).toList.reverse >>= λ_=>V2 (.ref S) (.ref it) .none) _ _ U;refine Ph (Vh aa rfl ?_);have I2:=I1.lset (f:=λ_=>#[]) (its':=[]) (ys:=[]) (t':=U.toks) Ae aa rfl .nil (by simp);have aq:=R3 (Qv (λ_=>(#[]:Array Value))) aa rfl;have j2:=C.keep _ _ _ _ (U.heap.update S (Qv λ_=>#[])) S [] [] hf Ae j1 (λb o hb eb=>(Q8 _ _ (Ps hb)).trans eb) ⟨_,aq⟩;rw[Hw]at I2 j2;generalize hs2:({ U with heap:=U.heap.update S (Qv λ_=>#[]),toks:=U.toks }:Shared)=Y at I2;replace j2:J 0 [] (upd H S (.lst [])) Y.heap:=by rw[<- hs2];exact j2
 have ah:({ U with heap:=U.heap.update S (Qv λ_=>#[]) }:Shared)=Y:=hs2
 first|rw[ah]|skip
 refine Ph (V0 ?_);obtain⟨oi,ei,ci⟩:=C.ty _ _ _ _ j2;have hT:Y.TypeIs (.ref it) T:=⟨oi,ei,ci⟩;unfold V2;refine Ph (Tg hT ?_);have h1:Builtin.List.listSameRef (.ref S) (.ref it)=false:=by simp[Builtin.List.listSameRef,an]
 have h2:=C.nl.1;have h3:=C.nl.2;simp only[h1,h2,h3,Bool.or_false,T4,if_false];refine Ph (C.self _ Y _ _ _ _ j2 ?_);refine Ph (Q5 ?_);obtain⟨mr,as⟩:=C.hint;refine as _ _ _ _ hT ?_;split
 ·show wpAny _ A.in1.in1 (rule "list.extend.makes-room" >>= λ_=>Builtin.List.listTouch (.ref S) >>= λ_ =>
   again (.builtin "list.extend.loop" ⟨[.ref S,.ref it,.none],[]⟩)) _ _ _
  refine Ph (Tj ?_);refine Ph ?_;show wpAny _ A.in1.in1 (updateSeq S (·.push .none) >>= λ_=>updateSeq S (·.pop)) _ _ _;obtain⟨_,au,m2,al,_,e2⟩:=I2.lstM Ae;cases al;refine Ph (Vh e2 rfl ?_);have I3:=I2.lset (f:=(·.push Value.none)) (its':=[.none]) (ys:=[.non]) (t':=Y.toks) Ae e2 (by simp) (.cons rfl .nil) (by show 1<=sizeLine;decide);have ap:=R3 (Qv (·.push Value.none)) e2 rfl;have j3:=C.keep _ _ _ _ (Y.heap.update S (Qv (·.push Value.none))) S [] [.non] hf Ae j2 (λb o hb eb=>(Q8 _ _ (Ps hb)).trans eb) ⟨_,ap⟩;rw[Hw]at I3 j3;generalize hs3:({ Y with heap:=Y.heap.update S (Qv (·.push Value.none)),toks:=Y.toks }:Shared)=s3 at I3;replace j3:J 0 [] (upd H S (.lst [.non])) s3.heap:=by rw[<- hs3];exact j3
  have ai:({ Y with heap:=Y.heap.update S (Qv (·.push Value.none)) }:Shared)=s3:=hs3
  first|rw[ai]|skip
  obtain⟨_,Z,m3,av,am,e3⟩:=I3.lstM Ae;have O:Z.length=1:=am.symm;refine Vh e3 rfl ?_ (by rw[Pl,O];decide) (by show Z.toArray.pop.size<=sizeLine+1;rw[Array.size_pop,Pl,O];decide);have I4:=I3.lset (f:=(·.pop)) (its':=[]) (ys:=[]) (t':=s3.toks) Ae e3 (by
   cases Z with
   |nil=>simp at O
   |cons a r=>cases r with
    |nil=>simp
    |cons b r'=>simp at O) .nil (by simp)
  have ao:=R3 (Qv (·.pop)) e3 rfl;have j4:=C.keep _ _ _ _ (s3.heap.update S (Qv (·.pop))) S [.non] [] hf Ae j3 (λb o hb eb=>(Q8 _ _ (Ps hb)).trans eb) ⟨_,ao⟩;rw[Hw]at I4 j4;refine Pi ⟨Sl Tk _,Zel C hn (A:=A.in1) hh S hf .none ?_ n 0 _ _ [] rfl (Qk _) I4 j4 Ae rfl⟩;intro s' H' ae I' ad ag af;exact⟨rfl,.ref S,H',I',rfl,q S H' ae hf ad ag af⟩
 ·refine Pi ⟨Sl Tk _,Zel C hn (A:=A.in1) hh S hf .none ?_ n 0 _ _ [] rfl (Qk _) I2 j2 Ae rfl⟩;intro s' H' ae I' ad ag af;exact⟨rfl,.ref S,H',I',rfl,q S H' ae hf ad ag af⟩
end
section
variable {X:Cx}{pins:List (Addr×Obj)}{σ:St}{H:Hp}{s:Shared}{h':Heap}
theorem Inv.turned2 (I:Inv X pins σ H s)(k:∀b o,b≠i1->b≠i2->s.heap.get? b=some o->h'.get? b=some o)(f1:FpOk X pins H i1)(f2:FpOk X pins H i2):Inv X pins σ H { s with heap:=h',toks:=t' }:=by
 obtain⟨n1,U,_,e1,c1,p1⟩:=f1;obtain⟨n2,Y,_,e2,Z,p2⟩:=f2;have F:∀b u,H b=some u->b≠i1/\b≠i2:=λb u e=>⟨(λz=>by rw[z,n1]at e;exact nomatch e),(λz=>by rw[z,n2]at e;exact nomatch e)⟩;refine I.step (g':=s.gens) (d':=s.drawn) (ch:=[i1,i2]) (λb O=>?_) (λb o _ _ j e _=>k b o (λz=>j (by simp[z])) (λz=>j (by simp[z])) e) (λb o _ _ j e _=>⟨o.slots,k b o (λz=>j (by simp[z])) (λz=>j (by simp[z])) e⟩) (λ_ _ _ _ n=>n)
  (λb o j e=>⟨o,k b o (λz=>j (by simp[z])) (λz=>j (by simp[z])) e⟩) (λ_ _ e=>e) (λ_ _ _ e=>e) (λb ps e=>⟨#[],by rw[e];simp⟩) (λm hm=>?_) (λb u e=>?_) I.bare
 ·rcases Po.mp O with rfl|O
  ·exact⟨e1,U,c1,p1⟩
  ·rw[Qw.mp O];exact⟨e2,Y,Z,p2⟩
 ·obtain⟨o,es,ep,ho,r⟩:=hm;exact⟨o,es,ep,k _ o (Ps U) (Ps Y) ho,r⟩
 ·refine(I.hok b u e).stay (λc v j q=>k c v ?_ ?_ q) (λ_ q=>q) λ_ _ q=>q
  ·rcases j with z|z
   ·rw[z];exact(F b u e).1
   ·exact(F c _ z).1
  ·rcases j with z|z
   ·rw[z];exact(F b u e).2
   ·exact(F c _ z).2
end
theorem FpOk.of (f:FpOk X pins H b)(h:H' b=none):FpOk X pins H' b:=⟨h,f.2⟩
theorem SqT.kept {K:Pg}{H:Hp}{S a:Addr}{zs zs' xs:List V}(hS:H S=some (.lst zs))(h:SqT K H a xs):SqT K (upd H S (.lst zs')) a xs:=by
 rcases h with(h|⟨o,h⟩)|h
 ·exact .inl (.inl (by rw[Ag (Dw h hS (by intro z;cases z))];exact h))
 ·exact .inl (.inr ⟨o,by rw[Ag (Dw h hS (by intro z;cases z))];exact h⟩)
 ·exact .inr h
theorem SqT.same {K:Pg}{H H':Hp}{a:Addr}{xs:List V}(h:SqT K H a xs)(e:Same H H'):SqT K H' a xs:=e.tup h
def Pairs (H:Hp)(xs:List V)(ys:List V):Prop:=∀(j:Nat)(y:V),ys[j]?=some y->∃(t:Addr)(x:V),y=V.ref t/\xs[j]?=some x/\H t=some (.tup [.int j,x])
def JEn (K:Pg)(H0:Hp)(en it a:Addr)(xs:List V):Nat->List V->Hp->Heap->Prop:=λi ys H h =>
 EnSt h en it i/\h.IsTupleIter it a i/\(H en=none/\H it=none)/\SqT K H a xs/\ys.length=i/\Pairs H xs ys/\Same H0 H
theorem Zmy:typeLookup (.type "enumerate") "__len__"=pure none:=by rw[Ub,Tp];kernel_rfl
theorem Zj6:typeLookup (.type "enumerate") "__length_hint__"=pure none:=by rw[Ub,Tp];kernel_rfl
theorem Zu9 (fe:FpOk X pins H0 en)(fi:FpOk X pins H0 it)(hne:en≠it)(hae:a≠en)(hai:a≠it):Src X pins σ en "enumerate" xs.length H0 (JEn X.K H0 en it a xs) where
 ty:=λi ys H h j=>by
  obtain⟨vs,e⟩:=j.1.obj;exact⟨_,e,rfl⟩
 nl:=by decide
 hint:=⟨_,λA s Q E hT h=>Zem hT Zmy Zj6 h⟩
 self:=λA s ys H Q E j q=>by
  rcases j.1 with⟨_,old,e⟩|⟨z,_⟩
  ·exact wpAny_pyIter_enum e q
  ·exact absurd z (Q4 _)
 keep:=λi ys H h h' S zs ah h0 hS j k al=>by
  obtain⟨j1,j2,⟨j3,j4⟩,j5,j6,j7,j8⟩:=j;have F:en≠S:=λz=>by rw[z,hS]at j3;cases j3
  have Y:it≠S:=λz=>by rw[z,hS]at j4;cases j4
  refine⟨?_,?_,⟨by rw[Ag F];exact j3,by rw[Ag Y];exact j4⟩,j5.kept hS,j6,λm y Z=>?_,λb o e=>?_⟩
  ·rcases j1 with⟨z,old,e⟩|⟨z,a0,oa,f1,old,e,ea,x1,x2⟩
   ·exact .inl ⟨z,old,k _ _ F e⟩
   ·by_cases hs:a0=S
    ·subst hs;obtain⟨o,eo⟩:=al;exact .inr ⟨z,a0,o,f1,old,k _ _ F e,eo,x1,x2⟩
    ·exact .inr ⟨z,a0,oa,f1,old,k _ _ F e,k _ _ hs ea,x1,x2⟩
  ·exact j2.at λo e=>k _ _ Y e
  ·obtain⟨t,x,e1,e2,e3⟩:=j7 m y Z;exact⟨t,x,e1,e2,by rw[Ag (Dw e3 hS (by intro z;cases z))];exact e3⟩
  ·have:b≠S:=λz=>by rw[z,h0]at e;cases e
   rw[Ag this];exact j8 b o e
 fresh:=λi ys H h j=>j.2.2.1.1
 item:=λA i s H ys E hh hi I j=>by
  obtain⟨j1,j2,⟨j3,j4⟩,j5,j6,j7,j8⟩:=j;obtain⟨O,rv,p,hz⟩:=I.tuple j5;have hl:=rv.length;have D:=Zcu (prog:=X.prog) (w:=X.w) (A:=A.in1) hh it a hai O.toArray;refine Zp3 D j1 ⟨j2,p⟩ (by rw[Pl];lia) hne (by simp[hne,Ps hae]) λx h' tk U ae ag ht ai kk=>?_;have I1:Inv X pins σ H { s with heap:=h',toks:=tk+1 }:=I.turned2 (λb o h1 h2 e=>kk b o h1 h2 e) (fe.of j3) (fi.of j4);have af:O[i]?=some x:=by simpa using U
  have aa:i<xs.length:=hi;obtain⟨u,hu,ru⟩:=rv.get (Pk aa);rw[af]at hu;cases hu;have hf:H s.heap.objs.size=none:=I.hok.fresh (Pj _);have I2:Inv X pins σ (upd H s.heap.objs.size (.tup [.int i,xs[i]])) { s with heap:=h',toks:=tk+1 }:=by
   have ac:HOk X.prog X.w (upd H s.heap.objs.size (.tup [.int i,xs[i]])) h':=λb o e=>by
    by_cases hb:b=s.heap.objs.size
    ·subst hb;rw[Ae]at e;cases e;exact⟨by show 2<=sizeLine;decide,[.int i tk,x],.cons ⟨tk,rfl⟩ (.cons ru .nil),⟨_,ht,rfl,_,rfl⟩⟩
    ·rw[Ag hb]at e;refine(I1.hok b o e).stay (λc v _ q=>q) (λc q=>?_) λc zs q=>?_
     ·rw[Ag (Cy q hf)];exact q
     ·rw[Ag (Cy q hf)];exact q
   have u:Un (Bz X.stack) [en,it] H (upd H s.heap.objs.size (.tup [.int i,xs[i]])) s.heap h':={
    keep:=λb o e n _ U=>kk b o (λz=>U (by simp[z])) (λz=>U (by simp[z])) e
    slot:=λb o e n _ U=>⟨o.slots,kk b o (λz=>U (by simp[z])) (λz=>U (by simp[z])) e⟩
    free:=λb o e n _=>by rw[Ag (P0 (Pq e))];exact n
    there:=λb o e U=>⟨o,kk b o (λz=>U (by simp[z])) (λz=>U (by simp[z])) e⟩
    tups:=λb zs e=>by rw[Ag (Cy e hf)];exact e
    frzs:=λb o u e=>by rw[Ag (Cy e hf)];exact e
    tbls:=λb ps e=>⟨#[],by rw[Ag (Cy e hf),e];simp⟩ }
   refine I.call (g':=s.gens) (d':=s.drawn) (t':=tk+1) u ac I.bare λb hb=>?_;rcases Po.mp hb with rfl|hb
   ·exact⟨fe.2.2.2.1,fe.2.1,fe.2.2.2.2.1,fe.2.2.2.2.2⟩
   ·rw[Qw.mp hb];exact⟨fi.2.2.2.1,fi.2.1,fi.2.2.2.2.1,fi.2.2.2.2.2⟩
  have sm:Same H (upd H s.heap.objs.size (.tup [.int i,xs[i]])):=Same.upd hf;have F:en≠s.heap.objs.size:=by obtain⟨_,e⟩:=j1.obj;exact P0 (Pq e)
  have Y:it≠s.heap.objs.size:=by obtain⟨_,e,_⟩:=j2;exact P0 (Pq e)
  refine⟨_,.ref s.heap.objs.size,_,rfl,rfl,I2,⟨ae,ag.1,⟨by rw[Ag F];exact j3,by rw[Ag Y];exact j4⟩,j5.same sm,by simp[j6],λm y Z=>?_,j8.trans sm⟩,λS zs e=>sm S _ e⟩;by_cases hm:m<i
  ·rw[Qd (by lia)]at Z;obtain⟨t,z,e1,e2,e3⟩:=j7 m y Z;exact⟨t,z,e1,e2,sm _ _ e3⟩
  ·have ad:=(Pt.mp Z).1;rw[Pn,Py]at ad;have:m=i:=by lia
   subst this;rw[Qn (by lia),j6,Re]at Z;have Z:V.ref s.heap.objs.size=y:=by simpa using Z
   exact⟨_,xs[m],Z.symm,Pk aa,Ae⟩
 done:=λA s H ys E hh I j=>by
  obtain⟨j1,j2,⟨j3,j4⟩,j5,j6,j7,j8⟩:=j;obtain⟨O,rv,p,hz⟩:=I.tuple j5;have hl:=rv.length;have D:=Zcu (prog:=X.prog) (w:=X.w) (A:=A.in1) hh it a hai O.toArray;have e:xs.length=O.toArray.size:=by rw[Pl];lia
  rw[e]at j1 j2;refine Zsa D j1 ⟨j2,p⟩ λh' eb=>⟨rfl,?_⟩;obtain⟨g0,g1,g2,g3,g4,g5⟩:=fi.of j4;exact I.turned (t':=s.toks) (λb o hb e=>eb b o hb e) g0 g1 g3 g4 g5
section
variable {X:Cx}
theorem Ze8:bootBuiltins "list"=some (.type "list"):=by right
def Ox (K:Pg)(ta:TA):TE:=λσ H Q=>ta σ H λvs H1=>∃a xs,vs=[.ref a]/\SqT K H1 a xs /\
 ∀(S:Addr)(ys:List V)(H2:Hp),H1 S=none->Same H1 H2->ys.length=xs.length->Pairs H2 xs ys->H2 S=some (.lst ys)->Q (.ref S) H2
theorem Zjx (hg:Gl X "list")(hm:X.mg "list"=none)(hg2:Gl X "enumerate")(hm2:X.mg "enumerate"=none)(ha:QA X [e] ta)(hc:autoParam (X.calm=true) zX)(hs:autoParam (starEach [.Call (.Name "enumerate" p2) [e] [] pos2] X.env=[(false,eval (.Call (.Name "enumerate" p2) [e] [] pos2) X.env)]) zX)(hs2:autoParam (starEach [e] X.env=[(false,eval e X.env)]) zX) :
  QE X (.Call (.Name "list" p) [.Call (.Name "enumerate" p2) [e] [] pos2] [] pos) (Ox X.K ta):=by
 refine⟨λpins s σ H Q I h=>?_⟩;refine Call_ (Ga I hg hm Ze8 (Sd ?_ hs rfl));rw[hs];show wpAny _ _ (spliced ((false,eval (.Call (.Name "enumerate" p2) [e] [] pos2) X.env)::[])) _ _ s;refine Wd ?_;refine Call_ (Ga I hg2 hm2 PyProof.Rows.boot_enumerate (Sd (Ak (ha.run pos2 pins s σ H _ I h) λus F zq=>?_) hs2 rfl));obtain⟨vs,H1,U,r1,q1⟩:=zq;obtain⟨a,xs,e1,hq,q⟩:=q1;subst e1;cases r1 with
 |cons r rr =>
  cases rr;cases r;obtain⟨ad,rv,pt,hz⟩:=U.tuple hq;have Z:a<F.heap.objs.size:=by obtain⟨o,e,_⟩:=id pt;exact Pq e
  refine Zte (show F.heap.IsTuple a ad.toArray from pt) λh' aa Y af hk=>?_;refine Wi ?_;have I2:Inv X pins σ H1 { F with heap:=h' }:=U.kept (t':=F.toks) hk;have fe:=U.fpOk (b:=F.heap.objs.size+1) (Vz _) (U.hok.fresh (Vz _));have fi:=U.fpOk (b:=F.heap.objs.size) (Pj _) (U.hok.fresh (Pj _));have C:=Zu9 (X:=X) (pins:=pins) (σ:=σ) (H0:=H1) (en:=F.heap.objs.size+1) (it:=F.heap.objs.size) (a:=a) (xs:=xs) fe fi (Nat.succ_ne_self _) (P0 (Nat.lt_succ_of_lt Z)) (P0 Z);refine Zhn C (by lia) (U.ok.hd hc) I2 ⟨.inl ⟨rfl,_,aa⟩,Y,⟨fe.1,fi.1⟩,hq,rfl,λj y hy=>by simp at hy,Same.refl _⟩ (λS O hS h2 k2=>?_) λS H' ys hS ac ae hj=>?_
  ·have sm:Same H1 (upd H1 S (.lst [])):=Same.upd hS;refine⟨.inl ⟨rfl,_,k2 _ _ aa⟩,Y.at λo e=>k2 _ _ e,⟨?_,?_⟩,hq.same sm,rfl,λj y hy=>by simp at hy,sm⟩
   ·rw[Ag (show F.heap.objs.size+1≠S from λz=>?_)]
    ·exact fe.1
    ·have O:h'.objs.size<=S:=O;lia
   ·rw[Ag (show F.heap.objs.size≠S from λz=>?_)]
    ·exact fi.1
    ·have O:h'.objs.size<=S:=O;lia
  ·obtain⟨h,j⟩:=hj;exact q S ys H' hS j.2.2.2.2.2.2 ae j.2.2.2.2.2.1 ac
end
end L2
namespace L2
open PySem PySem.SeqAt
open PySem.AutoSeq1 (wpAny_loadPart')
open PySem.MeetsSeq PySem.MeetsSeq2 PySem.MeetsSeq3 PySem.SeqRoads2
theorem Zta (l b:Addr)(items items2:Array Value)(n n2:Nat)(dd dd2:Option Addr)(sl sl2:Array (Option Value))(hsz:items.size=items2.size)(e:Nat->Bool)(k:Nat) :
  ∀i:Nat,items.size-i=k->Meets (Builtin.«list.__eq__.loop» ⟨[.ref l,.ref b,rawInt i,rawInt 3],[]⟩)
   (λA R s=>s.heap.get? l=some { cls:=.type "list",dict:=dd,data:=.seq items n,slots:=sl }/\s.heap.get? b=some { cls:=.type "list",dict:=dd2,data:=.seq items2 n2,slots:=sl2 } /\
    (∀j (h1:j<items.size) (h2:j<items2.size),EqAt A.in1 s items[j] items2[j] (e j)) /\
    R (.ok (.ret (.bool (!((P7 items.size).drop i).all e)))) s):=by
 induction k with
 |zero =>
  intro i hk prog w A R s h;obtain⟨hp,g,d,tk,os⟩:=s;obtain⟨Z,Y,he,h⟩:=h
  wp_walk using wpAny_loadPart' Z,wpAny_loadPart' Y
  have F:items[((i:Nat):Int).toNat]?=none:=by simp;lia
  have I:items2[((i:Nat):Int).toNat]?=none:=by simp;lia
  have hd:(P7 items.size).drop i=[]:=by simp;lia
  rw[hd]at h;rw[F,I]
  wp_walk using wpAny_loadPart' Z,wpAny_loadPart' Y
  show R (.ok (.ret (.bool (items.size != items2.size)))) _;rw[hsz];simpa using h
 |succ k ih =>
  intro i hk prog w A R s h;obtain⟨hp,g,d,tk,os⟩:=s;obtain⟨Z,Y,he,h⟩:=h
  wp_walk using wpAny_loadPart' Z,wpAny_loadPart' Y
  have U:i<items.size:=by lia
  have O:i<items2.size:=by lia
  have F:items[((i:Nat):Int).toNat]?=some items[i]:=by simp[U]
  have I:items2[((i:Nat):Int).toNat]?=some items2[i]:=by simp[O]
  have hd:(P7 items.size).drop i=i::(P7 items.size).drop (i+1):=by simp[Se,U]
  have hc:((i:Int)+1)=((i+1:Nat):Int):=by push_cast;rfl
  rw[hd,Ro]at h;rw[F,I];refine Ph (he i U O prog w _ _ ?_);cases aa:e i with
  |true =>
   rw[aa]at h
   wp_walk
   rw[hc];exact⟨Sl plain_eq_loop _,Sy entry_eq_loop (by
    rw[Sr plain_eq_loop _];exact ih (i+1) (by lia) prog w A R _ ⟨Z,Y,he,by simpa using h⟩)⟩
  |false =>
   rw[aa]at h
   wp_walk using wpAny_loadPart' Z,wpAny_loadPart' Y
   rw[F,I]
   wp_walk
   simpa using h
theorem Zrx (l b:Addr)(items items2:Array Value)(n n2:Nat)(dd dd2:Option Addr)(sl sl2:Array (Option Value))(hsz:items.size=items2.size)(e:Nat->Bool) :
  Meets (Builtin.«list.__ne__» ⟨[.ref l,.ref b],[]⟩)
   (λA R s=>s.heap.get? l=some { cls:=.type "list",dict:=dd,data:=.seq items n,slots:=sl }/\s.heap.get? b=some { cls:=.type "list",dict:=dd2,data:=.seq items2 n2,slots:=sl2 } /\
    (∀j (h1:j<items.size) (h2:j<items2.size),EqAt A.in1 s items[j] items2[j] (e j)) /\
    R (.ok (.ret (.bool (!(P7 items.size).all e)))) s):=by
 intro prog w A R s h;obtain⟨hp,g,d,tk,os⟩:=s;obtain⟨I,F,U,h⟩:=h;have Y:=PySem.AutoSeq1.sub_list_list;have O:¬(items.size != items2.size)=true:=by simp[hsz]
 wp_walk using wpAny_loadPart' I,wpAny_loadPart' F
 exact⟨Sl plain_eq_loop _,Sy entry_eq_loop (by
  rw[Sr plain_eq_loop _];exact Zta l b items items2 n n2 dd dd2 sl sl2 hsz e _ 0 rfl prog w A R _ ⟨I,F,U,by simpa using h⟩)⟩
theorem Zja (l b:Addr)(items items2:Array Value)(n n2:Nat)(dd dd2:Option Addr)(sl sl2:Array (Option Value))(e:Nat->Bool) :
  Meets (Builtin.«tuple.__ne__» ⟨[.ref l,.ref b],[]⟩)
   (λA R s=>s.heap.get? l=some { cls:=.type "tuple",dict:=dd,data:=.seq items n,slots:=sl }/\s.heap.get? b=some { cls:=.type "tuple",dict:=dd2,data:=.seq items2 n2,slots:=sl2 } /\
    (∀j (h1:j<items.size) (h2:j<items2.size),EqAt A.in1 s items[j] items2[j] (e j)) /\
    R (.ok (.ret (.bool (!((P7 (min items.size items2.size)).all e && items.size == items2.size))))) s) :=
 .of_wp λprog w A R s h=>by
  obtain⟨hp,g,d,tk,os⟩:=s;obtain⟨hl,hb,he,h⟩:=h;have f2:=PySem.AutoSeq1.sub_tuple_tuple;have hZ:(items.toList.zip items2.toList).length=min items.size items2.size:=by simp
  wp_walk using wpAny_loadPart' hl,wpAny_loadPart' hb,wpAny_forIn_list _ (λrest b s'=>b.1=none/\s'=⟨hp,g,d,tk,os⟩/\∃i,rest=(items.toList.zip items2.toList).drop i /\
   R (.ok (.ret (.bool (!(((P7 (min items.size items2.size)).drop i).all e && items.size == items2.size))))) ⟨hp,g,d,tk,os⟩) _
  case turn =>
   rintro⟨y,x⟩ rest b s' ⟨O,rfl,i,I,F⟩;have U:i<(items.toList.zip items2.toList).length:=by
    rcases Nat.lt_or_ge i (items.toList.zip items2.toList).length with h'|h'
    ·exact h'
    ·rw[Rr h']at I;cases I
   have Z:i<min items.size items2.size:=hZ ▸ U;have h1:i<items.size:=P9 Z (Nat.min_le_left _ _);have h2:i<items2.size:=P9 Z (Nat.min_le_right _ _);rw[Se U]at I;injection I with hyx hrest;have Y:y=items[i]:=by have:=congrArg Prod.fst hyx;simpa using this
   have hx:x=items2[i]:=by have:=congrArg Prod.snd hyx;simpa using this
   subst Y hx;have hd:(P7 (min items.size items2.size)).drop i=i::(P7 (min items.size items2.size)).drop (i+1):=by simp[Se,Z]
   rw[hd,Ro]at F;refine Ph (he i h1 h2 prog w _ _ ?_);cases Y:e i with
   |true =>
    rw[Y]at F
    wp_walk
    exact⟨rfl,rfl,i+1,hrest,by simpa using F⟩
   |false =>
    rw[Y]at F
    wp_walk
    exact⟨_,rfl,by simpa using F⟩
  case fin =>
   rintro⟨b1,b2⟩ s' ⟨O,rfl,i,I,F⟩;simp only at O;subst O;have aa:min items.size items2.size<=i:=by
    rcases Nat.lt_or_ge i (items.toList.zip items2.toList).length with h'|h'
    ·rw[Se h']at I;cases I
    ·exact hZ ▸ h'
   rw[Rr (by simpa using aa)]at F
   wp_walk
   exact⟨_,rfl,by simpa [Builtin.Tuple.tupleCompareSizes,bne] using F⟩
  case h =>
   exact⟨rfl,rfl,0,rfl,by simpa using h⟩
section
variable {prog:Program}{w:World}{A:Around}{E:Value->Shared->Prop}{s:Shared}
theorem Zly (hl:s.heap.IsList l items)(hb:s.heap.IsList b items2)(hsz:items.size=items2.size)(hu:A.units<cLine)(he:∀j (h1:j<items.size) (h2:j<items2.size),EqAt A.in1 s items[j] items2[j] (e j))(h:Q (.bool (!(P7 items.size).all e)) s):wpAny (model prog w) A (compareOp .NotEq (.ref l) (.ref b)) Q E s:=by
 obtain⟨⟨ae,dd,ad,sl⟩,ho,hc,n,hd⟩:=id hl;obtain⟨⟨ac,Z,aa,Y⟩,U,I,n2,O⟩:=id hb;simp only at hc hd I O;subst hc hd I O;exact richCompare_meets_room (op:=.NotEq) ⟨_,ho,rfl⟩ ⟨_,U,rfl⟩ F.slot_list_ne F.entry_list_ne (F.args_list_ne_2 _ _) (Zrx l b items items2 n n2 dd Z sl Y hsz e)
  ⟨ho,U,he,show Value.bool (!(P7 items.size).all e)≠Value.notImplemented/\Q (.bool (!(P7 items.size).all e)) s from⟨(λx=>nomatch x),h⟩⟩ hu
theorem Zs7 (hl:s.heap.IsTuple l items)(hb:s.heap.IsTuple b items2)(hu:A.units<cLine)(he:∀j (h1:j<items.size) (h2:j<items2.size),EqAt A.in1 s items[j] items2[j] (e j))(h:Q (.bool (!((P7 (min items.size items2.size)).all e && items.size == items2.size))) s):wpAny (model prog w) A (compareOp .NotEq (.ref l) (.ref b)) Q E s:=by
 obtain⟨⟨ae,dd,ad,sl⟩,ho,hc,n,hd⟩:=id hl;obtain⟨⟨ac,Z,aa,Y⟩,U,I,n2,O⟩:=id hb;simp only at hc hd I O;subst hc hd I O;exact richCompare_meets_room (op:=.NotEq) ⟨_,ho,rfl⟩ ⟨_,U,rfl⟩ F.slot_tuple_ne F.entry_tuple_ne (F.args_tuple_ne_2 _ _) (Zja l b items items2 n n2 dd Z sl Y e)
  ⟨ho,U,he,show Value.bool (!((P7 (min items.size items2.size)).all e && items.size == items2.size))≠Value.notImplemented/\Q (.bool (!((P7 (min items.size items2.size)).all e && items.size == items2.size))) s from⟨(λx=>nomatch x),h⟩⟩ hu
end
end L2
namespace L2
open PySem PySem.Spec PyProof.Rows
inductive Dt where
 |flat (v:V)
 |tup (ds:List Dt)
 |lst (ds:List Dt)
inductive IsD (K:Pg)(H:Hp):Nat->V->Dt->Prop where
 |flat {n:Nat} {v:V} (h:C2 v=true):IsD K H n v (.flat v)
 |tup {n:Nat} {a:Addr} {vs:List V} {ds:List Dt} (q:SqT K H a vs) (l:vs.length=ds.length) (h:∀(j:Nat)(v:V)(d:Dt),vs[j]?=some v->ds[j]?=some d->IsD K H n v d):IsD K H (n+1) (.ref a) (.tup ds)
 |lst {n:Nat} {a:Addr} {vs:List V} {ds:List Dt} (q:SqL K H a vs) (l:vs.length=ds.length) (h:∀(j:Nat)(v:V)(d:Dt),vs[j]?=some v->ds[j]?=some d->IsD K H n v d):IsD K H (n+1) (.ref a) (.lst ds)
theorem IsD.same {K:Pg}{H H':Hp}{n:Nat}{v:V}{d:Dt}(h:IsD K H n v d)(e:Same H H'):IsD K H' n v d:=by
 induction h with
 |flat h=>exact .flat h
 |tup q l _ j=>exact .tup (e.tup q) l j
 |lst q l _ j=>exact .lst (e.seq q) l j
theorem IsD.up {K:Pg}{H:Hp}{n m:Nat}{v:V}{d:Dt}(h:IsD K H n v d)(hm:n<=m):IsD K H m v d:=by
 induction h generalizing m with
 |flat h=>exact .flat h
 |tup q l _ I =>
  obtain⟨k,rfl⟩:∃k,m=k+1:=⟨m-1,by lia⟩;exact .tup q l λj v d F O=>I j v d F O (by lia)
 |lst q l _ I =>
  obtain⟨k,rfl⟩:∃k,m=k+1:=⟨m-1,by lia⟩;exact .lst q l λj v d F O=>I j v d F O (by lia)
theorem Zd7 (h:C2 v=true):Em v v=true:=by
 cases v with
 |non=>rfl
 |bl b=>simp[Em]
 |int i=>simp[Em]
 |str x=>simp[Em]
 |byt _=>cases h
 |flt _=>cases h
 |ref _=>cases h
 |ty _=>cases h
section
variable {X:Cx}{pins:List (Addr×Obj)}{σ:St}{H:Hp}{s:Shared}
theorem Zmf (I:Inv X pins σ H s):∀{n:Nat}{x y:V}{d:Dt},IsD X.K H n x d->IsD X.K H n y d->∀{A:Around}{u v:Value},RelV x u->RelV y v->A.units+n<cLine->P6 A s u v true:=by
 intro n
 induction n with
 |zero =>
  intro x y d hx hy A u v rx ry hu;cases hx with
  |flat fx =>
   cases hy with
   |flat fy =>
    have:=Zbb (A:=A) (s:=s) rx ry fx fy;rw[Zd7 fx]at this;exact this
 |succ n ih =>
  intro x y d hx hy A u v rx ry hu;cases hx with
  |flat fx =>
   cases hy with
   |flat fy =>
    have:=Zbb (A:=A) (s:=s) rx ry fx fy;rw[Zd7 fx]at this;exact this
  | @tup _ a vs ds q l h =>
   cases hy with
   | @tup _ b ws _ q' l' h' =>
    cases rx;cases ry;by_cases Y:a=b
    ·subst Y;exact Wr _
    obtain⟨O,r1,p1,_⟩:=I.tuple q;obtain⟨F,r2,p2,_⟩:=I.tuple q';have l1:=r1.length;have l2:=r2.length;have:=SeqAt.RcAt.tuples (A:=A) (e:=λ_=>true) (show s.heap.IsTuple a O.toArray from p1) (show s.heap.IsTuple b F.toArray from p2) (by lia) λj h1 h2=>by
     have Z:j<vs.length:=by simp only[Pl]at h1;lia
     have U:j<ws.length:=by simp only[Pl]at h2;lia
     obtain⟨u1,g1,k1⟩:=r1.get (Pk Z);obtain⟨u2,g2,k2⟩:=r2.get (Pk U);have e1:O.toArray[j]=u1:=by
      have:O[j]?=some O[j]:=by simp
      rw[this]at g1;simpa using g1
     have e2:F.toArray[j]=u2:=by
      have:F[j]?=some F[j]:=by simp
      rw[this]at g2;simpa using g2
     rw[e1,e2];have hd:j<ds.length:=by lia
     exact ih (h j _ _ (Pk Z) (Pk hd)) (h' j _ _ (Pk U) (Pk hd)) k1 k2 (by show A.units+1+n<cLine;lia)
    have e:((P7 (min O.toArray.size F.toArray.size)).all (λ_=>true) && O.toArray.size == F.toArray.size)=true:=by
     have:O.toArray.size=F.toArray.size:=by simp only[Pl];lia
     rw[this];simp
    rw[e]at this;exact P6.of_refs Y this
  | @lst _ a vs ds q l h =>
   cases hy with
   | @lst _ b ws _ q' l' h' =>
    cases rx;cases ry;by_cases Y:a=b
    ·subst Y;exact Wr _
    obtain⟨O,r1,p1,_⟩:=I.list q;obtain⟨F,r2,p2,_⟩:=I.list q';have l1:=r1.length;have l2:=r2.length;have:=SeqAt.RcAt.lists (A:=A) (e:=λ_=>true) p1.isList p2.isList (by simp only[Pl];lia) (by lia) λj h1 h2=>by
     have Z:j<vs.length:=by simp only[Pl]at h1;lia
     have U:j<ws.length:=by simp only[Pl]at h2;lia
     obtain⟨u1,g1,k1⟩:=r1.get (Pk Z);obtain⟨u2,g2,k2⟩:=r2.get (Pk U);have e1:O.toArray[j]=u1:=by
      have:O[j]?=some O[j]:=by simp
      rw[this]at g1;simpa using g1
     have e2:F.toArray[j]=u2:=by
      have:F[j]?=some F[j]:=by simp
      rw[this]at g2;simpa using g2
     rw[e1,e2];have hd:j<ds.length:=by lia
     exact ih (h j _ _ (Pk Z) (Pk hd)) (h' j _ _ (Pk U) (Pk hd)) k1 k2 (by show A.units+1+n<cLine;lia)
    have e:(P7 O.toArray.size).all (λ_=>true)=true:=by simp
    rw[e]at this;exact P6.of_refs Y this
theorem Na (I:Inv X pins σ H s){n:Nat}{A:Around}{vs ws:List V}{its its2:List Value}{ds:List Dt}(r1:Vals vs its)(r2:Vals ws its2)(l:vs.length=ds.length)(l':ws.length=ds.length)
  (h:∀(j:Nat)(v:V)(d:Dt),vs[j]?=some v->ds[j]?=some d->IsD X.K H n v d) (h':∀(j:Nat)(v:V)(d:Dt),ws[j]?=some v->ds[j]?=some d->IsD X.K H n v d) (hu:A.units+n<cLine) :
  ∀j (h1:j<its.toArray.size) (h2:j<its2.toArray.size),P6 A s its.toArray[j] its2.toArray[j] ((λ_=>true) j):=λj h1 h2=>by
 have l1:=r1.length;have l2:=r2.length;have F:j<vs.length:=by simp only[Pl]at h1;lia
 have O:j<ws.length:=by simp only[Pl]at h2;lia
 obtain⟨u1,Y,k1⟩:=r1.get (Pk F);obtain⟨u2,U,k2⟩:=r2.get (Pk O);have e1:its.toArray[j]=u1:=by
  have:its[j]?=some its[j]:=by simp
  rw[this]at Y;simpa using Y
 have Z:its2.toArray[j]=u2:=by
  have:its2[j]?=some its2[j]:=by simp
  rw[this]at U;simpa using U
 rw[e1,Z];have hd:j<ds.length:=by lia
 exact Zmf I (h j _ _ (Pk F) (Pk hd)) (h' j _ _ (Pk O) (Pk hd)) k1 k2 hu
end
section
variable {X:Cx}
def N0 (K:Pg)(b:Bool):R2:=λx y H Q=>eX4 λ(a c:Addr)(n:Nat)(d:Dt)=>x=.ref a/\y=.ref c/\n<=190/\IsD K H n x d/\IsD K H n y d/\Q (.bl b) H
theorem Zji (hu:X.A.units+200<cLine):OpR X (compareOp .Eq) (N0 X.K true):=by
 intro pins s σ H x y v u Q I rx ry h;obtain⟨a,c,n,d,rfl,rfl,hn,hx,hy,q⟩:=h;cases rx;cases ry;cases hx with
 |flat fx=>cases fx
 | @tup n _ vs ds qx l hd =>
  cases hy with
  | @tup _ _ ws _ Z l' O =>
   obtain⟨F,U,p1,_⟩:=I.tuple qx;obtain⟨j,Y,p2,_⟩:=I.tuple Z;have l1:=U.length;have l2:=Y.length;refine SeqAt.eq_tupleAt (e:=λ_=>true) (show s.heap.IsTuple a F.toArray from p1) (show s.heap.IsTuple c j.toArray from p2) (by lia) (Na I U Y l l' hd O (by show X.A.units+1+n<cLine;lia)) ?_;have e:((P7 (min F.toArray.size j.toArray.size)).all (λ_=>true) && F.toArray.size == j.toArray.size)=true:=by
    have:F.toArray.size=j.toArray.size:=by simp only[Pl];lia
    rw[this];simp
   rw[e];exact⟨.bl true,H,I,rfl,q⟩
 | @lst n _ vs ds qx l hd =>
  cases hy with
  | @lst _ _ ws _ Z l' O =>
   obtain⟨F,U,p1,_⟩:=I.list qx;obtain⟨j,Y,p2,_⟩:=I.list Z;have l1:=U.length;have l2:=Y.length;refine SeqAt.eq_listAt (e:=λ_=>true) p1.isList p2.isList (by simp only[Pl];lia) (by lia) (Na I U Y l l' hd O (by show X.A.units+1+n<cLine;lia)) ?_;have e:(P7 F.toArray.size).all (λ_=>true)=true:=by simp
   rw[e];exact⟨.bl true,H,I,rfl,q⟩
theorem Zkn (hu:X.A.units+200<cLine):OpR X (compareOp .NotEq) (N0 X.K false):=by
 intro pins s σ H x y v u Q I rx ry h;obtain⟨a,c,n,d,rfl,rfl,hn,hx,hy,q⟩:=h;cases rx;cases ry;cases hx with
 |flat fx=>cases fx
 | @tup n _ vs ds qx l hd =>
  cases hy with
  | @tup _ _ ws _ Z l' O =>
   obtain⟨F,U,p1,_⟩:=I.tuple qx;obtain⟨j,Y,p2,_⟩:=I.tuple Z;have l1:=U.length;have l2:=Y.length;refine Zs7 (e:=λ_=>true) (show s.heap.IsTuple a F.toArray from p1) (show s.heap.IsTuple c j.toArray from p2) (by lia) (Na I U Y l l' hd O (by show X.A.units+1+n<cLine;lia)) ?_;have e:(!((P7 (min F.toArray.size j.toArray.size)).all (λ_=>true) && F.toArray.size == j.toArray.size))=false:=by
    have:F.toArray.size=j.toArray.size:=by simp only[Pl];lia
    rw[this];simp
   rw[e];exact⟨.bl false,H,I,rfl,q⟩
 | @lst n _ vs ds qx l hd =>
  cases hy with
  | @lst _ _ ws _ Z l' O =>
   obtain⟨F,U,p1,_⟩:=I.list qx;obtain⟨j,Y,p2,_⟩:=I.list Z;have l1:=U.length;have l2:=Y.length;refine Zly (e:=λ_=>true) p1.isList p2.isList (by simp only[Pl];lia) (by lia) (Na I U Y l l' hd O (by show X.A.units+1+n<cLine;lia)) ?_;have e:(!(P7 F.toArray.size).all (λ_=>true))=false:=by simp
   rw[e];exact⟨.bl false,H,I,rfl,q⟩
def N4 (K:Pg):R2:=λx y H Q=>rEq x y H Q\/N0 K true x y H Q
def On (K:Pg):R2:=λx y H Q=>rNe x y H Q\/N0 K false x y H Q
theorem Zdk (hu:X.A.units+200<cLine):OpR X (compareOp .Eq) (N4 X.K):=op_eq.or (Zji hu)
theorem Zsq (hu:X.A.units+200<cLine):OpR X (compareOp .NotEq) (On X.K):=op_ne.or (Zkn hu)
theorem s_eq {K:Pg}{x y:V}{H:Hp}{Q:VK}(hs:Nc x y=true)(h:Q (.bl (decide (x=y))) H):N4 K x y H Q:=.inl ⟨hs,h⟩
theorem s_ne {K:Pg}{x y:V}{H:Hp}{Q:VK}(hs:Nc x y=true)(h:Q (.bl (!decide (x=y))) H):On K x y H Q:=.inl ⟨hs,h⟩
theorem Zdq {K:Pg}{a c:Addr}{H:Hp}{Q:VK}{n:Nat}{d:Dt}(hn:n<=190)(hx:IsD K H n (.ref a) d)(hy:IsD K H n (.ref c) d)(h:Q (.bl false) H):On K (.ref a) (.ref c) H Q:=.inr ⟨a,c,n,d,rfl,rfl,hn,hx,hy,h⟩
theorem Room.u200 (r:Room k A):A.units+200<cLine:=by have:=r.un;lia
end
section
variable {t u:TS}{c d:TT}{te ta tb tc:TE}{g:TG}{gs:Eh}{ts:TA}{D:Dc}{σ:St}{H:Hp}{Q:VK}{QB:Bool->Hp->Prop}{QA':List V->Hp->Prop}
theorem s_seq (h:t { D with nx:=u D } σ H):Pb t u D σ H:=h
theorem s_asg (h:te σ H λx H1=>g x σ H1 D.nx):G8 te g D σ H:=h
theorem s_ret (h:te σ H D.rt):Zcg te D σ H:=h
theorem s_drop (h:te σ H λ_ H1=>D.nx σ H1):Zb4 te D σ H:=h
theorem s_next (h:D.nx σ H):O9 D σ H:=h
theorem s_ifS (h:c σ H λb H1=>if b=true then t D σ H1 else u D σ H1):Cr c t u D σ H:=h
theorem s_var (e:σ[i]?=some (some v))(h:Q v H):Zco i σ H Q:=⟨v,e,h⟩
theorem s_c (h:Q v H):tC v σ H Q:=h
theorem s_op (h:ta σ H λx H1=>tb σ H1 λy H2=>r x y H2 Q):Fm r ta tb σ H Q:=h
theorem s_un (h:ta σ H λx H1=>r x H1 Q):tUn r ta σ H Q:=h
theorem s_test (h:te σ H λx H'=>∃k,x=.bl k/\QB k H'):Zcd te σ H QB:=h
theorem s_tB (h:te σ H λx H'=>∃k,x=.bl k/\QB k H'):tB te σ H QB:=h
theorem s_ex {b:Bool}{P:Bool->Prop}(h:P b):∃k,V.bl b=V.bl k/\P k:=⟨b,rfl,h⟩
theorem s_exi {i:Int}{P:Int->Prop}(h:P i):∃k,V.int i=V.int k/\P k:=⟨i,rfl,h⟩
theorem s_not (h:c σ H λb H1=>QB (!b) H1):Zbx c σ H QB:=h
theorem s_and (h:c σ H λb H1=>if b=true then d σ H1 QB else QB false H1):Zbn c d σ H QB:=h
theorem s_or (h:c σ H λb H1=>if b=true then QB true H1 else d σ H1 QB):tOr c d σ H QB:=h
theorem s_andV (h:ta σ H λx H1=>∃k,x=.bl k/\if k=true then tb σ H1 Q else Q (.bl false) H1):Zb7 ta tb σ H Q:=h
theorem s_orV (h:ta σ H λx H1=>∃k,x=.bl k/\if k=true then Q (.bl true) H1 else tb σ H1 Q):Zcs ta tb σ H Q:=h
theorem s_notV (h:ta σ H λx H1=>∃k,x=.bl k/\Q (.bl (!k)) H1):Zap ta σ H Q:=h
theorem s_nil (h:QA' [] H):J1 σ H QA':=h
theorem s_cons (h:te σ H λx H1=>ts σ H1 λxs H2=>QA' (x::xs) H2):Zbk te ts σ H QA':=h
theorem s_vals (h:QA' xs H):Zay xs σ H QA':=h
theorem s_tup (h:ts σ H λxs H1=>xs.length<=sizeLine/\∀p,H1 p=none->Q (.ref p) (upd H1 p (.tup xs))):Ov ts σ H Q:=h
theorem s_lst (h:ts σ H λxs H1=>xs.length<=sizeLine/\∀p,H1 p=none->Q (.ref p) (upd H1 p (.lst xs))):Zaj ts σ H Q:=h
theorem s_call (h:ts σ H λvs H1=>sp (vs++dvs) H1 Q E):Km sp dvs E ts σ H Q:=h
theorem s_cb (h:ts σ H λvs H1=>r vs H1 Q):tCB r ts σ H Q:=h
theorem s_bm {K:Pg}{T:String}{r:V->List V->Hp->VK->Prop}(h:te σ H λx H1=>J3 K T x H1/\ts σ H1 λxs H2=>r x xs H2 Q):tBM K T r te ts σ H Q:=h
theorem s_bm0 {K:Pg}{T:String}{r:V->List V->Hp->VK->Prop}(h:te σ H λx H1=>J3 K T x H1/\r x [] H1 Q):Oq K T r te σ H Q:=h
theorem s_sl (h:te σ H λx H1=>tl σ H1 λl H2=>th σ H2 λu H3=>r x l u H3 Q):tSl r te tl th σ H Q:=h
theorem s_po (h:te σ H λx H1=>∃i,x=.int i/\QO' (some i) H1):Zcr te σ H QO':=h
theorem s_po0 (h:QO' none H):Zb0 σ H QO':=h
theorem s_gname (h:QS' (σ.set i (some v)) H):Gz i v σ H QS':=h
theorem Dz {K:Pg}{n:Nat}{a:Addr}{xs:List V}{QS':St->Hp->Prop}(q:SqT K H a xs)(l:xs.length=n)(h:gs xs σ H QS'):Mr K n gs (.ref a) σ H QS':=⟨a,xs,rfl,q,l,h⟩
theorem s_gcons (h:g v σ H λσ' H'=>gs r σ' H' QS'):Zcw g gs (v::r) σ H QS':=⟨v,r,rfl,h⟩
theorem s_gnil (h:QS' σ H):Ow [] σ H QS':=⟨rfl,h⟩
theorem s_gsub (h:to σ H λo H1=>ti σ H1 λi H2=>tt o i v H2 λH3=>QS' σ H3):Zbi to ti tt v σ H QS':=h
theorem s_isN (h:ta σ H λx H1=>Q (.bl (decide (x=.non))) H1):Zbr ta σ H Q:=h
theorem s_notN (h:ta σ H λx H1=>Q (.bl (!decide (x=.non))) H1):Zad ta σ H Q:=h
end
section
variable {wi:TI}{σ0:St->St}{g:TG}{tt:TT}{te:TE}{ta:TA}{tb:TS}{D:Dc}{σ:St}{H:Hp}{Q:VK}{R:It->Hp->Prop}{K:Pg}
theorem s_comp (h:wi σ H λJ H1=>∀L,H1 L=none->Kz J g tt te (σ0 σ) H1 L Q):Kl wi σ0 g tt te σ H Q:=h
theorem s_for (h:wi σ H λJ H1=>∃W:Nat->Nat->St->Hp->Prop,(∃m,W 0 m σ H1)/\∀i m σ H,W i m σ H ->
 (J.stop i H/\D.nx σ H)\/(J.go i H/\∃N:St->Hp->Prop,(∀σ' H',N σ' H'->∃m',m'<m/\W (i+1) m' σ' H')/\∀x H',J.yld i H x H'->g x σ H' λσ2 H2=>tb { D with nx:=N,ct:=N,bk:=D.nx } σ2 H2)):Zbp wi g tb D σ H:=h
theorem s_rng1 (h:ta σ H λvs H1=>∃j:Int,vs=[.int j]/\-(2 ^ 62)<=j/\j<2 ^ 62/\R (G5 0 j.toNat) H1):Zb8 ta σ H R:=h
theorem s_exr {i:Int}{P:Int->Prop}(h:P i):∃j,([V.int i]:List V)=[.int j]/\P j:=⟨i,rfl,h⟩
theorem s_iany (h:te σ H λx H1=>(∃a,x=.ref a/\(∃xs,SqL K H1 a xs)/\R (Hu K a) H1)\/(∃a,x=.ref a/\(∃xs,SqT K H1 a xs)/\R (Ic K a) H1)\/∃z,x=.str z/\R (Its z) H1):Zbf K te σ H R:=h
theorem s_irev (h:ta σ H λvs H1=>∃a xs,vs=[.ref a]/\SqL K H1 a xs/\R (Jd K a xs.length) H1):Zcq K ta σ H R:=h
theorem s_listen (h:ta σ H λvs H1=>∃a xs,vs=[.ref a]/\SqT K H1 a xs/\∀(S:Addr)(ys:List V)(H2:Hp),H1 S=none->Same H1 H2->ys.length=xs.length->Pairs H2 xs ys->H2 S=some (.lst ys)->Q (.ref S) H2):Ox K ta σ H Q:=h
theorem s_yes (h:QB true H):O0 σ H QB:=h
theorem s_turn (h:g x σ H λσ2 H3=>tt σ2 H3 λb H4=>if b=true then te σ2 H4 λy H5=>∃ys,H5 L=some (.lst ys)/\ys.length<sizeLine/\(∃zs,upd H5 L (.lst (ys++[y])) L=some (.lst zs)/\Nx zs σ2 (upd H5 L (.lst (ys++[y])))) else ∃zs,H4 L=some (.lst zs)/\Nx zs σ2 H4):Nb g tt te L Nx x σ H:=h
theorem C6 (e:H l=some (.lst xs))(z:xs.length<sizeLine)(h:Q .non (upd H l (.lst (xs++[y])))):Zho (.ref l) [y] H Q:=⟨l,xs,y,rfl,rfl,e,z,h⟩
theorem Je (e:H l=some (.lst (xs++[y])))(h:Q y (upd H l (.lst xs))):rPop (.ref l) [] H Q:=⟨l,xs++[y],y,rfl,rfl,e,by simp,by simpa using h⟩
theorem Zvg (e:H p=some (.lst xs))(hj:E3 xs.length k=some j)(h:QH (upd H p (.lst (xs.set j v)))):Zgp (.ref p) (.int k) v H QH:=⟨p,xs,k,j,rfl,rfl,e,hj,h⟩
end
section
variable {X:Cx}(K:Pg)
theorem B6 (hK:autoParam (X.K=K) zX):OpR X (binaryOp .Add) (Ij K):=by subst hK;exact op_addA
theorem Ba (hu:X.A.units+200<cLine)(hK:autoParam (X.K=K) zX):OpR X (compareOp .Eq) (N4 K):=by subst hK;exact Zdk hu
theorem Dy (hu:X.A.units+200<cLine)(hK:autoParam (X.K=K) zX):OpR X (compareOp .NotEq) (On K):=by subst hK;exact Zsq hu
theorem Ll (hK:autoParam (X.K=K) zX):OpR X (compareOp .In) (Za4 K false):=by subst hK;exact Zk1
theorem Zb3 (hK:autoParam (X.K=K) zX):IxR X (Js K):=by subst hK;exact Zpt
theorem Ff (hK:autoParam (X.K=K) zX):SlR X (Zct K):=by subst hK;exact Zne
theorem B7 (hK:autoParam (X.K=K) zX):Cw X (.builtin "len") (Mn K):=by subst hK;exact Zuj
inductive TyQ (K:Pg)(H:Hp):V->Value->Prop where
 |ty {x:V} {t:Value} (h:Du K H x t):TyQ K H x t
 |tup {a:Addr} {xs:List V} (q:SqT K H a xs):TyQ K H (.ref a) (.type "tuple")
 |lst {a:Addr} {xs:List V} (q:SqL K H a xs):TyQ K H (.ref a) (.type "list")
def Kq (K:Pg)(T:String):List V->Hp->VK->Prop:=λxs H Q=>eX3 λx t b=>xs=[x,.ty T]/\TyQ K H x t/\Rn K t (.type T)=some b/\Q (.bl b) H
theorem Zkd:Cw X (.builtin "isinstance") (Kq X.K T):=by
 intro pins s σ H xs Y Q I r h;obtain⟨x,t,b,rfl,ty,e,q⟩:=h;obtain⟨u,v,rfl,j,U⟩:=r.two;obtain rfl:v=Value.type T:=U;cases ty with
 |ty ty=>exact Zi6 I j ty e λtk=>⟨.bl b,H,I.tok tk,rfl,q⟩
 |tup F =>
  cases j;obtain⟨O,_,p,_⟩:=I.tuple F;obtain⟨o,h1,h2,_⟩:=p;exact Qz PySem.W.kitx_tuple I.kIn ⟨o,h1,h2⟩ e (λz=>nomatch z) λtk=>⟨.bl b,H,I.tok tk,rfl,q⟩
 |lst F =>
  cases j;obtain⟨O,_,p,_⟩:=I.list F;obtain⟨o,n,h1,h2,_⟩:=p;exact Qz Wh I.kIn ⟨o,h1,h2⟩ e (λz=>nomatch z) λtk=>⟨.bl b,H,I.tok tk,rfl,q⟩
theorem B4 (T:String)(hK:autoParam (X.K=K) zX):Cw X (.builtin "isinstance") (Kq K T):=by subst hK;exact Zkd
def rAll (K:Pg):List V->Hp->VK->Prop:=λxs H Q=>∃(p:Addr)(bs:List Bool),xs=[.ref p]/\SqL K H p (bs.map V.bl)/\Q (.bl (bs.all id)) H
theorem Znq (hc:X.calm=true)(hK:autoParam (X.K=K) zX):Cw X (.builtin "all") (rAll K):=by subst hK;exact Zth hc
def Zkz (K:Pg):List V->Hp->VK->Prop:=λxs H Q=>∃p ys,xs=[.ref p]/\(SqL K H p ys\/SqT K H p ys)/\∀l,H l=none->Q (.ref l) (upd H l (.lst ys))
theorem Jf (hK:autoParam (X.K=K) zX):Cw X (.type "list") (Zkz K):=by subst hK;exact Zle
def Zec (K:Pg):List V->Hp->VK->Prop:=λxs H Q=>∃p ys,xs=[.ref p]/\((SqL K H p ys/\∀l,H l=none->Q (.ref l) (upd H l (.tup ys)))\/(SqT K H p ys/\Q (.ref p) H))
theorem Zew (hK:autoParam (X.K=K) zX):Cw X (.type "tuple") (Zec K):=by subst hK;exact Zqe
def rInt:List V->Hp->VK->Prop:=λxs H Q=>(∃i,xs=[.int i]/\Q (.int i) H)\/∃k,xs=[.bl k]/\Q (.int (if k then 1 else 0)) H
theorem Zup:Cw X (.type "int") rInt:=Zku
theorem s_intb (h:Q (.int (if k=true then 1 else 0)) H):rInt [.bl k] H Q:=.inr ⟨k,rfl,h⟩
theorem E9 {tg l:Expr}{tl:TE}(hl:QE X l tl)(hK:autoParam (X.K=K) zX):QI X tg l (Zbf K tl):=by subst hK;exact Zli hl
theorem Zhm {tg a:Expr}{ta:TA}{p pos:Pos}(hg:Gl X "reversed")(hm:X.mg "reversed"=none)(ha:QA X [a] ta)(hK:autoParam (X.K=K) zX)(hs:autoParam (starEach [a] X.env=[(false,eval a X.env)]) zX):QI X tg (.Call (.Name "reversed" p) [a] [] pos) (Zcq K ta):=by subst hK;exact Zm2 hg hm ha hs
theorem Zj5 {e:Expr}{ta:TA}{p p2 pos pos2:Pos}(hg:Gl X "list")(hm:X.mg "list"=none)(hg2:Gl X "enumerate")(hm2:X.mg "enumerate"=none)(ha:QA X [e] ta)(hK:autoParam (X.K=K) zX)(hc:autoParam (X.calm=true) zX)
  (hs:autoParam (starEach [.Call (.Name "enumerate" p2) [e] [] pos2] X.env=[(false,eval (.Call (.Name "enumerate" p2) [e] [] pos2) X.env)]) zX) (hs2:autoParam (starEach [e] X.env=[(false,eval e X.env)]) zX) :
  QE X (.Call (.Name "list" p) [.Call (.Name "enumerate" p2) [e] [] pos2] [] pos) (Ox K ta):=by subst hK;exact Zjx hg hm hg2 hm2 ha hc hs hs2
theorem Ep {es:List Expr}{k:Nat}{pos:Pos}{t:Eh}{n:Nat}(hc:X.calm=true)(h:QGs X es t)(hK:autoParam (X.K=K) zX)(hn:autoParam ((assignEach es X.env).length=n) zX)(hst:autoParam ((assignEach es X.env).findIdx? (·.1)=none) zX):QG X (.Tuple es k pos) (Mr K n t):=by subst hK;exact Znn hc h hn hst
def Zhu (K:Pg)(ta:TE):TT:=λσ H Q=>ta σ H λx H'=>∃k,L6 K x H' k/\Q k H'
theorem M9 {a:Expr}{ta:TE}(ha:QE X a ta)(he:∀whole,isTrue a X.env whole=(do let v <- whole;standAt a.pos;holding [v] (truthy v)))(hK:autoParam (X.K=K) zX):QT X a (Zhu K ta):=by subst hK;exact⟨Zjh ha.run he⟩
theorem Cv {o e:Expr}{es:List Expr}{to:TE}{t:TA}{name:Str}{apos cpos:Pos}{T id:String}{r:V->List V->Hp->VK->Prop}(pa:PlainAttrs T)(slot:Slot T name id)(hty:typeOf (.builtin id)=pure (.type "method_descriptor"))(hm:Hh X id r)(ho:QE X o to)(ha:QA X (e::es) t)(hK:autoParam (X.K=K) zX)
  (hbase:autoParam (attributeBase o name X.env (eval o X.env)=eval o X.env) zX) (hfew:autoParam (((backTo cpos (starEach (e::es) X.env)).all (λx=>!x.1) && (backToKw cpos (keywordEach [] X.env)).all (λx=>x.1.isSome)
   && decide ((e::es).length+([]:List Keyword).length+(if ([]:List Keyword).isEmpty then 0 else 1)<30))=true) zX) (hline:autoParam ((apos.endLine == cpos.line)=true) zX) (hs:autoParam (starEach (e::es) X.env=(false,eval e X.env)::starEach es X.env) zX) (hplain:autoParam ((backTo cpos (starEach es X.env)).any (·.1)=false) zX):QE X (.Call (.Attribute o name apos) (e::es) [] cpos) (tBM K T r to t):=by subst hK;exact Zkk pa slot hty hm ho ha hbase hfew hline hs hplain
theorem Ls {o:Expr}{to:TE}{name:Str}{apos cpos:Pos}{T id:String}{r:V->List V->Hp->VK->Prop}(pa:PlainAttrs T)(slot:Slot T name id)(hty:typeOf (.builtin id)=pure (.type "method_descriptor"))(hm:Hh X id r)(ho:QE X o to)(hK:autoParam (X.K=K) zX)(hbase:autoParam (attributeBase o name X.env (eval o X.env)=eval o X.env) zX)(hline:autoParam ((apos.endLine == cpos.line)=true) zX):QE X (.Call (.Attribute o name apos) [] [] cpos) (Oq K T r to):=by subst hK;exact Zov pa slot hty hm ho hbase hline
end
section
variable {K:Pg}{σ:St}{H:Hp}{Q:VK}{QB:Bool->Hp->Prop}{ta:TE}
theorem s_truth (h:ta σ H λx H'=>∃k,L6 K x H' k/\QB k H'):Zhu K ta σ H QB:=h
theorem Zhf {a:Addr}{xs:List V}{P:Bool->Prop}(q:SqL K H a xs)(h:P (!xs.isEmpty)):∃k,L6 K (.ref a) H k/\P k:=⟨_,.inl ⟨xs,q,rfl⟩,h⟩
theorem Bw (ty:Du K H x t)(e:Rn K t (.type T)=some b)(h:Q (.bl b) H):Kq K T [x,.ty T] H Q:=⟨x,t,b,rfl,.ty ty,e,h⟩
theorem D0 (q:SqT K H a xs)(e:Rn K (.type "tuple") (.type T)=some b)(h:Q (.bl b) H):Kq K T [.ref a,.ty T] H Q:=⟨_,_,b,rfl,.tup q,e,h⟩
theorem Fq (q:SqL K H a xs)(e:Rn K (.type "list") (.type T)=some b)(h:Q (.bl b) H):Kq K T [.ref a,.ty T] H Q:=⟨_,_,b,rfl,.lst q,e,h⟩
theorem Zsy:Rn K (.type "int") (.type "bool")=some false:=Zva (l:=(fastBuiltinMro "int").get (by right)) (by right) (by decide) (by simp) (by right)
theorem Zfs (q:SqL K H p ys)(h:∀l,H l=none->Q (.ref l) (upd H l (.tup ys))):Zec K [.ref p] H Q:=⟨p,ys,rfl,.inl ⟨q,h⟩⟩
theorem Ce {P:Prop}(q:SqL K H a xs)(h:P):J3 K "list" (.ref a) H/\P:=⟨.inl ⟨rfl,_,q⟩,h⟩
end
theorem s_nt {A B:Prop}(h:B):if (!true)=true then A else B:=by simpa using h
theorem s_nf {A B:Prop}(h:A):if (!false)=true then A else B:=by simpa using h
end L2
namespace L2
open PySem
inductive Tr where
 |mk (wd:Str) (note:Dt) (ps:List Tr)
noncomputable def Tr.wd:Tr->Str
 |.mk w _ _=>w
noncomputable def Tr.ps:Tr->List Tr
 |.mk _ _ ps=>ps
mutual
noncomputable def Tr.size:Tr->Nat
 |.mk _ _ ps=>1+Bj ps
noncomputable def Bj:List Tr->Nat
 |[]=>0
 |t::r=>t.size+Bj r
end
theorem Tr.size_eq (t:Tr):t.size=1+Bj t.ps:=by
 cases t with
 |mk w n ps=>rw[Tr.size];rfl
theorem Zh4 (a b:List Tr):Bj (a++b)=Bj a+Bj b:=by
 induction a with
 |nil=>simp[Bj]
 |cons t r j=>rw[Su,Bj,Bj,j];lia
theorem Mm {ts:List Tr}{j:Nat}{t:Tr}(h:ts[j]?=some t):t.size<=Bj ts:=by
 induction ts generalizing j with
 |nil=>simp at h
 |cons x r F =>
  rw[Bj];cases j with
  |zero=>simp at h;subst h;lia
  |succ j=>have:=F (j:=j) (by simpa using h);lia
theorem Zcy (ts:List Tr):ts.length<=Bj ts:=by
 induction ts with
 |nil=>simp[Bj]
 |cons t r j =>
  have:=t.size_eq;rw[Bj,Qc];lia
def SameT (H H':Hp):Prop:=∀b,(∀xs,H b=some (.tup xs)->H' b=some (.tup xs))/\∀o u,H b=some (.frz o u)->H' b=some (.frz o u)
theorem Same.t (e:Same H H'):SameT H H':=λb=>⟨λxs h=>e b _ h,λo u h=>e b _ h⟩
theorem SameT.refl (H:Hp):SameT H H:=λ_=>⟨λ_ h=>h,λ_ _ h=>h⟩
theorem SameT.trans (a:SameT H H1)(b:SameT H1 H2):SameT H H2:=λc=>⟨λxs h=>(b c).1 xs ((a c).1 xs h),λo u h=>(b c).2 o u ((a c).2 o u h)⟩
theorem SameT.set (h:H S=some (.lst zs)):SameT H (upd H S o):=λb =>
 ⟨λxs e=>by rw[Ag (Dw e h (by intro z;cases z))];exact e,λo' u e=>by rw[Ag (Dw e h (by intro z;cases z))];exact e⟩
theorem SameT.new (h:H S=none):SameT H (upd H S o):=(Same.upd h).t
theorem SameT.tup (e:SameT H H')(h:SqT K H a xs):SqT K H' a xs:=by
 rcases h with(h|⟨o,h⟩)|h
 ·exact .inl (.inl ((e a).1 _ h))
 ·exact .inl (.inr ⟨o,(e a).2 _ _ h⟩)
 ·exact .inr h
def IsN (K:Pg)(H:Hp)(v:V)(n:Dt):Prop:=(C2 v=true/\n=.flat v)\/∃(a:Addr)(vs:List V),v=.ref a/\SqT K H a vs/\vs.all C2=true/\n=.tup (vs.map .flat)
theorem IsN.same (h:IsN K H v n)(e:SameT H H'):IsN K H' v n:=by
 rcases h with h|⟨a,vs,h1,h2,j⟩
 ·exact .inl h
 ·exact .inr ⟨a,vs,h1,e.tup h2,j⟩
inductive TrAt (K:Pg)(H:Hp):V->Tr->Prop where
 |mk {a p:Addr} {wd:Str} {nv:V} {n:Dt} {vs:List V} {ts:List Tr} (q:SqT K H a [.str wd,nv,.ref p]) (hn:IsN K H nv n) (qp:SqT K H p vs) (l:vs.length=ts.length)
   (h:∀(j:Nat)(v:V)(t:Tr),vs[j]?=some v->ts[j]?=some t->TrAt K H v t):TrAt K H (.ref a) (.mk wd n ts)
theorem TrAt.sameT (h:TrAt K H v t)(e:SameT H H'):TrAt K H' v t:=by
 induction h with
 |mk q F j l _ I=>exact .mk (e.tup q) (F.same e) (e.tup j) l I
theorem TrAt.same (h:TrAt K H v t)(e:Same H H'):TrAt K H' v t:=h.sameT e.t
def Al {α:Type}(R:V->α->Prop)(vs:List V)(xs:List α):Prop:=vs.length=xs.length/\∀(j:Nat)(v:V)(x:α),vs[j]?=some v->xs[j]?=some x->R v x
section
variable {α:Type}{R R':V->α->Prop}{vs:List V}{xs:List α}{v:V}{x:α}
theorem Al.mono (h:Al R vs xs)(f:∀v x,R v x->R' v x):Al R' vs xs:=⟨h.1,λj v x a b=>f v x (h.2 j v x a b)⟩
theorem Al.nil:Al R [] []:=⟨rfl,λj v x a _=>by simp at a⟩
theorem Al.snoc (h:Al R vs xs)(a:R v x):Al R (vs++[v]) (xs++[x]):=by
 refine⟨by simp[h.1],λj y z F I=>?_⟩;by_cases Y:j<vs.length
 ·rw[Qd Y]at F;rw[Qd (by have:=h.1;lia)]at I;exact h.2 j y z F I
 ·have U:=(Pt.mp F).1;rw[Pn,Py]at U;have O:j=vs.length:=by lia
  subst O;rw[Qn (Pj _),Re]at F;rw[h.1,Qn (Pj _),Re]at I;have F:v=y:=by simpa using F
  have I:x=z:=by simpa using I
  rw[<- F,<- I];exact a
theorem Al.split (h:Al R (vs++[v]) xs):∃ys x,xs=ys++[x]/\Al R vs ys/\R v x:=by
 have O:xs.length=vs.length+1:=by have:=h.1;simp at this;lia
 have F:xs≠[]:=λz=>by rw[z]at O;simp at O
 refine⟨xs.dropLast,xs.getLast F,(W2 F).symm,⟨by simp[O],λj y z U I=>?_⟩,?_⟩
 ·have Y:=(Pt.mp U).1;refine h.2 j y z (by rw[Qd Y];exact U) ?_;rw[List.getElem?_dropLast]at I;split at I
  ·exact I
  ·cases I
 ·refine h.2 vs.length v _ (by simp) ?_;rw[List.getLast_eq_getElem,Pk (by lia)]
  congr 1
  simp[O]
theorem Al.last (h:Al R vs xs)(hn:vs≠[]):eX4 λvs' v xs' x=>vs=vs'++[v]/\xs=xs'++[x]/\Al R vs' xs'/\R v x:=by
 have e:=(W2 hn).symm;rw[e]at h;obtain⟨ys,x,j,a,r⟩:=h.split;exact⟨_,_,ys,x,e,j,a,r⟩
theorem Al.get {j:Nat}(h:Al R vs xs)(e:vs[j]?=some v):∃x,xs[j]?=some x/\R v x:=by
 have I:=(Pt.mp e).1;have F:j<xs.length:=by have:=h.1;lia
 exact⟨xs[j],Pk F,h.2 j v _ e (Pk F)⟩
theorem Al.get' {j:Nat}(h:Al R vs xs)(e:xs[j]?=some x):∃v,vs[j]?=some v/\R v x:=by
 have I:=(Pt.mp e).1;have F:j<vs.length:=by have:=h.1;lia
 exact⟨vs[j],Pk F,h.2 j _ x (Pk F) e⟩
end
mutual
noncomputable def walk:List Nat->Tr->List (List Nat×Tr)
 |pl,.mk w n ps=>(pl,.mk w n ps)::Bk pl 0 ps
noncomputable def Bk:List Nat->Nat->List Tr->List (List Nat×Tr)
 |_,_,[]=>[]
 |pl,i,t::r=>walk (pl++[i]) t++Bk pl (i+1) r
end
theorem Zl7 (pl:List Nat)(t:Tr):walk pl t=(pl,t)::Bk pl 0 t.ps:=by
 cases t with
 |mk w n ps=>rw[walk];rfl
mutual
theorem Op:∀(pl:List Nat)(t:Tr),(walk pl t).length=t.size
 |pl,.mk w n ps=>by rw[walk,Tr.size,Qc,Zdc pl 0 ps];lia
theorem Zdc:∀(pl:List Nat)(i:Nat)(ts:List Tr),(Bk pl i ts).length=Bj ts
 |_,_,[]=>by rw[Bk,Bj];rfl
 |pl,i,t::r=>by rw[Bk,Bj,Pn,Op,Zdc]
end
mutual
theorem Zbm:∀(pl:List Nat)(t:Tr)(x:List Nat×Tr),x∈walk pl t->x.1.length+1<=pl.length+t.size
 |pl,.mk w n ps,x,h=>by
  rw[walk]at h;rw[Tr.size];rcases Po.mp h with h|h
  ·subst h;show pl.length+1<=_;lia
  ·have:=Zgh pl 0 ps x h;lia
theorem Zgh:∀(pl:List Nat)(i:Nat)(ts:List Tr)(x:List Nat×Tr),x∈Bk pl i ts->x.1.length<=pl.length+Bj ts
 |_,_,[],x,h=>by rw[Bk]at h;cases h
 |pl,i,t::r,x,h=>by
  rw[Bk]at h;rw[Bj];rcases Rl.mp h with h|h
  ·have:=Zbm (pl++[i]) t x h;rw[Pn,Py]at this;lia
  ·have:=Zgh pl (i+1) r x h;lia
end
noncomputable def A4 (pl:List Nat):List V:=pl.map λi=>V.int ((i:Nat):Int)
noncomputable def Ct:List Nat->Nat->List Tr->List (List Nat×Tr)
 |_,_,[]=>[]
 |pl,i,t::r=>(pl++[i],t)::Ct pl (i+1) r
theorem Zgj (pl:List Nat):∀(i:Nat)(ts:List Tr),(Ct pl i ts).length=ts.length
 |_,[]=>rfl
 |i,t::r=>by rw[Ct,Qc,Qc,Zgj pl (i+1) r]
theorem Zek (pl:List Nat):∀(i j:Nat)(ts:List Tr),(Ct pl i ts)[j]?=(ts[j]?).map λt=>(pl++[i+j],t)
 |_,_,[]=>by simp[Ct]
 |i,0,t::r=>by simp[Ct]
 |i,j+1,t::r=>by
  rw[Ct,Tl,Tl,Zek pl (i+1) j r]
  congr 1
  funext t;rw[show i+1+j=i+(j+1) by lia]
theorem Zhy (pl:List Nat):∀(i:Nat)(ts:List Tr),(Ct pl i ts).flatMap (λx=>walk x.1 x.2)=Bk pl i ts
 |_,[]=>by simp[Ct,Bk]
 |i,t::r=>by rw[Ct,List.flatMap_cons,Bk,Zhy pl (i+1) r]
noncomputable def Gk (st:List (List Nat×Tr)):List (List Nat×Tr):=st.reverse.flatMap λx=>walk x.1 x.2
theorem Zs8:Gk []=[]:=rfl
theorem Zbv (st:List (List Nat×Tr))(x:List Nat×Tr):Gk (st++[x])=x::Gk (st++(Ct x.1 0 x.2.ps).reverse):=by
 unfold Gk;rw[Ss,Ss,List.reverse_reverse,List.flatMap_append,List.flatMap_append,Zhy];rw[Uz,List.flatMap_singleton,Zl7];rfl
noncomputable def E5 (st:List (List Nat×Tr)):Nat:=(Gk st).length
theorem Zmr (st:List (List Nat×Tr))(x:List Nat×Tr):E5 (st++(Ct x.1 0 x.2.ps).reverse)<E5 (st++[x]):=by
 unfold E5;rw[Zbv];exact U9 _
theorem Zsi (st:List (List Nat×Tr)):st.length<=E5 st:=by
 unfold E5 Gk;have:∀l:List (List Nat×Tr),l.length<=(l.flatMap λx=>walk x.1 x.2).length:=λl=>by
  induction l with
  |nil=>simp
  |cons x r j =>
   rw[List.flatMap_cons,Pn,Op,Qc];have:=x.2.size_eq;lia
 have:=this st.reverse;rw[Tw]at this;exact this
theorem Zuz {α:Type}{l:List α}{n i:Nat}{x:α}(hl:l.length=n)(hi:i<n)(hx:l[n-1-i]?=some x):(l.drop (n-(i+1))).reverse=(l.drop (n-i)).reverse++[x]:=by
 have j:n-1-i<l.length:=by lia
 have e:l.drop (n-(i+1))=x::l.drop (n-i):=by
  have h1:n-(i+1)=n-1-i:=by lia
  rw[h1,Se j,show n-1-i+1=n-i by lia];rw[Pk j]at hx;rw[Qa hx]
 rw[e,T6]
mutual
theorem Zaa:∀(pl:List Nat)(t:Tr),walk pl t=(walk [] t).map λx=>(pl++x.1,x.2)
 |pl,.mk w n ps=>by
  have e:=Zgs pl [] 0 ps;rw[Q0]at e;rw[walk,walk,Qs,e];simp
theorem Zgs:∀(pl q:List Nat)(i:Nat)(ts:List Tr),Bk (pl++q) i ts=(Bk q i ts).map λx=>(pl++x.1,x.2)
 |_,_,_,[]=>by rw[Bk,Bk];rfl
 |pl,q,i,t::r=>by
  rw[Bk,Bk,Qh,<- Zgs pl q (i+1) r,Zaa (pl++q++[i]) t,Zaa (q++[i]) t];simp
end
theorem Al.append {α:Type}{R:V->α->Prop}{vs ws:List V}{xs ys:List α}(h:Al R vs xs)(h':Al R ws ys):Al R (vs++ws) (xs++ys):=by
 refine⟨by simp[h.1,h'.1],λj v x I F=>?_⟩;by_cases O:j<vs.length
 ·rw[Qd O]at I;rw[Qd (by have:=h.1;lia)]at F;exact h.2 j v x I F
 ·rw[Qn (by lia)]at I;rw[Qn (by have:=h.1;lia),<- h.1]at F;exact h'.2 _ v x I F
end L2
namespace L2
open PySem PySem.Spec PyProof.Rows
section
open PySem.AutoSeq1
end
section
variable {X:Cx}
noncomputable def Dk (kvs:List (Str×V))(k:Str):Option V:=(kvs.find? λj=>j.1=k).map (·.2)
inductive VPs:List (Str×V)->List (Str×Value)->Prop
 |nil:VPs [] []
 |cons {k:Str} {x:V} {v:Value} {r:List (Str×V)} {q:List (Str×Value)}:RelV x v->VPs r q->VPs ((k,x)::r) ((k,v)::q)
theorem VPs.look (h:VPs kvs vs)(k:Str):(valueAt vs k).isSome=(Dk kvs k).isSome/\∀x,Dk kvs k=some x->∃v,valueAt vs k=some v/\RelV x v:=by
 induction h with
 |nil=>exact⟨rfl,λx e=>nomatch e⟩
 | @cons F x v r q I _ j =>
  unfold valueAt Dk at j ⊢;by_cases z:F=k
  ·simp only[Rb,z,decide_true,Uc,Option.isSome_some];exact⟨trivial,λy e=>⟨v,rfl,by cases e;exact I⟩⟩
  ·simp only[Rb,z,decide_false];exact j
def Gq (P:Program)(w:World)(K:Pg)(a:Addr)(kvs:List (Str×V)):Prop :=
 ∃(o:Obj)(vs:List (Str×Value)),K.lookup a=some o/\o.IsDictOf (strKind P w) vs/\(a == sysModules)=false/\VPs kvs vs
def rInD (P:Program)(w:World)(K:Pg):R2:=λx y H Q=>eX3 λs a kvs=>x=.str s/\y=.ref a/\Gq P w K a kvs/\Q (.bl (Dk kvs s).isSome) H
theorem Zi8:OpR X (compareOp .In) (rInD X.prog X.w X.K):=by
 intro pins s σ H x y v u Q I O F h;obtain⟨z,a,kvs,rfl,rfl,⟨o,vs,U,hd,lo,j⟩,q⟩:=h;obtain⟨t,rfl⟩:=O;cases F;have D:s.heap.DictOf (strKind X.prog X.w) a vs:=Wv.mpr ⟨o,I.kIn a o U,hd⟩;exact wpAny_in_of (knd:=strKind X.prog X.w) (k:=z) (strKind_is _ _ _ _) lo D.mapOf (Bx (I.tok _) q (j.look z).1.symm)
def rIxD (P:Program)(w:World)(K:Pg):R2:=λx y H Q=>eX4 λa kvs s v=>x=.ref a/\y=.str s/\Gq P w K a kvs/\Dk kvs s=some v/\Q v H
theorem ix_D:IxR X (rIxD X.prog X.w X.K):=by
 intro value j pins s σ H x y v u Q I Y O h hs;obtain⟨a,kvs,z,U,rfl,rfl,⟨o,vs,Z,hd,lo,F⟩,hv,q⟩:=h;cases Y;obtain⟨t,rfl⟩:=O;have D:s.heap.DictOf (strKind X.prog X.w) a vs:=Wv.mpr ⟨o,I.kIn a o Z,hd⟩;obtain⟨u',e,r⟩:=(F.look z).2 _ hv;exact tail_any D.typeIs slot_dict_getitem.lookup (wpAny_getItem_of (knd:=strKind X.prog X.w) (k:=z) (strKind_is _ _ _ _) D.mapOf e ⟨U,H,I.tok _,r,q⟩) hs
end
section
variable {X:Cx}(P:Program)(w:World)(K:Pg)
theorem Zbu (hP:autoParam (X.prog=P) zX)(hw:autoParam (X.w=w) zX)(hK:autoParam (X.K=K) zX):OpR X (compareOp .In) (rInD P w K):=by subst hP hw hK;exact Zi8
theorem Zag (hP:autoParam (X.prog=P) zX)(hw:autoParam (X.w=w) zX)(hK:autoParam (X.K=K) zX):IxR X (rIxD P w K):=by subst hP hw hK;exact ix_D
end
theorem s_chain (h:ta σ H λx H1=>tb σ H1 λy H2=>r x y H2 λz H3=>∃k,z=.bl k/\(if k=true then tc σ H3 λw' H4=>r' y w' H4 Q else Q (.bl false) H3)):Zc7 r r' ta tb tc σ H Q:=h
inductive Ents (p:Params):List DictEntry->List (Str×V)->Prop
 |nil:Ents p [] []
 |cons {k:Str} {t:Tok} {x:V} {v:Value} {r:List DictEntry} {q:List (Str×V)}:RelV x v->Ents p r q->Ents p (⟨PyData.keyHash p k,.str k t,v⟩::r) ((k,x)::q)
theorem Ents.pairs (h:Ents w.params es kvs):∃vs,VPs kvs vs/\PySem.Pairs (PySem.strKind P w) es vs/\vs.map (·.1)=kvs.map (·.1)/\∀e∈es,∃k,(PySem.strKind P w).is k e.key=true/\e.hash=(PySem.strKind P w).hash k:=by
 induction h with
 |nil=>exact⟨[],.nil,.nil,rfl,λe j=>nomatch j⟩
 | @cons k t x v r q I _ F =>
  obtain⟨vs,a,b,c,d⟩:=F;refine⟨(k,v)::vs,.cons I a,.cons (strKind_is _ _ _ _) rfl b,by simp[c],λe j=>?_⟩;rcases Po.mp j with rfl|j
  ·exact⟨k,strKind_is _ _ _ _,rfl⟩
  ·exact d e j
theorem Zoi {P:Program}{w:World}{K:Pg}{a:Addr}{es:Array DictEntry}{n:Nat}{kvs:List (Str×V)}(l:K.lookup a=some ⟨.type "dict",none,.dict es n,#[]⟩)(hs:(a == sysModules)=false)
  (e:Ents w.params es.toList kvs) (nd:(kvs.map (·.1)).Nodup):Gq P w K a kvs:=by
 obtain⟨vs,a1,a2,I,j⟩:=e.pairs (P:=P);exact⟨_,vs,l,⟨es,n,⟨rfl,rfl,rfl⟩,rfl,λe F=>j e (by simpa using F),a2,by rw[I];exact nd⟩,hs,a1⟩
section
variable {X:Cx}
theorem Za7:∀{ns:List Int}{us:List Value},Vals (ns.map V.int) us->∃xs:List (Int×Tok),us=xs.map (λp=>Value.int p.1 p.2)/\xs.map (·.1)=ns
 |[],_,.nil=>⟨[],rfl,rfl⟩
 |n::ns,_,.cons r t=>by
  obtain⟨u,rfl⟩:=r;obtain⟨xs,F,j⟩:=Za7 t;exact⟨(n,u)::xs,by rw[F];rfl,by simp[j]⟩
def Zfo:List V->Hp->VK->Prop:=λxs H Q=>∃i,xs=[.int i]/\i.natAbs.log2<1920/\Q (.str (toString i)) H
theorem Zh1:Cw X (.type "str") Zfo:=Zux
theorem Zfj (hi:i.natAbs.log2<1920)(h:Q (.str (toString i)) H):Zfo [.int i] H Q:=⟨i,rfl,hi,h⟩
end
structure ZA (z TI TO i1 i2:Addr)(fp1 fp2:List Addr):Prop where
 TIz:TI≠z
 TOz:TO≠z
 TITO:TI≠TO
 z1:z ∉ fp1
 z2:z ∉ fp2
 TI1:TI≠i1
 TI2:TI≠i2
 TO1:TO ∉ fp1
 TO2:TO ∉ fp2
 m1:i1∈fp1
 m2:i2∈fp2
 n1:i1 ∉ fp2
 n2:i2 ∉ fp1
theorem ZA.i1z {z TI TO i1 i2:Addr}{fp1 fp2:List Addr}(D:ZA z TI TO i1 i2 fp1 fp2):i1≠z:=λe=>D.z1 (e ▸ D.m1)
theorem ZA.i2z {z TI TO i1 i2:Addr}{fp1 fp2:List Addr}(D:ZA z TI TO i1 i2 fp1 fp2):i2≠z:=λe=>D.z2 (e ▸ D.m2)
theorem ZA.TOi1 {z TI TO i1 i2:Addr}{fp1 fp2:List Addr}(D:ZA z TI TO i1 i2 fp1 fp2):TO≠i1:=λe=>D.TO1 (e ▸ D.m1)
theorem ZA.TOi2 {z TI TO i1 i2:Addr}{fp1 fp2:List Addr}(D:ZA z TI TO i1 i2 fp1 fp2):TO≠i2:=λe=>D.TO2 (e ▸ D.m2)
theorem C5 {prog:Program}{w:World}{A:Around}{it c:Addr}{fp:List Addr}{n i:Nat}{P:Nat->Value->Prop}{St:Nat->Heap->Prop}(D:Draws prog w A it fp n P St){h h':Heap}(st:St i h)(e:P4 c h h')(hc:c ∉ fp):St i h' :=
 D.frame i h h' st λb j o F=>e.extBut b o (λz=>hc (z ▸ j)) F
section
variable {prog:Program}{w:World}{A:Around}{E:Value->Shared->Prop}{s:Shared}{z TI TO i1 i2:Addr}{fp1 fp2:List Addr}{n1 n2 i:Nat}{P1 P2:Nat->Value->Prop}{St1 St2:Nat->Heap->Prop}{a b:Value}
theorem Zsw {Q:Value->Shared->Prop}(D1:Draws prog w A i1 fp1 n1 P1 St1)(D2:Draws prog w A i2 fp2 n2 P2 St2)(D:ZA z TI TO i1 i2 fp1 fp2)(hz:IsZip s.heap z TI TO .none)(hTI:IsPair s.heap TI (.ref i1) (.ref i2))(hTO:IsPair s.heap TO a b)
  (st1:St1 i s.heap) (st2:St2 i s.heap) (l1:i<n1) (l2:i<n2)
  (hQ:∀x y h' tk,P1 i x->P2 i y->IsZip h' z TI TO (rawInt s.heap.objs.size)->IsPair h' TO x y->St1 (i+1) h'->St2 (i+1) h'->IsPair h' s.heap.objs.size x y->h'.objs.size=s.heap.objs.size+1 ->
   (∀c o,c≠z->c≠TO->c≠i1->c≠i2->s.heap.get? c=some o->h'.get? c=some o)->Q (.ref s.heap.objs.size) { s with heap:=h',toks:=tk }) :
  wpAny (model prog w) A (Builtin.«zip.__next__» ⟨[.ref z],[]⟩) (λfin s'=>∃v,fin=.done (.ret v)/\Q v s') E s:=by
 show wpAny _ _ (field (.ref z) 2 >>= _) _ _ s;refine Ph (Pz hz rfl (x:=Value.bool false) rfl ?_);show wpAny _ _ (field (.ref z) 3 >>= _) _ _ s;refine Ph (Pz hz rfl (x:=Value.ref TI) rfl (Ph (Rc hTI rfl ?_)));show wpAny _ _ (Rh (.ref z) >>= _) _ _ s;refine Ph ?_;unfold Rh;refine Ph (Pz hz rfl (x:=Value.none) rfl (Pi ?_));simp only[if_true];refine Ph (Tj (Ph (Pz hz rfl (x:=Value.ref TO) rfl ?_)));refine Ph (Rj hz (by simp) λZ I e1=>?_);replace I:IsZip Z z TI TO Value.ellipsis:=I;refine Ph ?_;simp only[List.zipIdx_cons,List.zipIdx_nil,Ua,Vm];refine Ph (Ph (Vp ?_));show wpAny _ _ (Q2 (.ref i1) >>= _) _ _ _;refine Ph (D1.item i _ _ _ l1 (C5 D1 st1 e1 D.z1) λx Y af px ah e2=>Pi ?_);replace e2:P4 i1 Z Y:=e2;have p2:IsPair Y TO a b:=e2.extBut _ _ D.TOi1 (e1.extBut _ _ D.TOz hTO);refine Ph (Rc p2 rfl (Ph (Wa p2 λO p3 e3=>?_)));replace p3:IsPair O TO x b:=p3;replace e3:P4 TO Y O:=e3;refine Ph (V0 (Pi (Ph (Ph (Vp ?_)))));show wpAny _ _ (Q2 (.ref i2) >>= _) _ _ _;have ag:St2 i O:=C5 D2 (C5 D2 (C5 D2 st2 e1 D.z2) e2 D.n1) e3 D.TO2;refine Ph (D2.item i _ _ _ l2 ag λy U aa py ai e4=>Pi ?_);replace e4:P4 i2 O U:=e4;have p4:IsPair U TO x b:=e4.extBut _ _ D.TOi2 p3;refine Ph (Rc p4 rfl (Ph (Wa p4 λj p5 e5=>?_)));replace p5:IsPair j TO x y:=p5;replace e5:P4 TO U j:=e5;refine Ph (V0 (Pi (Pi (Ph (Rc p5 rfl (Ph (wpAny_newTuple ?_)))))));have sz:j.objs.size=s.heap.objs.size:=by rw[e5.1,e4.1,e3.1,e2.1,e1.1]
 have z5:IsZip j z TI TO Value.ellipsis:=e5.extBut _ _ D.TOz.symm (e4.extBut _ _ D.i2z.symm (e3.extBut _ _ D.TOz.symm (e2.extBut _ _ D.i1z.symm I)));have k5:∀c o,c≠z->c≠TO->c≠i1->c≠i2->s.heap.get? c=some o->j.get? c=some o:=λc o c1 c2 c3 c4 e=>e5.extBut _ _ c2 (e4.extBut _ _ c4 (e3.extBut _ _ c2 (e2.extBut _ _ c3 (e1.extBut _ _ c1 e))));have t1:St1 (i+1) j:=C5 D1 (C5 D1 (C5 D1 ah e3 D.TO1) e4 D.n2) e5 D.TO1;have t2:St2 (i+1) j:=C5 D2 ai e5 D.TO2;have ae:z<j.objs.size:=Pq z5;show wpAny _ _ (Wx (.ref z) (.ref j.objs.size) >>= _) _ _ _;refine Ph ?_;unfold Wx;have z6:IsZip (j.push { cls:=.type "tuple",data:=.seq #[x,y] }) z TI TO Value.ellipsis:=Pm _ z5;refine Ph (Rj z6 (by simp) λac z7 e7=>?_);replace z7:IsZip ac z TI TO (rawInt j.objs.size):=z7;refine Rj z7 (by simp) λF z8 e8=>?_;replace z8:IsZip F z TI TO (rawInt j.objs.size):=z8;have up:∀c o,c≠z->j.get? c=some o->F.get? c=some o:=λc o c1 e=>e8.extBut _ _ c1 (e7.extBut _ _ c1 (Pm _ e));have t8:IsPair F j.objs.size x y:=e8.extBut _ _ (Q1 ae) (e7.extBut _ _ (Q1 ae) (P3 _ rfl));have ad:F.objs.size=j.objs.size+1:=by rw[e8.1,e7.1,Qq]
 rw[sz]at z8 t8 ad;refine Pi ⟨_,rfl,?_⟩;show Q (.ref j.objs.size) _;rw[sz];exact hQ x y F aa px py z8 (up _ _ D.TOz p5) (D1.frame _ _ _ t1 λc hc o e=>up c o (λq=>D.z1 (q ▸ hc)) e) (D2.frame _ _ _ t2 λc hc o e=>up c o (λq=>D.z2 (q ▸ hc)) e) t8 ad λc o c1 c2 c3 c4 e=>up c o c1 (k5 c o c1 c2 c3 c4 e)
theorem Zjn (D1:Draws prog w A i1 fp1 n1 P1 St1)(D2:Draws prog w A i2 fp2 n2 P2 St2)(D:ZA z TI TO i1 i2 fp1 fp2)(hz:IsZip s.heap z TI TO .none)(hTI:IsPair s.heap TI (.ref i1) (.ref i2))(hTO:IsPair s.heap TO a b)(st1:St1 i s.heap)(st2:St2 i s.heap)(hend:i=n1\/(i<n1/\i=n2))(hE:∀h' e tk,(∀c o,c≠z->c≠TO->c≠i1->c≠i2->s.heap.get? c=some o->h'.get? c=some o)->(∃o,h'.get? e=some o/\o.cls=.type "StopIteration")->E (.ref e) { s with heap:=h',toks:=tk }) :
  wpAny (model prog w) A (Builtin.«zip.__next__» ⟨[.ref z],[]⟩) Q E s:=by
 show wpAny _ _ (field (.ref z) 2 >>= _) _ _ s;refine Ph (Pz hz rfl (x:=Value.bool false) rfl ?_);show wpAny _ _ (field (.ref z) 3 >>= _) _ _ s;refine Ph (Pz hz rfl (x:=Value.ref TI) rfl (Ph (Rc hTI rfl ?_)));show wpAny _ _ (Rh (.ref z) >>= _) _ _ s;refine Ph ?_;unfold Rh;refine Ph (Pz hz rfl (x:=Value.none) rfl (Pi ?_));simp only[if_true];refine Ph (Tj (Ph (Pz hz rfl (x:=Value.ref TO) rfl ?_)));refine Ph (Rj hz (by simp) λZ F e1=>?_);replace F:IsZip Z z TI TO Value.ellipsis:=F;refine Ph ?_;simp only[List.zipIdx_cons,List.zipIdx_nil,Ua,Vm];refine Ph (Ph (Vp ?_));show wpAny _ _ (Q2 (.ref i1) >>= _) _ _ _;rcases hend with rfl|⟨l1,rfl⟩
 ·refine Ph (D1.done _ _ _ (C5 D1 st1 e1 D.z1) λj e Y he=>?_);obtain⟨oe,O,U⟩:=he;replace Y:Ti i1 Z j:=Y;have z2:IsZip j z TI TO Value.ellipsis:=Y _ _ D.i1z.symm F;have ad:e≠z:=λx=>by subst x;rw[z2]at O;cases O;simp at U
  refine Rj z2 (by simp) λI _ e3=>hE I e s.toks (λc o c1 _ c3 _ x=>e3.extBut _ _ c1 (Y _ _ c3 (e1.extBut _ _ c1 x))) ⟨oe,e3.extBut _ _ ad O,U⟩
 ·refine Ph (D1.item i _ _ _ l1 (C5 D1 st1 e1 D.z1) λx j ac px ag Y=>Pi ?_);replace Y:P4 i1 Z j:=Y;have p2:IsPair j TO a b:=Y.extBut _ _ D.TOi1 (e1.extBut _ _ D.TOz hTO);refine Ph (Rc p2 rfl (Ph (Wa p2 λI p3 e3=>?_)));replace e3:P4 TO j I:=e3;refine Ph (V0 (Pi (Ph (Ph (Vp ?_)))));show wpAny _ _ (Q2 (.ref i2) >>= _) _ _ _;have af:St2 i I:=C5 D2 (C5 D2 (C5 D2 st2 e1 D.z2) Y D.n1) e3 D.TO2;refine Ph (D2.done _ _ _ af λaa e e4 he=>?_);obtain⟨oe,O,U⟩:=he;replace e4:Ti i2 I aa:=e4;have z4:IsZip aa z TI TO Value.ellipsis:=e4 _ _ D.i2z.symm (e3.extBut _ _ D.TOz.symm (Y.extBut _ _ D.i1z.symm F));have ad:e≠z:=λx=>by subst x;rw[z4]at O;cases O;simp at U
  refine Rj z4 (by simp) λae _ e5=>hE ae e ac (λc o c1 c2 c3 c4 x=>e5.extBut _ _ c1 (e4 _ _ c4 (e3.extBut _ _ c2 (Y.extBut _ _ c3 (e1.extBut _ _ c1 x))))) ⟨oe,e5.extBut _ _ ad O,U⟩
theorem Zui (D1:Draws prog w A.in1 i1 fp1 n1 P1 St1)(D2:Draws prog w A.in1 i2 fp2 n2 P2 St2)(D:ZA z TI TO i1 i2 fp1 fp2)(hz:IsZip s.heap z TI TO .none)(hTI:IsPair s.heap TI (.ref i1) (.ref i2))(hTO:IsPair s.heap TO a b)(st1:St1 i s.heap)(st2:St2 i s.heap)(l1:i<n1)(l2:i<n2)(hQ:∀x y h' tk,P1 i x->P2 i y->IsZip h' z TI TO (rawInt s.heap.objs.size)->IsPair h' TO x y->St1 (i+1) h'->St2 (i+1) h'->IsPair h' s.heap.objs.size x y->h'.objs.size=s.heap.objs.size+1 ->
   (∀c o,c≠z->c≠TO->c≠i1->c≠i2->s.heap.get? c=some o->h'.get? c=some o)->Q (some (.ref s.heap.objs.size)) { s with heap:=h',toks:=tk }) :
  wpAny (model prog w) A (pyNext (.ref z)) Q E s:=by
 have j:s.TypeIs (.ref z) "zip":=⟨_,hz,rfl⟩;unfold pyNext;exact Ph (Tb (Ri (name:=Qt "__next__") j R4
  (Rk R4 j U0 (Zsw D1 D2 D hz hTI hTO st1 st2 l1 l2 λx y h' tk a1 a2 U I Y O Z F a9=>Pi (hQ x y h' tk a1 a2 U I Y O Z F a9)) (Ux _))))
theorem Zl5 (D1:Draws prog w A.in1 i1 fp1 n1 P1 St1)(D2:Draws prog w A.in1 i2 fp2 n2 P2 St2)(D:ZA z TI TO i1 i2 fp1 fp2)(hz:IsZip s.heap z TI TO .none)(hTI:IsPair s.heap TI (.ref i1) (.ref i2))(hTO:IsPair s.heap TO a b)(st1:St1 i s.heap)(st2:St2 i s.heap)(hend:i=n1\/(i<n1/\i=n2))(hQ:∀h' tk,(∀c o,c≠z->c≠TO->c≠i1->c≠i2->s.heap.get? c=some o->h'.get? c=some o)->Q none { s with heap:=h',toks:=tk }):wpAny (model prog w) A (pyNext (.ref z)) Q E s:=by
 have j:s.TypeIs (.ref z) "zip":=⟨_,hz,rfl⟩;unfold pyNext;refine Ph (Tb (Ri (name:=Qt "__next__") j R4
  (Rk R4 j U0 (Zjn D1 D2 D hz hTI hTO st1 st2 hend λh' e tk F O=>?_) (Ux _))))
 obtain⟨o,I,U⟩:=O;exact Ph (Wl (T:="StopIteration") (b:=true) ⟨o,I,U⟩ isSubtype_stop (Pi (hQ _ _ F)))
end
section
variable {prog:Program}{w:World}{A:Around}{E:Value->Shared->Prop}{s:Shared}
end
section
variable {X:Cx}{pins:List (Addr×Obj)}{σ:St}{H:Hp}{s:Shared}{h':Heap}
theorem Inv.turnedL {t':Nat}{fp:List Addr}(I:Inv X pins σ H s)(k:∀b o,b ∉ fp->s.heap.get? b=some o->h'.get? b=some o)(f:∀b∈fp,FpOk X pins H b):Inv X pins σ H { s with heap:=h',toks:=t' }:=by
 have O:∀b u,H b=some u->b ∉ fp:=λb u e F=>by rw[(f b F).1]at e;exact nomatch e
 refine I.step (g':=s.gens) (d':=s.drawn) (ch:=fp) (λb F=>?_) (λb o _ _ j e _=>k b o j e) (λb o _ _ j e _=>⟨o.slots,k b o j e⟩) (λ_ _ _ _ n=>n)
  (λb o j e=>⟨o,k b o j e⟩) (λ_ _ e=>e) (λ_ _ _ e=>e) (λb ps e=>⟨#[],by rw[e];simp⟩) (λm hm=>?_) (λb u e=>?_) I.bare
 ·obtain⟨n1,l1,_,Y,c1,p1⟩:=f b F;exact⟨Y,l1,c1,p1⟩
 ·obtain⟨o,es,Z,U,r⟩:=hm;exact⟨o,es,Z,k _ o (λF=>(f _ F).2.1 rfl) U,r⟩
 ·refine(I.hok b u e).stay (λc v j q=>k c v ?_ q) (λ_ q=>q) λ_ _ q=>q;rcases j with z|z
  ·rw[z];exact O b u e
  ·exact O c _ z
theorem Inv.pairL {tk:Nat}{fp:List Addr}{T:Addr}{xs:List V}{its:List Value}(I:Inv X pins σ H s)(f:∀b∈fp,FpOk X pins H b)
  (kk:∀b o,b ∉ fp->s.heap.get? b=some o->h'.get? b=some o) (hT:s.heap.objs.size<=T) (rv:Vals xs its) (hz:xs.length<=sizeLine) (ht:h'.IsTuple T its.toArray):Inv X pins σ (upd H T (.tup xs)) { s with heap:=h',toks:=tk }:=by
 have O:H T=none:=I.hok.fresh hT;have I1:Inv X pins σ H { s with heap:=h',toks:=tk }:=I.turnedL kk f;have j:HOk X.prog X.w (upd H T (.tup xs)) h':=λb o e=>by
  by_cases U:b=T
  ·subst U;rw[Ae]at e;cases e;exact⟨hz,its,rv,ht⟩
  ·rw[Ag U]at e;refine(I1.hok b o e).stay (λc v _ q=>q) (λc q=>?_) λc zs q=>?_
   ·rw[Ag (Cy q O)];exact q
   ·rw[Ag (Cy q O)];exact q
 have u:Un (Bz X.stack) fp H (upd H T (.tup xs)) s.heap h':={
  keep:=λb o e n _ F=>kk b o F e
  slot:=λb o e n _ F=>⟨o.slots,kk b o F e⟩
  free:=λb o e n _=>by rw[Ag (P0 (P9 (Pq e) hT))];exact n
  there:=λb o e F=>⟨o,kk b o F e⟩
  tups:=λb zs e=>by rw[Ag (Cy e O)];exact e
  frzs:=λb o u e=>by rw[Ag (Cy e O)];exact e
  tbls:=λb ps e=>⟨#[],by rw[Ag (Cy e O),e];simp⟩ }
 refine I.call (g':=s.gens) (d':=s.drawn) (t':=tk) u j I.bare λb U=>?_;obtain⟨n1,l1,_,Y,Z,p1⟩:=f b U;exact⟨Y,l1,Z,p1⟩
end
structure ZB (z TI TO i1 i2 a b:Addr):Prop where
 TIz:TI≠z
 TOz:TO≠z
 TITO:TI≠TO
 i1z:i1≠z
 i2z:i2≠z
 TI1:TI≠i1
 TI2:TI≠i2
 TO1:TO≠i1
 TO2:TO≠i2
 i12:i1≠i2
 az:a≠z
 aTO:a≠TO
 a1:a≠i1
 a2:a≠i2
 bz:b≠z
 bTO:b≠TO
 b1:b≠i1
 b2:b≠i2
theorem ZB.za {z TI TO i1 i2 a b:Addr}(D:ZB z TI TO i1 i2 a b):ZA z TI TO i1 i2 [i1,a] [i2,b] where
 TIz:=D.TIz
 TOz:=D.TOz
 TITO:=D.TITO
 z1:=by simp[D.i1z.symm,D.az.symm]
 z2:=by simp[D.i2z.symm,D.bz.symm]
 TI1:=D.TI1
 TI2:=D.TI2
 TO1:=by simp[D.TO1,D.aTO.symm]
 TO2:=by simp[D.TO2,D.bTO.symm]
 m1:=by simp
 m2:=by simp
 n1:=by simp[D.i12,D.b1.symm]
 n2:=by simp[D.i12.symm,D.a2.symm]
theorem Zke (h1:a<n)(h2:b<n):ZB (n+4) (n+2) (n+3) n (n+1) a b:=by
 have f:∀i j:Nat,i≠j->n+i≠n+j:=λi j h e=>h (Nat.add_left_cancel e);have g:∀i:Nat,a≠n+i:=λi e=>absurd h1 (by rw[e];exact Nat.not_lt.mpr (Vc _ _));have F:∀i:Nat,b≠n+i:=λi e=>absurd h2 (by rw[e];exact Nat.not_lt.mpr (Vc _ _));exact⟨f 2 4 (by decide),f 3 4 (by decide),f 2 3 (by decide),f 0 4 (by decide),f 1 4 (by decide),f 2 0 (by decide),f 2 1 (by decide),f 3 0 (by decide),f 3 1 (by decide),f 0 1 (by decide),g 4,g 3,g 0,g 1,F 4,F 3,F 0,F 1⟩
section
variable {X:Cx}
end
theorem Zq5 {prog:Program}{w:World}{A:Around}{E:Value->Shared->Prop}{s:Shared}{t sl:Addr}{items:Array Value}{vl vu:Value}{lo hi:Option Int}{Q:Value->Shared->Prop}(ht:IsTup s.heap t items)(hs:s.heap.IsSliceOf sl vl vu .none)(pl:IsPart vl lo)(pu:IsPart vu hi)
  (hw:HT.sIx items.size 0 lo=0/\HT.sIx items.size items.size hi=items.size) (h:Q (.ref t) s):wpAny (model prog w) A (getItem (.ref t) (.ref sl)) Q E s:=by
 obtain⟨os,F,O,U⟩:=id hs;have I:s.TypeIs (.ref sl) "slice":=⟨os,F,O⟩;unfold getItem
 try with_reducible refine Q5 ?_
 first|refine Ph (Pi ?_)|skip
 refine Ph (wpAny_sequenceKey ht.typeIs (by decide) ?_);refine Ph (Ri (name:=Qt "__getitem__") ht.typeIs Sq
  (Rk Sq ht.typeIs PyProof.Rows.entry_tuple_getitem ?_ (PyProof.Rows.args_tuple_getitem _ _)))
 show wpAny _ _ (Builtin.Tuple.tupleItemsOf (.ref t) >>= _) _ _ s;refine Ph (PyProof.Rows.tupleItemsOf_ ht ?_);refine Ph (Tg I ?_);rw[if_pos (by decide)];refine Ph (HT.sliceApplied_gen hs pl pu ?_);have j:(((HT.sIx items.size 0 lo:Nat):Int) == 0 && (1:Int) == 1 && (HT.sIx items.size items.size hi-HT.sIx items.size 0 lo) == items.size)=true:=by
  rw[hw.1,hw.2];simp
 show wpAny _ _ (if (((HT.sIx items.size 0 lo:Nat):Int) == 0 && (1:Int) == 1 && (HT.sIx items.size items.size hi-HT.sIx items.size 0 lo) == items.size)=true then _ else _) _ _ s;rw[if_pos j];refine Ph (m:=Builtin.Tuple.tupleIsExact (.ref t)) ?_;unfold Builtin.Tuple.tupleIsExact;refine Ph (Tg ht.typeIs (Pi ?_));rw[if_pos (by decide)];refine Ph (Tj ?_);exact Pi ⟨_,rfl,Pi h⟩
def rSlU (K:Pg):V->Option Int->Option Int->Hp->VK->Prop:=λx lo hi H Q=>∃a xs,x=.ref a/\SqT K H a xs/\∀r H',Same H H'->SqT K H' r (B8 xs lo hi)->Q (.ref r) H'
theorem Zpn:SlR X (rSlU X.K):=by
 intro pins s σ H x v vl vu lo hi sl Q I Z hs pl pu h;obtain⟨a,xs,rfl,O,q⟩:=h;by_cases F:HT.sIx xs.length 0 lo=0/\HT.sIx xs.length xs.length hi=xs.length
 ·cases Z;obtain⟨U,r,Y,hz⟩:=I.tuple O;have j:U.toArray.size=xs.length:=by rw[Pl];exact r.length.symm
  refine⟨"tuple",_,Sq.lookup,Y.typeIs,?_⟩;refine Zq5 Y hs pl pu (by rw[j];exact F) ⟨.ref a,H,I,rfl,q a H (Same.refl H) ?_⟩;have e:B8 xs lo hi=xs:=by unfold B8;rw[F.1,F.2];simp
  rw[e];exact O
 ·exact Zdu pins s σ H _ v vl vu lo hi sl Q I Z hs pl pu ⟨a,xs,rfl,O,F,λp hp=>q p _ (Same.upd hp) (.of Ae)⟩
def rSlB (K:Pg):V->Option Int->Option Int->Hp->VK->Prop:=λx lo hi H Q=>Zbz K x lo hi H Q\/Pe x lo hi H Q\/rSlU K x lo hi H Q
theorem Zd0 (K:Pg)(hK:autoParam (X.K=K) zX):SlR X (rSlB K):=by subst hK;exact sl_list.or (sl_str.or Zpn)
theorem Zfa {K:Pg}{a:Addr}{xs:List V}{lo hi:Option Int}{H:Hp}{Q:VK}(ha:SqT K H a xs)(h:∀r H',Same H H'->SqT K H' r (B8 xs lo hi)->Q (.ref r) H'):rSlB K (.ref a) lo hi H Q:=.inr (.inr ⟨a,xs,rfl,ha,h⟩)
theorem Zjb (xs:List V)(k:Nat):B8 xs none (some (k:Int))=xs.take k:=by
 unfold B8;rw[HT.sIx_none,HT.sIx_nat,Ui,List.drop_zero];by_cases h:k<=xs.length
 ·rw[Ud h]
 ·rw[Vd (by lia),Q9 (Pj _),Q9 (by lia)]
theorem O8 (xs:List V)(k:Nat):B8 xs (some (k:Int)) none=xs.drop k:=by
 unfold B8;rw[HT.sIx_none,HT.sIx_nat];by_cases h:k<=xs.length
 ·rw[Ud h,Q9 (by simp)]
 ·rw[Vd (by lia),Rr (Pj _),Rr (by lia)];simp
theorem Zoc (xs:List V)(j k:Nat):B8 xs (some (j:Int)) (some (k:Int))=(xs.drop j).take (k-j):=by
 unfold B8;rw[HT.sIx_nat,HT.sIx_nat];by_cases F:j<=xs.length
 ·rw[Ud F];by_cases I:k<=xs.length
  ·rw[Ud I]
  ·rw[Vd (by lia),Q9 (by simp),Q9 (by simp;lia)]
 ·rw[Vd (Uh (Nat.lt_of_not_le F)),Rr (Pj _),Rr (by lia)];simp
structure Mvd (fs xs:List Addr)(h h':Heap):Prop where
 keep:∀b o,b ∉ xs->b ∉ fs->h.get? b=some o->h'.get? b=some o
 slot:∀b o,b ∉ xs->h.get? b=some o->∃sl,h'.get? b=some { o with slots:=sl }
theorem Mvd.trans (a:Mvd fs xs h h1)(b:Mvd fs xs h1 h2):Mvd fs xs h h2 :=
 ⟨λc o n1 n2 e=>b.keep c o n1 n2 (a.keep c o n1 n2 e),λc o n e=>by
  obtain⟨O,I⟩:=a.slot c o n e;obtain⟨j,F⟩:=b.slot c _ n I;exact⟨j,F⟩⟩
theorem Mvd.mono (a:Mvd fs xs h h1)(s:∀b∈xs,b∈ys):Mvd fs ys h h1 :=
 ⟨λc o n1 n2 e=>a.keep c o (λz=>n1 (s c z)) n2 e,λc o n e=>a.slot c o (λz=>n (s c z)) e⟩
theorem Mvd.upd (f:Obj->Obj):Mvd fs [a] h (h.update a f) :=
 ⟨λc o n _ e=>by rw[Q8 _ _ (λz=>n (by simp[z]))];exact e,λc o n e=>⟨o.slots,by rw[Q8 _ _ (λz=>n (by simp[z]))];exact e⟩⟩
theorem Mvd.push (o:Obj):Mvd fs xs h (h.push o):=⟨λ_ _ _ _ e=>Pm _ e,λ_ o _ e=>⟨o.slots,Pm _ e⟩⟩
theorem Mvd.fun (a:Mvd fs xs h h1)(hl:h.FunFrames base l)(nx:∀b∈xs,∃o vs,h.get? b=some o/\o.data=.fields vs):h1.FunFrames base l :=
 hl.of_keeps λb o e hd=>by
  obtain⟨O,F⟩:=a.slot b o (λz=>by
   obtain⟨o',vs,j,I⟩:=nx b z;rw[e]at j;cases j;exact hd vs I) e
  exact⟨_,F,rfl⟩
def K5 (h:Heap)(e T:Addr)(cls:Value)(od:Option Addr)(fl:Value):Prop :=
 eX4 λoe vs oT ts=>h.get? e=some oe/\oe.cls=cls/\oe.dict=od/\oe.data=.fields vs/\vs[1]?=some (.ref T)/\T≠e/\h.get? T=some oT/\oT.data=.fields ts/\ts[3]?=some fl/\vs[2]?=some .none
noncomputable abbrev G7 (h:Heap)(e T:Addr)(cls:Value)(od:Option Addr):Prop:=K5 h e T cls od .none
def Oe (h:Heap)(e:Addr)(cls:Value)(od:Option Addr):Prop:=∃oe vs,h.get? e=some oe/\oe.cls=cls/\oe.dict=od/\oe.data=.fields vs/\vs[1]?=some .none/\vs[2]?=some .none
section
variable {M:Model}{A:Around}{E:Value->Shared->Prop}{s:Shared}
theorem Ze1 (hfr:A.frames=some (env::outer))(hl:s.heap.FunFrames base (env::outer))(hf:env.frame=some L)(he:s.heap.get? e=some oe)(hd:oe.data=.fields vs)(hsz:1<vs.size)(hct:vs[2]?=some .none)(h:∀h' T,s.heap.objs.size<=T->K5 h' e T oe.cls oe.dict (rawInt L)->Mvd (Bz (env::outer)) [e] s.heap h'->Q () { s with heap:=h' }) :
  wpAny M A (do let a <- frameOf env;let pl <- entryPlaceOf L hadNext;let b <- EntryCells.newEntry head a .none (rawInt L) .none pl;setField (.ref e) 1 b) Q E s:=by
 have F:e ∉ Bz (env::outer):=λhm=>by
  obtain⟨_,o,Z,Y⟩:=hl.mem hm;rw[he]at Z;cases Z;exact Y vs hd
 refine Ph (wpAny_frameOf_fun hfr hl hf λj U=>?_);refine Ph (wpAny_entryPlaceOf λpl I=>?_);unfold EntryCells.newEntry newFields;refine Ph (R5 ?_ (I.sizeOk5 _ _ _ _ _));have e1:j.get? e=some oe:=(U.2.1 e F).trans he;generalize hoT:({ cls:=.type "traceback",dict:=none,data:=.fields ([head,.ref L,.none,rawInt L,.none]++(if pl.isEmpty then Qr 6 Value.none else pl)).toArray }:Obj)=O;have e2:(j.push O).get? e=some oe:=Pm _ e1;refine Ue e2 hd hsz (h _ j.objs.size (by rw[U.1];exact Pj _) ?_ ?_)
 ·have nT:j.objs.size≠e:=Q1 (Pq e1);have d3:=U4 hd (·.setIfInBounds 1 (Value.ref j.objs.size));have e3:=R3 (Tc (·.setIfInBounds 1 (Value.ref j.objs.size))) e2 (V8 d3);have fT:O.isFreed=false:=by rw[<- hoT];rfl
  have e4:=(Q8 (j.push O) (Tc (·.setIfInBounds 1 (Value.ref j.objs.size))) (Ps nT)).trans (P3 j fT);refine⟨_,_,_,_,e3,Obj.cls_mapFields _ _,?_,d3,by simp[hsz],nT,e4,by rw[<- hoT],?_⟩
  ·obtain⟨c0,d0,t0,s0⟩:=oe;cases t0 <;> rfl
  ·refine⟨?_,by rw[Array.getElem?_setIfInBounds_ne (by decide)];exact hct⟩
   first|(simp;done)|(rcases I with rfl|⟨_,_,_,_,_,_,_,rfl⟩ <;> simp)
 ·have m1:Mvd (Bz (env::outer)) [e] s.heap j:=⟨λb o _ n e=>(U.2.1 b n).trans e,λb o _ e=>U.2.2 b o e⟩;exact(m1.trans (Mvd.push O)).trans (Mvd.upd _)
theorem Mo (x:K5 s.heap e T cls od fl)(h:∀h',G7 h' e T cls od->Mvd fs [T] s.heap h'->Q () { s with heap:=h' }):wpAny M A (setFlight (.ref e) none) Q E s:=by
 obtain⟨oe,vs,oT,ts,a1,a2,a3,F,O,I,U,j,Y⟩:=x;have Z:3<ts.size:=(Up.mp Y.1).1;unfold setFlight;refine Ph (Pz a1 F O ?_);rw[if_pos (show(Value.ref T != Value.none)=true from by simp)];refine Ue U j Z (h _ ?_ (Mvd.upd _));have d:=U4 j (·.setIfInBounds 3 ((none:Option Addr).elim Value.none λf=>rawInt f));exact⟨oe,vs,_,_,by rw[Q8 _ _ I];exact a1,a2,a3,F,O,I,R3 _ U (V8 d),d,by simp[Z],Y.2⟩
theorem Zt6 (hfr:A.frames=some (env::outer))(hl:s.heap.FunFrames base (env::outer))(hf:env.frame=some L)(x:Oe s.heap e cls od)(h:∀h' T,s.heap.objs.size<=T->K5 h' e T cls od (rawInt L)->Mvd (Bz (env::outer)) [e] s.heap h'->Q () { s with heap:=h' }):wpAny M A (noteFrame (.ref e) env) Q E s:=by
 obtain⟨I,vs,F,rfl,rfl,hd,h1,j⟩:=x;unfold noteFrame;simp only[hf];refine Ph (Pz F hd h1 ?_);rw[if_neg (by decide)];exact Ze1 hfr hl hf F hd (Up.mp h1).1 j h
theorem Zd1 (hfr:A.frames=some (env::outer))(hl:s.heap.FunFrames base (env::outer))(hf:env.frame=some L)(x:G7 s.heap e T cls od)(h:∀h' T',s.heap.objs.size<=T'->K5 h' e T' cls od (rawInt L)->Mvd (Bz (env::outer)) [e,T] s.heap h'->Q () { s with heap:=h' }):wpAny M A (noteFrame (.ref e) env) Q E s:=by
 obtain⟨oe,vs,oT,ts,U,rfl,rfl,hd,h1,nT,F,dT,O,I⟩:=x;unfold noteFrame;simp only[hf];refine Ph (Pz U hd h1 ?_);rw[if_pos (show(Value.ref T != Value.none)=true from by simp)];refine Ph (Pz F dT O ?_);rw[if_neg (show ¬((Value.none == rawInt L)=true) from by simp[rawInt])];refine Ph (Ue F dT (Up.mp O).1 ?_);have m1:Mvd (Bz (env::outer)) [T] s.heap (s.heap.update T (Tc (·.setIfInBounds 3 Value.none))):=Mvd.upd _;have j:(s.heap.update T (Tc (·.setIfInBounds 3 Value.none))).get? e=some oe:=(Q8 _ _ nT).trans U;refine Ze1 hfr (m1.fun hl λb Z=>by rw[Qw.mp Z];exact⟨oT,ts,F,dT⟩) hf j hd (Up.mp h1).1 I λh' T' Y x m=>?_;refine h h' T' ?_ x ((m1.mono (by simp)).trans (m.mono (by simp)));have:(s.heap.update T (Tc (·.setIfInBounds 3 Value.none))).objs.size=s.heap.objs.size:=Heap.size_after_update ..;have Y:(s.heap.update T (Tc (·.setIfInBounds 3 Value.none))).objs.size<=T':=Y;lia
theorem Zmo (hfr:A.frames=some (env::outer))(hl:s.heap.FunFrames base (env::outer))(hf:env.frame=some L)(x:Oe s.heap e cls od)(h:∀h' T,s.heap.objs.size<=T->G7 h' e T cls od->Mvd (Bz (env::outer)) [e,T] s.heap h'->Q () { s with heap:=h' }):wpAny M A (leaving env (.ref e)) Q E s:=by
 unfold leaving;refine Ph (Zt6 hfr hl hf x λh1 T j y m=>?_);refine Mo (fs:=Bz (env::outer)) y λh2 y2 m2=>h h2 T j y2 ((m.mono (by simp)).trans (m2.mono (by simp)))
theorem Zk4 (hfr:A.frames=some (env::outer))(hl:s.heap.FunFrames base (env::outer))(hf:env.frame=some L)(x:G7 s.heap e T cls od)(h:∀h' T',s.heap.objs.size<=T'->G7 h' e T' cls od->Mvd (Bz (env::outer)) [e,T,T'] s.heap h'->Q () { s with heap:=h' }):wpAny M A (leaving env (.ref e)) Q E s:=by
 unfold leaving;refine Ph (Zd1 hfr hl hf x λh1 T' j y m=>?_);refine Mo (fs:=Bz (env::outer)) y λh2 y2 m2=>h h2 T' j y2 ((m.mono (by simp)).trans (m2.mono (by simp)))
end
theorem Zbt {X:Cx}{st:Stmt}:QS X st (λ_ _ _=>False):=⟨λ_ _ _ _ _ _ h=>h.elim⟩
def Jx (h:Heap)(z TI TO i1 i2:Addr):Prop:=eX3 λ(a:Addr)(oa:Obj)(f1:Value)=>h.get? z=some { cls:=.type "zip",dict:=none,data:=.fields #[rawInt a,f1,.bool false,.ref TI,.ref TO],slots:=#[] }/\h.get? a=some oa/\a≠z/\a≠i1/\a≠i2
section
variable {prog:Program}{w:World}{A:Around}{E:Value->Shared->Prop}{s:Shared}{z TI TO i1 i2:Addr}{fp1 fp2:List Addr}{n1 n2 i:Nat}{P1 P2:Nat->Value->Prop}{St1 St2:Nat->Heap->Prop}{a b:Value}
theorem Zf3 (hz:Jx s.heap z TI TO i1 i2)(h:∀h',Jx h' z TI TO i1 i2->P4 z s.heap h'->Q false { s with heap:=h' }):wpAny (model prog w) A (Rh (.ref z)) Q E s:=by
 obtain⟨a,I,Y,e,U,O,n1,n2⟩:=hz;unfold Rh;refine Ph (Pz e rfl (x:=rawInt a) rfl ?_);show wpAny _ _ (loadIfAlive ((a:Int).toNat) >>= _) _ _ s;refine Ph (Zii ?_);rw[Q3,U];rw[if_neg (by simp)];refine Ph (Pz e rfl (x:=Y) rfl ?_);by_cases Z:(Y != Value.bool true)=true
 ·simp only[Z,if_true];refine Ph (Rj e (by simp) λj e5 F=>?_);replace F:P4 z s.heap j:=F;exact Pi (h j ⟨a,I,.bool true,e5,F.extBut a I O U,O,n1,n2⟩ F)
 ·simp only[Z];exact Pi (h s.heap ⟨a,I,Y,e,U,O,n1,n2⟩ (P4.refl ..))
theorem Zsd {Q:Value->Shared->Prop}(D1:Draws prog w A i1 fp1 n1 P1 St1)(D2:Draws prog w A i2 fp2 n2 P2 St2)(D:ZA z TI TO i1 i2 fp1 fp2)(hz:Jx s.heap z TI TO i1 i2)(hTI:IsPair s.heap TI (.ref i1) (.ref i2))
  (st1:St1 i s.heap) (st2:St2 i s.heap) (l1:i<n1) (l2:i<n2)
  (hQ:∀x y h' tk,P1 i x->P2 i y->Jx h' z TI TO i1 i2->St1 (i+1) h'->St2 (i+1) h'->IsPair h' s.heap.objs.size x y->h'.objs.size=s.heap.objs.size+1 ->
   (∀c o,c≠z->c≠i1->c≠i2->s.heap.get? c=some o->h'.get? c=some o)->Q (.ref s.heap.objs.size) { s with heap:=h',toks:=tk }) :
  wpAny (model prog w) A (Builtin.«zip.__next__» ⟨[.ref z],[]⟩) (λfin s'=>∃v,fin=.done (.ret v)/\Q v s') E s:=by
 obtain⟨a0,ah,ag,e0,_⟩:=id hz;show wpAny _ _ (field (.ref z) 2 >>= _) _ _ s;refine Ph (Pz e0 rfl (x:=Value.bool false) rfl ?_);show wpAny _ _ (field (.ref z) 3 >>= _) _ _ s;refine Ph (Pz e0 rfl (x:=Value.ref TI) rfl (Ph (Rc hTI rfl ?_)));show wpAny _ _ (Rh (.ref z) >>= _) _ _ s;refine Ph (Zf3 hz λZ O e1=>?_);simp only[T4,if_false];refine Ph ?_;simp only[List.forIn_toArray,Ua,Vm];refine Ph (Ph (Q5 ?_));show wpAny _ _ (Q2 (.ref i1) >>= _) _ _ _;refine Ph (D1.item i _ _ _ l1 (C5 D1 st1 e1 D.z1) λx F aa px ad U=>Pi (Pi ?_));replace U:P4 i1 Z F:=U;refine Ph (Ph (Q5 ?_));show wpAny _ _ (Q2 (.ref i2) >>= _) _ _ _;have ac:St2 i F:=C5 D2 (C5 D2 st2 e1 D.z2) U D.n1;refine Ph (D2.item i _ _ _ l2 ac λy j I py af Y=>Pi (Pi (Pi ?_)));replace Y:P4 i2 F j:=Y;show wpAny _ _ (newTuple [x,y] >>= _) _ _ _;refine Ph (wpAny_newTuple (Pi ⟨_,rfl,?_⟩));have sz:j.objs.size=s.heap.objs.size:=by rw[Y.1,U.1,e1.1]
 show Q (.ref j.objs.size) { s with heap:=j.push { cls:=.type "tuple",data:=.seq #[x,y] },toks:=I };have up:∀c o,j.get? c=some o->(j.push { cls:=.type "tuple",data:=.seq #[x,y] }).get? c=some o:=λc o e=>Pm _ e;have k4:∀c o,c≠z->c≠i1->c≠i2->s.heap.get? c=some o->j.get? c=some o:=λc o c1 c3 c4 e=>Y.extBut _ _ c4 (U.extBut _ _ c3 (e1.extBut _ _ c1 e));have t8:IsPair (j.push { cls:=.type "tuple",data:=.seq #[x,y] }) j.objs.size x y:=P3 _ rfl;rw[sz]at t8;rw[sz];obtain⟨a1,ae,f1,g1,g2,g3,g4,g5⟩:=O;refine hQ x y _ I px py ⟨a1,ae,f1,up _ _ (Y.extBut _ _ D.i2z.symm (U.extBut _ _ D.i1z.symm g1)),up _ _ (Y.extBut _ _ g5 (U.extBut _ _ g4 g2)),g3,g4,g5⟩ ?_ ?_ t8 (by rw[Qq,sz]) λc o c1 c3 c4 e=>up c o (k4 c o c1 c3 c4 e)
 ·exact D1.frame _ _ _ (C5 D1 ad Y D.n2) λc _ o e=>up c o e
 ·exact D2.frame _ _ _ af λc _ o e=>up c o e
theorem Zlb (D1:Draws prog w A i1 fp1 n1 P1 St1)(D2:Draws prog w A i2 fp2 n2 P2 St2)(D:ZA z TI TO i1 i2 fp1 fp2)(hz:Jx s.heap z TI TO i1 i2)(hTI:IsPair s.heap TI (.ref i1) (.ref i2))(st1:St1 i s.heap)(st2:St2 i s.heap)(hend:i=n1\/(i<n1/\i=n2))(hE:∀h' e tk,(∀c o,c≠z->c≠i1->c≠i2->s.heap.get? c=some o->h'.get? c=some o)->(∃o,h'.get? e=some o/\o.cls=.type "StopIteration")->E (.ref e) { s with heap:=h',toks:=tk }) :
  wpAny (model prog w) A (Builtin.«zip.__next__» ⟨[.ref z],[]⟩) Q E s:=by
 obtain⟨a0,ac,ae,e0,_⟩:=id hz;show wpAny _ _ (field (.ref z) 2 >>= _) _ _ s;refine Ph (Pz e0 rfl (x:=Value.bool false) rfl ?_);show wpAny _ _ (field (.ref z) 3 >>= _) _ _ s;refine Ph (Pz e0 rfl (x:=Value.ref TI) rfl (Ph (Rc hTI rfl ?_)));show wpAny _ _ (Rh (.ref z) >>= _) _ _ s;refine Ph (Zf3 hz λO Z Y=>?_);simp only[T4,if_false];refine Ph ?_;simp only[List.forIn_toArray,Ua,Vm];refine Ph (Ph (Q5 ?_));show wpAny _ _ (Q2 (.ref i1) >>= _) _ _ _;rcases hend with rfl|⟨l1,rfl⟩
 ·refine Ph (D1.done _ _ _ (C5 D1 st1 Y D.z1) λj e I he=>?_);replace I:Ti i1 O j:=I;exact hE j e s.toks (λc o c1 c3 _ x=>I _ _ c3 (Y.extBut _ _ c1 x)) he
 ·refine Ph (D1.item i _ _ _ l1 (C5 D1 st1 Y D.z1) λx j U px ad I=>Pi (Pi ?_));replace I:P4 i1 O j:=I;refine Ph (Ph (Q5 ?_));show wpAny _ _ (Q2 (.ref i2) >>= _) _ _ _;have aa:St2 i j:=C5 D2 (C5 D2 st2 Y D.z2) I D.n1;refine Ph (D2.done _ _ _ aa λF e e4 he=>?_);replace e4:Ti i2 j F:=e4;exact hE F e U (λc o c1 c3 c4 x=>e4 _ _ c4 (I.extBut _ _ c3 (Y.extBut _ _ c1 x))) he
def ZpSt (h:Heap)(z TI TO i1 i2:Addr)(i:Nat):Prop:=(i=0/\IsZip h z TI TO .none/\∃u v,IsPair h TO u v)\/(0<i/\Jx h z TI TO i1 i2)
theorem ZpSt.obj (x:ZpSt h z TI TO i1 i2 i):∃vs,h.get? z=some { cls:=.type "zip",dict:=none,data:=.fields vs,slots:=#[] }:=by
 rcases x with⟨_,x,_⟩|⟨_,_,_,_,x,_⟩
 ·exact⟨_,x⟩
 ·exact⟨_,x⟩
theorem Zty (D1:Draws prog w A.in1 i1 fp1 n1 P1 St1)(D2:Draws prog w A.in1 i2 fp2 n2 P2 St2)(D:ZA z TI TO i1 i2 fp1 fp2)(hz:ZpSt s.heap z TI TO i1 i2 i)(hTI:IsPair s.heap TI (.ref i1) (.ref i2))(eTO:∃o,s.heap.get? TO=some o)(st1:St1 i s.heap)(st2:St2 i s.heap)(l1:i<n1)(l2:i<n2)(hQ:∀x y h' tk,P1 i x->P2 i y->ZpSt h' z TI TO i1 i2 (i+1)->(∃o,h'.get? TO=some o)->St1 (i+1) h'->St2 (i+1) h'->IsPair h' s.heap.objs.size x y->h'.objs.size=s.heap.objs.size+1 ->
   (∀c o,c≠z->c≠TO->c≠i1->c≠i2->s.heap.get? c=some o->h'.get? c=some o)->Q (some (.ref s.heap.objs.size)) { s with heap:=h',toks:=tk }) :
  wpAny (model prog w) A (pyNext (.ref z)) Q E s:=by
 obtain⟨vs,ho⟩:=hz.obj;have hT:s.TypeIs (.ref z) "zip":=⟨_,ho,rfl⟩;have zl:z<s.heap.objs.size:=Pq ho;have O:i1<s.heap.objs.size:=by obtain⟨_,y⟩:=D1.live _ _ st1;exact Pq y
 have U:i2<s.heap.objs.size:=by obtain⟨_,y⟩:=D2.live _ _ st2;exact Pq y
 rcases hz with⟨rfl,hz,u,v,aa⟩|⟨hi,hz⟩
 ·exact Zui D1 D2 D hz hTI aa st1 st2 l1 l2 λx y h' tk a1 a2 Z Y a5 I F j a9=>hQ x y h' tk a1 a2 (.inr ⟨Vw _,_,_,_,Z,F,Q1 zl,Q1 O,Q1 U⟩) ⟨_,Y⟩ a5 I F j a9
 ·unfold pyNext;exact Ph (Tb (Ri (name:=Qt "__next__") hT R4
   (Rk R4 hT U0 (Zsd D1 D2 D hz hTI st1 st2 l1 l2 λx y h' tk a1 a2 Z Y a5 I F j=>Pi (hQ x y h' tk a1 a2 (.inr ⟨Vw _,Z⟩) (let ⟨o,e⟩:=eTO;⟨o,j _ o D.TOz D.TOi1 D.TOi2 e⟩) Y a5 I F λc o c1 _ c3 c4 e=>j c o c1 c3 c4 e)) (Ux _))))
theorem Zru (D1:Draws prog w A.in1 i1 fp1 n1 P1 St1)(D2:Draws prog w A.in1 i2 fp2 n2 P2 St2)(D:ZA z TI TO i1 i2 fp1 fp2)(hz:ZpSt s.heap z TI TO i1 i2 i)(hTI:IsPair s.heap TI (.ref i1) (.ref i2))(st1:St1 i s.heap)(st2:St2 i s.heap)(hend:i=n1\/(i<n1/\i=n2))(hQ:∀h' tk,(∀c o,c≠z->c≠TO->c≠i1->c≠i2->s.heap.get? c=some o->h'.get? c=some o)->Q none { s with heap:=h',toks:=tk }):wpAny (model prog w) A (pyNext (.ref z)) Q E s:=by
 obtain⟨vs,j⟩:=hz.obj;have I:s.TypeIs (.ref z) "zip":=⟨_,j,rfl⟩;rcases hz with⟨rfl,hz,u,v,F⟩|⟨hi,hz⟩
 ·exact Zl5 D1 D2 D hz hTI F st1 st2 hend hQ
 ·unfold pyNext;refine Ph (Tb (Ri (name:=Qt "__next__") I R4
   (Rk R4 I U0 (Zlb D1 D2 D hz hTI st1 st2 hend λh' e tk U he=>?_) (Ux _))))
  obtain⟨o,j,hc⟩:=he;exact Ph (Wl (T:="StopIteration") (b:=true) ⟨o,j,hc⟩ isSubtype_stop (Pi (hQ _ _ λc o O _ Y Z e=>U c o O Y Z e)))
end
noncomputable abbrev itZ (b:Bool)(l:Addr):Obj:={ cls:=.type (cond b "tuple_iterator" "list_iterator"),data:=.fields #[.ref l,.int 0 0] }
def ZIt (b:Bool)(h:Heap)(a l:Addr)(i:Nat):Prop:=∃o,h.get? a=some o/\o.cls=.type (cond b "tuple_iterator" "list_iterator")/\o.data=.fields #[.ref l,.int i 0]
theorem ZIt.at (x:ZIt b h a l i)(k:∀o,h.get? a=some o->h'.get? a=some o):ZIt b h' a l i:=let ⟨o,e,r⟩:=x;⟨o,k o e,r⟩
def ZIn (b:Bool)(h:Heap)(a:Addr)(xs:Array Value):Prop:=cond b (h.IsTuple a xs) (h.IsList a xs)
def Gr (b:Bool)(K:Pg)(H:Hp)(a:Addr)(xs:List V):Prop:=cond b (SqT K H a xs) (SqL K H a xs)
theorem ZIn.lt (x:ZIn b h a xs):a<h.objs.size:=by
 cases b <;> exact let ⟨_,e,_⟩:=id x;Pq e
theorem ZIn.push (x:ZIn b h a xs)(o:Obj):ZIn b (h.push o) a xs:=by
 cases b
 ·exact Heap.IsList.push x _
 ·obtain⟨o,e,r⟩:=id x;exact⟨o,Pm _ e,r⟩
theorem Same.sqZ {b:Bool}{K:Pg}{H H':Hp}{a:Addr}{xs:List V}(m:Same H H')(x:Gr b K H a xs):Gr b K H' a xs:=by
 cases b
 ·exact m.seq x
 ·exact m.tup x
theorem Inv.zin (I:Inv X pins σ H s)(x:Gr b X.K H a xs):∃its,Vals xs its/\ZIn b s.heap a its.toArray:=by
 cases b
 ·obtain⟨its,j,pl,F⟩:=I.list x;exact⟨its,j,pl.isList⟩
 ·obtain⟨its,j,pl,F⟩:=I.tuple x;exact⟨its,j,pl⟩
theorem Inv.zsz (I:Inv X pins σ H s)(x:Gr b X.K H a xs):xs.length<=sizeLine:=by
 cases b
 ·obtain⟨F,j,pl,O⟩:=I.list x;have:=j.length;lia
 ·obtain⟨F,j,pl,O⟩:=I.tuple x;have:=j.length;lia
theorem Mz (b:Bool)(hh:A.handled=none)(it l:Addr)(hne:l≠it)(items:Array Value) :
  Draws prog w A it [it,l] items.size (λi v=>items[i]?=some v) (λi h=>ZIt b h it l i/\ZIn b h l items):=by
 cases b
 ·exact Draws.list hh it l hne items
 ·exact Zcu hh it l hne items
theorem Zgl (q:ZIn b s.heap a xs)(h:Q (.ref s.heap.objs.size) { s with heap:=s.heap.push (itZ b a) }):wpAny (model prog w) A (pyIter (.ref a)) Q E s:=by
 cases b
 ·exact U8 q h
 ·exact T3 q h
noncomputable abbrev zl1 (b:Bool)(h:Heap)(l1:Addr):Heap:=h.push (itZ b l1)
noncomputable abbrev zl2 (b gg:Bool)(h:Heap)(l1 l2:Addr):Heap:=(zl1 b h l1).push (itZ gg l2)
noncomputable abbrev zl3 (b gg:Bool)(h:Heap)(l1 l2:Addr):Heap:=(zl2 b gg h l1 l2).push { cls:=.type "tuple",data:=.seq #[.ref h.objs.size,.ref (zl1 b h l1).objs.size] }
noncomputable abbrev zl4 (b gg:Bool)(h:Heap)(l1 l2:Addr):Heap:=(zl3 b gg h l1 l2).push { cls:=.type "tuple",data:=.seq #[.none,.none] }
noncomputable abbrev Hl (b gg:Bool)(h:Heap)(l1 l2:Addr):Heap:=(zl4 b gg h l1 l2).push { cls:=.type "zip",data:=.fields #[.none,.bool false,.bool false,.ref (zl2 b gg h l1 l2).objs.size,.ref (zl3 b gg h l1 l2).objs.size] }
theorem Zur (b gg:Bool)(l1 l2:Addr)(xs ys:Array Value) :
  Meets (Builtin.«zip.__new__» ⟨[.type "zip",.ref l1,.ref l2],[]⟩) (λ_ R s=>ZIn b s.heap l1 xs/\ZIn gg s.heap l2 ys/\R (.ok (.ret (.ref (zl4 b gg s.heap l1 l2).objs.size))) { s with heap:=Hl b gg s.heap l1 l2 }) :=
 .of_wp λprog w A R s h=>by
  obtain⟨hp,g,d,tk,os⟩:=s;obtain⟨j,F,h⟩:=h;have I:=sub_zip;have O:ZIn b (Shared.heap ⟨hp,g,d,tk,os⟩) l1 xs:=j;have U:ZIn gg (Shared.heap ⟨hp.push (itZ b l1),g,d,tk,os⟩) l2 ys:=F.push _
  wp_walk using Zgl O,Zgl U
  exact⟨_,rfl,h⟩
theorem Zje (hl1:ZIn b s.heap l1 xs)(hl2:ZIn gg s.heap l2 ys)(h:∀h',IsZip h' (s.heap.objs.size+4) (s.heap.objs.size+2) (s.heap.objs.size+3) .none->IsPair h' (s.heap.objs.size+2) (.ref s.heap.objs.size) (.ref (s.heap.objs.size+1)) ->
   IsPair h' (s.heap.objs.size+3) .none .none->ZIt b h' s.heap.objs.size l1 0->ZIt gg h' (s.heap.objs.size+1) l2 0->h'.objs.size=s.heap.objs.size+5 ->
   (∀c o,s.heap.get? c=some o->h'.get? c=some o)->Q (.ref (s.heap.objs.size+4)) { s with heap:=h' }) :
  wpAny (model prog w) A (call (.type "zip") [.ref l1,.ref l2]) Q E s:=by
 refine callType_new PySem.F.called_zip (by decide) (PySem.F.typeCall_zip_2 _ _) (PySem.F.newCall_zip_2 _ _) (λobj=>PySem.F.args_object_init_3 obj _ _) PySem.F.entry_zip_new (Zur b gg l1 l2 xs ys) ⟨hl1,hl2,?_⟩;have y1:(zl1 b s.heap l1).objs.size=s.heap.objs.size+1:=Qq ..;have y2:(zl2 b gg s.heap l1 l2).objs.size=s.heap.objs.size+2:=by rw[Qq,y1]
 have y3:(zl3 b gg s.heap l1 l2).objs.size=s.heap.objs.size+3:=by rw[Qq,y2]
 have y4:(zl4 b gg s.heap l1 l2).objs.size=s.heap.objs.size+4:=by rw[Qq,y3]
 have y5:(Hl b gg s.heap l1 l2).objs.size=s.heap.objs.size+5:=by rw[Qq,y4]
 have j:(Hl b gg s.heap l1 l2).get? (zl4 b gg s.heap l1 l2).objs.size=some _:=P3 _ rfl;have O:(Hl b gg s.heap l1 l2).get? (zl3 b gg s.heap l1 l2).objs.size=some _:=Pm _ (P3 _ rfl);have I:(Hl b gg s.heap l1 l2).get? (zl2 b gg s.heap l1 l2).objs.size=some _:=Pm _ (Pm _ (P3 _ rfl));have U:(Hl b gg s.heap l1 l2).get? (zl1 b s.heap l1).objs.size=some _:=Pm _ (Pm _ (Pm _ (P3 _ rfl)));have u1:(Hl b gg s.heap l1 l2).get? s.heap.objs.size=some _:=Pm _ (Pm _ (Pm _ (Pm _ (P3 _ rfl))));show _/\_;rw[y2,y3,y4]at j;rw[y1,y2]at I;rw[y3]at O;rw[y1]at U;rw[y4];exact⟨⟨_,j,rfl⟩,h _ j I O ⟨_,u1,rfl,rfl⟩ ⟨_,U,rfl,rfl⟩ y5 λc o x=>Pm _ (Pm _ (Pm _ (Pm _ (Pm _ x))))⟩
def Mw (H:Hp)(xs ys zs:List V):Prop:=∀(j:Nat)(z:V),zs[j]?=some z->eX3 λ(t:Addr)(x y:V)=>z=V.ref t/\xs[j]?=some x/\ys[j]?=some y/\H t=some (.tup [x,y])
def JZp (f gg:Bool)(K:Pg)(H0:Hp)(z TI TO i1 i2 a b:Addr)(xs ys:List V):Nat->List V->Hp->Heap->Prop:=λi zs H h =>
 ZpSt h z TI TO i1 i2 i/\(IsPair h TI (.ref i1) (.ref i2)/\∃o,h.get? TO=some o)/\ZIt f h i1 a i/\ZIt gg h i2 b i/\(∀c∈[z,TI,TO,i1,i2],H c=none)/\zs.length=i/\Mw H xs ys zs/\Same H0 H
theorem Zmc:typeLookup (.type "zip") "__len__"=pure none:=by rw[Ub,Tp];kernel_rfl
theorem Zp9:typeLookup (.type "zip") "__length_hint__"=pure none:=by rw[Ub,Tp];kernel_rfl
theorem Zuk {f gg:Bool}{X:Cx}{pins:List (Addr×Obj)}{σ:St}{H0:Hp}{z TI TO i1 i2 a b:Addr}{xs ys:List V}(fp:∀c∈[z,TI,TO,i1,i2],FpOk X pins H0 c)(D:ZB z TI TO i1 i2 a b)(ha:Gr f X.K H0 a xs)(hb:Gr gg X.K H0 b ys) :
  Src X pins σ z "zip" (min xs.length ys.length) H0 (JZp f gg X.K H0 z TI TO i1 i2 a b xs ys) where
 ty:=λi zs H h j=>by
  obtain⟨vs,e⟩:=j.1.obj;exact⟨_,e,rfl⟩
 nl:=by decide
 hint:=⟨_,λA s Q E hT h=>Zem hT Zmc Zp9 h⟩
 self:=λA s zs H Q E j q=>by
  rcases j.1 with⟨_,e,_⟩|⟨z,_⟩
  ·exact wpAny_pyIter_zip e q
  ·exact absurd z (Q4 _)
 keep:=λi zs H h h' S us aj h0 hS j k al=>by
  obtain⟨j1,⟨j2,jT⟩,j3,j4,j5,j6,j7,j8⟩:=j;have ne:∀c∈[z,TI,TO,i1,i2],c≠S:=λc F e=>by
   have:=j5 c F;rw[e,hS]at this;cases this
  refine⟨?_,⟨k _ _ (ne TI (by simp)) j2,let ⟨o,e⟩:=jT;⟨o,k _ _ (ne TO (by simp)) e⟩⟩,j3.at λo e=>k _ _ (ne i1 (by simp)) e,j4.at λo e=>k _ _ (ne i2 (by simp)) e,λc F=>by rw[Ag (ne c F)];exact j5 c F,j6,λm y Z=>?_,j8.over h0⟩
  ·rcases j1 with⟨z0,e,u,v,e2⟩|⟨z0,a0,oa,f1,e,ea,x1,x2,x3⟩
   ·exact .inl ⟨z0,k _ _ (ne z (by simp)) e,u,v,k _ _ (ne TO (by simp)) e2⟩
   ·by_cases hs:a0=S
    ·subst hs;obtain⟨o,eo⟩:=al;exact .inr ⟨z0,a0,o,f1,k _ _ (ne z (by simp)) e,eo,x1,x2,x3⟩
    ·exact .inr ⟨z0,a0,oa,f1,k _ _ (ne z (by simp)) e,k _ _ hs ea,x1,x2,x3⟩
  ·obtain⟨t,x,y',e1,e2,e3,e4⟩:=j7 m y Z;exact⟨t,x,y',e1,e2,e3,by rw[Ag (Dw e4 hS (by intro z;cases z))];exact e4⟩
 fresh:=λi zs H h j=>j.2.2.2.2.1 z (by simp)
 item:=λA i s H zs E hh hi I j=>by
  obtain⟨j1,⟨j2,jT⟩,j3,j4,j5,j6,j7,j8⟩:=j;obtain⟨U,rv,p⟩:=I.zin (j8.sqZ ha);obtain⟨O,Y,p2⟩:=I.zin (j8.sqZ hb);have g1:=rv.length;have g2:=Y.length;have l1:i<xs.length:=by lia
  have l2:i<ys.length:=by lia
  have D1:=Mz (prog:=X.prog) (w:=X.w) (A:=A.in1) f hh i1 a D.a1 U.toArray;have D2:=Mz (prog:=X.prog) (w:=X.w) (A:=A.in1) gg hh i2 b D.b2 O.toArray;refine Zty D1 D2 D.za j1 j2 jT ⟨j3,p⟩ ⟨j4,p2⟩ (by rw[Pl];lia) (by rw[Pl];lia) λx y h' tk px py a1 aT a2 a3 a4 a5 a6=>?_;have af:U[i]?=some x:=by simpa using px
  have ag:O[i]?=some y:=by simpa using py
  obtain⟨u1,ad,ah⟩:=rv.get (Pk l1);obtain⟨u2,ac,ai⟩:=Y.get (Pk l2);rw[af]at ad;cases ad;rw[ag]at ac;cases ac;have hf:H s.heap.objs.size=none:=I.hok.fresh (Pj _);have aa:∀c∈[z,TI,TO,i1,i2],FpOk X pins H c:=λc F=>(fp c F).of (j5 c F);have kk:∀c o,c ∉ [z,TI,TO,i1,i2]->s.heap.get? c=some o->h'.get? c=some o:=λc o F e=>by
   simp only[Po,Px,or_false,not_or]at F;exact a6 c o F.1 F.2.2.1 F.2.2.2.1 F.2.2.2.2 e
  have I2:=I.pairL (tk:=tk) (T:=s.heap.objs.size) (xs:=[xs[i],ys[i]]) (its:=[x,y]) aa kk (Pj _) (.cons ah (.cons ai .nil)) (by show 2<=sizeLine;decide) ⟨_,a4,rfl,_,rfl⟩;have sm:Same H (upd H s.heap.objs.size (.tup [xs[i],ys[i]])):=Same.upd hf;have lt:∀{c o},s.heap.get? c=some o->c≠s.heap.objs.size:=λe=>P0 (Pq e);have nw:∀c∈[z,TI,TO,i1,i2],c≠s.heap.objs.size:=λc F=>by
   simp only[Po,Px,or_false]at F;rcases F with rfl|rfl|rfl|rfl|rfl
   ·obtain⟨_,e⟩:=j1.obj;exact lt e
   ·exact lt j2
   ·obtain⟨_,e⟩:=jT;exact lt e
   ·obtain⟨_,e,_⟩:=j3;exact lt e
   ·obtain⟨_,e,_⟩:=j4;exact lt e
  refine⟨_,.ref s.heap.objs.size,_,rfl,rfl,I2,⟨a1,⟨a6 _ _ D.TIz D.TITO D.TI1 D.TI2 j2,aT⟩,a2.1,a3.1,λc F=>by rw[Ag (nw c F)];exact j5 c F,by simp[j6],λm y Z=>?_,j8.trans sm⟩,λS us e=>sm S _ e⟩;by_cases hm:m<i
  ·rw[Qd (by lia)]at Z;obtain⟨t,x,y',e1,e2,e3,e4⟩:=j7 m y Z;exact⟨t,x,y',e1,e2,e3,sm _ _ e4⟩
  ·have ae:=(Pt.mp Z).1;rw[Pn,Py]at ae;have:m=i:=by lia
   subst this;rw[Qn (by lia),j6,Re]at Z;have Z:V.ref s.heap.objs.size=y:=by simpa using Z
   exact⟨_,xs[m],ys[m],Z.symm,Pk l1,Pk l2,Ae⟩
 done:=λA s H zs E hh I j=>by
  obtain⟨j1,⟨j2,jT⟩,j3,j4,j5,j6,j7,j8⟩:=j;obtain⟨U,rv,p⟩:=I.zin (j8.sqZ ha);obtain⟨O,Y,p2⟩:=I.zin (j8.sqZ hb);have g1:=rv.length;have g2:=Y.length;have D1:=Mz (prog:=X.prog) (w:=X.w) (A:=A.in1) f hh i1 a D.a1 U.toArray;have D2:=Mz (prog:=X.prog) (w:=X.w) (A:=A.in1) gg hh i2 b D.b2 O.toArray;have aa:∀c∈[z,TI,TO,i1,i2],FpOk X pins H c:=λc F=>(fp c F).of (j5 c F);refine Zru D1 D2 D.za j1 j2 ⟨j3,p⟩ ⟨j4,p2⟩ (by simp only[Pl];lia) λh' tk kk=>⟨rfl,I.turnedL (λc o F e=>?_) aa⟩;simp only[Po,Px,or_false,not_or]at F;exact kk c o F.1 F.2.2.1 F.2.2.2.1 F.2.2.2.2 e
section
variable {X:Cx}
def Zcp (f gg:Bool)(K:Pg)(ta:TA):TE:=λσ H Q=>ta σ H λvs H1=>eX4 λa b xs ys=>vs=[.ref a,.ref b]/\Gr f K H1 a xs/\Gr gg K H1 b ys /\
 ∀(S:Addr)(zs:List V)(H2:Hp),H1 S=none->Same H1 H2->zs.length=min xs.length ys.length->Mw H2 xs ys zs->H2 S=some (.lst zs)->Q (.ref S) H2
theorem Zeg (f gg:Bool)(K:Pg)(hg:Gl X "list")(hm:X.mg "list"=none)(hg2:Gl X "zip")(hm2:X.mg "zip"=none)(ha:QA X [e,e2] ta)(hK:autoParam (X.K=K) zX)(hc:autoParam (X.calm=true) zX)(hs:autoParam (starEach [.Call (.Name "zip" p2) [e,e2] [] pos2] X.env=[(false,eval (.Call (.Name "zip" p2) [e,e2] [] pos2) X.env)]) zX)(hs2:autoParam (starEach [e,e2] X.env=[(false,eval e X.env),(false,eval e2 X.env)]) zX)(hs3:autoParam (starEach [e2] X.env=[(false,eval e2 X.env)]) zX) :
  QE X (.Call (.Name "list" p) [.Call (.Name "zip" p2) [e,e2] [] pos2] [] pos) (Zcp f gg K ta):=by
 subst hK;refine⟨λpins s σ H Q I h=>?_⟩;refine Call_ (Ga I hg hm Ze8 (Sd ?_ hs rfl));rw[hs];show wpAny _ _ (spliced ((false,eval (.Call (.Name "zip" p2) [e,e2] [] pos2) X.env)::[])) _ _ s;refine Wd ?_;refine Call_ (Ga I hg2 hm2 PyProof.Rows.boot_zip (Sd (Ak (ha.run pos2 pins s σ H _ I h) λus F ⟨vs,H1,Y,r1,q1⟩=>?_) (by rw[hs2,hs3]) (by rw[hs3];rfl)));obtain⟨a,b,xs,ys,e1,hq,U,q⟩:=q1;subst e1;obtain⟨u,v,rfl,ru,rv⟩:=r1.two;cases ru;cases rv;obtain⟨aj,rv,pl⟩:=Y.zin hq;obtain⟨ag,ah,aa⟩:=Y.zin U;have ai:=Y.zsz U;have af:a<F.heap.objs.size:=pl.lt;have ae:b<F.heap.objs.size:=aa.lt;refine Zje pl aa λh' a1 a2 a3 a4 a5 a6 hk=>?_;refine Wi ?_;have Z:∀k,FpOk X pins H1 (F.heap.objs.size+k):=λk=>Y.fpOk (Vc _ _) (Y.hok.fresh (Vc _ _));have fp:∀c∈[F.heap.objs.size+4,F.heap.objs.size+2,F.heap.objs.size+3,F.heap.objs.size,F.heap.objs.size+1],FpOk X pins H1 c:=λc hc=>by
  simp only[Po,Px,or_false]at hc;rcases hc with rfl|rfl|rfl|rfl|rfl
  ·exact Z 4
  ·exact Z 2
  ·exact Z 3
  ·exact Z 0
  ·exact Z 1
 have C:=Zuk (X:=X) (pins:=pins) (σ:=σ) (H0:=H1) fp (Zke af ae) hq U;have I2:Inv X pins σ H1 { F with heap:=h' }:=Y.kept (t':=F.toks) hk;refine Zhn C (by lia) (Y.ok.hd hc) I2 ⟨.inl ⟨rfl,a1,_,_,a3⟩,⟨a2,_,a3⟩,a4,a5,λc hc=>(fp c hc).1,rfl,λj y hy=>by simp at hy,Same.refl _⟩ (λS O hS h2 k2=>?_) λS H' zs hS ac ad hj=>?_
 ·have sm:Same H1 (upd H1 S (.lst [])):=Same.upd hS;refine⟨.inl ⟨rfl,k2 _ _ a1,_,_,k2 _ _ a3⟩,⟨k2 _ _ a2,_,k2 _ _ a3⟩,a4.at λo e=>k2 _ _ e,a5.at λo e=>k2 _ _ e,λc hc=>?_,rfl,λj y hy=>by simp at hy,sm⟩;have O:h'.objs.size<=S:=O;rw[Ag (show c≠S from λz=>?_)]
  ·exact(fp c hc).1
  ·simp only[Po,Px,or_false]at hc;rcases hc with rfl|rfl|rfl|rfl|rfl <;> exact absurd z (P0 (P9 (by lia) O))
 ·obtain⟨h,j⟩:=hj;exact q S zs H' hS j.2.2.2.2.2.2.2 ad j.2.2.2.2.2.2.1 ac
noncomputable abbrev Zgb:=Zcp true false
theorem Zqk (K:Pg)(hg:Gl X "list")(hm:X.mg "list"=none)(hg2:Gl X "zip")(hm2:X.mg "zip"=none)(ha:QA X [e,e2] ta)(hK:autoParam (X.K=K) zX)(hc:autoParam (X.calm=true) zX)(hs:autoParam (starEach [.Call (.Name "zip" p2) [e,e2] [] pos2] X.env=[(false,eval (.Call (.Name "zip" p2) [e,e2] [] pos2) X.env)]) zX)(hs2:autoParam (starEach [e,e2] X.env=[(false,eval e X.env),(false,eval e2 X.env)]) zX)(hs3:autoParam (starEach [e2] X.env=[(false,eval e2 X.env)]) zX) :
  QE X (.Call (.Name "list" p) [.Call (.Name "zip" p2) [e,e2] [] pos2] [] pos) (Zgb K ta):=Zeg true false K hg hm hg2 hm2 ha hK hc hs hs2 hs3
theorem s_listzp {K:Pg}{ta:TA}{σ:St}{H:Hp}{Q:VK}(h:ta σ H λvs H1=>eX4 λa b xs ys=>vs=[.ref a,.ref b]/\SqT K H1 a xs/\SqL K H1 b ys /\
 ∀(S:Addr)(zs:List V)(H2:Hp),H1 S=none->Same H1 H2->zs.length=min xs.length ys.length->Mw H2 xs ys zs->H2 S=some (.lst zs)->Q (.ref S) H2):Zgb K ta σ H Q:=h
end
theorem Zn8:∀(xs ys:List Int),((P7 (min xs.length ys.length)).all (λj=>xs.getD j 0 == ys.getD j 0) && xs.length == ys.length)=decide (xs=ys):=by
 intro xs ys;rw[T9,Ry,R8,beq_iff_eq,decide_eq_true_iff];constructor
 ·rintro⟨h1,h2⟩;apply List.ext_getElem h2;intro i I F;have:=h1 i (Vk.mpr (by lia));rw[beq_iff_eq,Uq,Uq,Pk I,Pk F]at this;exact this
 ·rintro rfl;exact⟨λj _=>by simp,rfl⟩
section
variable {X:Cx}
end
section
variable {X:Cx}
end
def Bo (P:Program)(w:World):Cq:=λouter H s E ev s'=>eX5 λ(e T:Addr)(cls:Value)(od:Option Addr)(H':Hp)=>ev=.ref e/\s'.os=s.os/\AllBare s'.gens/\Un (Bz outer) [] H H' s.heap s'.heap/\HOk P w H' s'.heap /\
 s.heap.get? e=none/\s.heap.get? T=none/\H' e=none/\H' T=none/\G7 s'.heap e T cls od/\E cls od H'
section
variable {X:Cx}{pins:List (Addr×Obj)}{σ:St}{H:Hp}{s:Shared}
theorem Inv.old (I:Inv X pins σ H s)(hex:X.ex=[])(h:s.heap.get? b=none):X.s₀.heap.get? b=none:=by
 cases q:X.s₀.heap.get? b with
 |none=>rfl
 |some o =>
  obtain⟨o',e⟩:=I.base.there b o q (by rw[hex];simp);rw[h]at e;cases e
theorem Inv.mvd (I:Inv X pins σ H s)(m:Mvd (Bz X.stack) xs s.heap h')(hx:∀b∈xs,X.s₀.heap.get? b=none/\H b=none)(hex:X.ex=[]):Un X.fs [] X.H₀ H X.s₀.heap h'/\HOk X.prog X.w H h':=by
 have j:∀b o,X.s₀.heap.get? b=some o->b ∉ xs:=λb o e hb=>by rw[(hx b hb).1]at e;cases e
 have O:∀b o,X.s₀.heap.get? b=some o->b≠X.env.locals:=λb o e=>P0 (P9 (Pq e) I.ok.above);have Z:∀b o,X.s₀.heap.get? b=some o->b ∉ X.fs->b ∉ Bz X.stack:=λb o e F hs=>by
  rcases I.ok.stk with z|⟨z,z2⟩
  ·rw[z]at hs;exact F hs
  ·rw[z]at hs;unfold Bz at hs;rw[U1,z2]at hs;rcases Po.mp hs with q|q
   ·exact O b o e q
   ·exact F q
 have B:=I.base;rw[hex]at B;refine⟨⟨λb o e n F _=>?_,λb o e n F _=>?_,λb o e n _=>B.free b o e n (by simp),λb o e _=>?_,B.tups,B.frzs,B.tbls⟩,λb u e=>?_⟩
 ·exact m.keep b o (j b o e) (Z b o e F) (B.keep b o e n F (by simp))
 ·obtain⟨sl,U⟩:=B.slot b o e n F (by simp);obtain⟨Y,e2⟩:=m.slot b _ (j b o e) U;exact⟨Y,e2⟩
 ·obtain⟨o',U⟩:=B.there b o e (by simp);obtain⟨sl,e2⟩:=m.slot b o' (j b o e) U;exact⟨_,e2⟩
 ·have tr:∀c v,H c=some v->c ∉ xs/\c ∉ Bz X.stack:=λc v q=>⟨(λz=>by rw[(hx c z).2]at q;cases q),(λz=>by rw[I.stkFree c z]at q;cases q)⟩;refine(I.hok b u e).stay (λc v hc q=>m.keep c v ?_ ?_ q) (λ_ q=>q) λ_ _ q=>q
  ·rcases hc with z|z
   ·rw[z];exact(tr b u e).1
   ·exact(tr c _ z).1
  ·rcases hc with z|z
   ·rw[z];exact(tr b u e).2
   ·exact(tr c _ z).2
end
section
variable {P:Program}{w:World}{K:Pg}{mg:Str->Option Value}{base:Heap}{N:List Str}{qual:Str}{scope:Scope}{f:Addr}{cd:Value}{A:Around}{outer:List Env}{s0:Shared}{H0:Hp}{E:XK}
theorem Gy (h:∀cls od H',E' cls od H'->E cls od H'):F6 (Bo P w) (El (Bo P w) P w K mg base N qual scope f cd A outer s0 H0 E) E':=by
 intro pins σ H s ev s' I c;obtain⟨e,T,cls,od,H',rfl,h1,h2,h3,h4,U,Z,Y,h8,h9,F⟩:=c;have J:Inv (El (Bo P w) P w K mg base N qual scope f cd A outer s0 H0 E) pins σ H' s':=I.call' (ch:=[]) h1 h3 h4 h2 (λb z=>absurd z (by simp));refine Zk4 (base:=base) (outer:=outer) (L:=s0.heap.objs.size) J.ok.frames J.stack rfl h9 λh' T' j y m=>?_;obtain⟨u,ok⟩:=J.mvd (h':=h') m (λb O=>by
  simp only[Po,Px,or_false]at O;rcases O with rfl|rfl|rfl
  ·exact⟨I.old rfl U,Y⟩
  ·exact⟨I.old rfl Z,h8⟩
  ·exact⟨J.old rfl (Tt j),J.hok.fresh j⟩) rfl
 exact⟨e,T',cls,od,H',rfl,J.os,J.bare,u,ok,I.old rfl U,J.old rfl (Tt j),Y,J.hok.fresh j,y,h _ _ _ F⟩
theorem Znk (I:Inv (El (Bo P w) P w K mg base N qual scope f cd A outer s0 H0 E) pins σ H s)(x:Oe s.heap e cls od)(he:s0.heap.get? e=none)(hn:H e=none)(h:E cls od H) :
  (El (Bo P w) P w K mg base N qual scope f cd A outer s0 H0 E).xe (.ref e) s:=by
 refine Zmo (base:=base) (outer:=outer) (L:=s0.heap.objs.size) I.ok.frames I.stack rfl x λh' T j y m=>?_;obtain⟨u,ok⟩:=I.mvd (h':=h') m (λb F=>by
  simp only[Po,Px,or_false]at F;rcases F with rfl|rfl
  ·exact⟨he,hn⟩
  ·exact⟨I.old rfl (Tt j),I.hok.fresh j⟩) rfl
 exact⟨e,T,cls,od,H,rfl,I.os,I.bare,u,ok,he,I.old rfl (Tt j),hn,I.hok.fresh j,y,h⟩
end
section
variable {P:Program}{w:World}{K:Pg}{mg:Str->Option Value}{base:Heap}
theorem Fun.okx {x qual:Str}{st:Stmt}{f:Addr}{fd:FuncData}{N ps:List Str}{k:Nat}{sp:Sp}(F:Fun K x qual st f fd)(S:A9 N ps (A5 st))(len:∀vs H Q E,sp vs H Q E->vs.length=ps.length)
  (hbody:∀(cdv:Value)(A:Around)(outer:List Env)(s:Shared)(H:Hp)(vs:List V)(Q:VK)(E:XK),Room k (A.deeper (envOfC qual (A5 st) s.heap.objs.size f cdv))->sp vs H Q E ->
   ∃t,E7 (El (Bo P w) P w K mg base N qual (A5 st) f cdv A outer s H E) (Fc st) t/\t { nx:=λ_ H'=>Q .non H',rt:=Q } (Fn N vs) H):FnOk P w K mg base (Bo P w) (k+1) f fd ps sp:=by
 obtain⟨oc,od,kV,Y,pm,an,cdv,ct,O,rfl,Z,j⟩:=F.ex;refine Zd3 Z j S len λA outer s H vs Q E U I=>?_;obtain⟨t,h,q⟩:=hbody cdv A outer s H vs Q E U I;exact⟨t,h.run,q⟩
structure Ho (P:Program)(w:World)(K:Pg)(mg:Str->Option Value)(base:Heap)(k:Nat)(x:Str)(ps:List Str)(sp:Sp):Prop where
 ex:∃(f:Addr)(fd:FuncData),FnOk P w K mg base (Bo P w) k f fd ps sp/\mg x=some (.ref f)/\Rm K (.ref f)=true/\Binds K fd ps []
theorem Zm8 (F:FnOk P w K mg base (Bo P w) k f fd ps sp)(m:mg x=some (.ref f))(kp:Rm K (.ref f)=true)(b:Binds K fd ps []):Ho P w K mg base k x ps sp:=⟨f,fd,F,m,kp,b⟩
end
section
variable {X:Cx}{k:Nat}{x:Str}{ps:List Str}{sp:Sp}{p pos np cpos:Pos}{e:Expr}{es:List Expr}{t:TA}{E:XK}
theorem Zsr (C:Ho X.prog X.w X.K X.mg X.base k x ps sp)(hr:Room k X.A)(hx:F6 (Bo X.prog X.w) X E)(ha:QA X (e::es) t)(hg:autoParam (Gl X x) zX)(hdb:autoParam ((x == ("__debug__":Str))=false) zW)
  (he:autoParam (starEach (e::es) X.env=(false,eval e X.env)::starEach es X.env) zX) (hpl:autoParam ((backTo pos (starEach es X.env)).any (·.1)=false) zX):QE X (.Call (.Name x p) (e::es) [] pos) (Km sp [] E t):=by
 obtain⟨f,fd,F,O,I,j⟩:=C.ex;exact⟨Zh5 F hr hg O I j .nil hx ha.run hdb he hpl⟩
noncomputable abbrev VE:List Value:=[.type "ValueError",.type "Exception",.type "BaseException",.type "object"]
def Ztq (X:Cx)(E:XK):Prop:=∀(pins:List (Addr×Obj))(σ:St)(H:Hp)(s:Shared)(a:Addr)(cls:Value)(od:Option Addr),Inv X pins σ H s->Oe s.heap a cls od->X.s₀.heap.get? a=none->H a=none->E cls od H->X.xe (.ref a) s
structure Oc (K:Pg)(C:Addr):Prop where
 ex:eX16 λbm dd nm bs ns qn hd sn sub ab col k0 k1 k2 k3 k5=>K.lookup C=some (excClassObj nm qn C ns bs bm hd sn sub ab col dd k0 k1 k2 k3 k5 "ValueError.__new__")/\Sz K VE bm=true/\Ta K ns=true/\Qb K ns "__init__"=some none
theorem Zkw {K:Pg}{h0:Heap}{C:Addr}(kin0:K.In h0)(q:Oc K C) :
  eX17 λbm N nm q bs hdct sn sub ab col dd k0 k1 k2 k3 k5 mN=>mN "__init__"=none/\∀h:Heap,K.In h->h.get? C=some (excClassObj nm q C N bs bm hdct sn sub ab col dd k0 k1 k2 k3 k5 "ValueError.__new__")/\h.Ns N mN/\OwnTail h VE bm:=by
 obtain⟨bm,dd,nm,bs,ns,Z,hd,sn,sub,ab,col,k0,k1,k2,k3,k5,I,U,hok,j⟩:=q.ex;have Y:h0.Ns ns (h0.nsMap ns):=.of_isNs (PySem.W.isNs_of_in kin0 hok);refine⟨bm,ns,nm,Z,bs,hd,sn,sub,ab,col,dd,k0,k1,k2,k3,k5,h0.nsMap ns,PySem.W.nsMap_none_of_in kin0 hok j,λh kin=>⟨kin _ _ I,?_,PySem.W.tail_of_in kin U⟩⟩;obtain⟨o,es,O,e,r⟩:=Y;refine⟨o,es,O,?_,r⟩;unfold Ta at hok;split at hok
 ·rename_i F;have:=kin0 _ _ F;rw[e]at this;cases this;exact kin _ _ F
 ·cases hok
theorem ObjOk.there (x:ObjOk P w H h a o):∃u,h.get? a=some u:=by
 induction o with
 |lst xs=>obtain⟨_,_,_,_,e⟩:=x;exact⟨_,e⟩
 |tup xs=>obtain⟨_,_,_,o,e,_⟩:=x;exact⟨_,e⟩
 |dK kvs=>obtain⟨_,_,vs,_,d⟩:=x;obtain⟨o,e,_⟩:=Wv.mp d;exact⟨_,e⟩
 |dT kvs=>obtain⟨_,_,_,_,o,_,_,e,_⟩:=x;exact⟨_,e⟩
 |set S n=>obtain⟨o,_,_,_,e,_⟩:=x;exact⟨_,e⟩
 |ins C dx fs=>obtain⟨_,_,_,e,_⟩:=x;exact⟨_,e⟩
 |own y=>exact x
 |xd fs=>obtain⟨_,⟨o,_,_,e,_⟩,_⟩:=x;exact⟨_,e⟩
 |met f y=>exact⟨_,x⟩
 |rng lo hi=>obtain⟨_,_,_,e⟩:=x;exact⟨_,e⟩
 |frz o u _=>exact⟨_,x.1⟩
 |tbl ps=>exact⟨_,x⟩
 |ext φ=>exact x.2.1
theorem HOk.no (x:HOk P w H h)(e:h.get? a=none):H a=none:=by
 cases q:H a with
 |none=>rfl
 |some u =>
  have z:=(x a u q).there;rw[e]at z;obtain⟨o,z⟩:=z;cases z
theorem Zof (hc:X.calm=true)(hC:Oc X.K C)(G:X.mg x=some (.ref C))(ha:QA X [a] t)(hx:Ztq X E)(hex:X.ex=[])(hg:autoParam (Gl X x) zX)(hdb:autoParam ((x == ("__debug__":Str))=false) zW)(he:autoParam (starEach [a] X.env=[(false,eval a X.env)]) zX):QS X (.Raise (some (.Call (.Name x np) [a] [] cpos)) none pos) (λD σ H=>t σ H λvs H1=>vs.length<=sizeLine/\E (.ref C) none H1):=by
 refine⟨λpins s σ H D I h=>?_⟩;obtain⟨bm,N,nm,q,bs,hdct,sn,sub,ab,col,dd,k0,k1,k2,k3,k5,mN,U,cl⟩:=Zkw I.kIn hC;obtain⟨cC,cN,cT⟩:=cl _ I.kIn;refine wpAny_Raise_call_subU (C:=C) (nm:=nm) (q:=q) (N:=N) (bs:=bs) (bm:=bm) (hdct:=hdct) (sn:=sn) (sub:=sub) (ab:=ab) (col:=col) (dd:=dd) (k0:=k0) (k1:=k1) (k2:=k2) (k3:=k3) (k5:=k5)
  V3 (by decide) V3 (mN:=mN) (cT.hasType V3.hasBase) (I.ok.hd hc) (by rw[he];rfl) U (Jb I hg G ⟨rfl,?_⟩ hdb)
 rw[he];have ar:=ha.run cpos pins s σ H _ I h;rw[he]at ar;refine Calls.evalArgs_plain (Rp ar (λus s2 h2=>?_) λ_ _ y=>y);obtain⟨vs,H1,F,r1,z,q1⟩:=h2;obtain⟨Y,O,Z⟩:=cl _ F.kIn;refine⟨rfl,by rw[<- r1.length];exact z,Y,O,Z,λh' a' j=>?_⟩;obtain⟨t',e1,_,_⟩:=j.there;have I2:Inv X pins σ H1 { s2 with heap:=h' }:=F.kept (t':=s2.toks) j.keeps;exact hx pins σ H1 _ a' (.ref C) none I2 ⟨_,_,e1,rfl,rfl,rfl,rfl,rfl⟩ (F.old hex j.new) (F.hok.no j.new) q1
end
noncomputable def exk (a:Addr)(cls:Value)(od:Option Addr):HO:=.ext λh=>∃o vs,h.get? a=some o/\o.cls=cls/\o.dict=od/\o.data=.fields vs/\vs[2]?=some .none
theorem Zko (x:G7 h a T cls od):ObjOk P w H h a (exk a cls od):=by
 obtain⟨j,vs,oT,ts,a1,a2,Y,U,a5,a6,a7,Z,I⟩:=x;refine⟨⟨j,vs,a1,a2,Y,U,I.2⟩,⟨j,a1⟩,λh1 h2 q k=>?_⟩;obtain⟨o,vs,F,O⟩:=q;exact⟨o,vs,k o F,O⟩
theorem Un.land (u:Un fs [] H H' h h1)(m:Mvd fs xs h1 h2)(hx:∀b∈xs,h.get? b=none)(he:h.get? e=none)(hn:H' e=none):Un fs [] H (upd H' e o) h h2:=by
 have I:∀b j,h.get? b=some j->b ∉ xs:=λb j q z=>by rw[hx b z]at q;cases q
 have ne:∀b j,h.get? b=some j->b≠e:=λb j q z=>by rw[z,he]at q;cases q
 have F:∀b j,H' b=some j->b≠e:=λb j q z=>by rw[z,hn]at q;cases q
 refine⟨λb j q n O _=>m.keep b j (I b j q) O (u.keep b j q n O (by simp)),λb j q n O _=>?_,λb j q n _=>?_,λb j q _=>?_,λb ys q=>?_,λb j v q=>?_,λb ps q=>?_⟩
 ·obtain⟨sl,U⟩:=u.slot b j q n O (by simp);obtain⟨Y,Z⟩:=m.slot b _ (I b j q) U;exact⟨Y,Z⟩
 ·rw[Ag (ne b j q)];exact u.free b j q n (by simp)
 ·obtain⟨o',U⟩:=u.there b j q (by simp);obtain⟨sl,Z⟩:=m.slot b o' (I b j q) U;exact⟨_,Z⟩
 ·have z:=u.tups b ys q;rw[Ag (F b _ z)];exact z
 ·have z:=u.frzs b j v q;rw[Ag (F b _ z)];exact z
 ·obtain⟨more,z⟩:=u.tbls b ps q;exact⟨more,by rw[Ag (F b _ z)];exact z⟩
theorem HOk.land (x:HOk P w H h1)(m:Mvd fs xs h1 h2)(hx:∀b∈xs,H b=none)(hf:∀b∈fs,H b=none)(hn:H e=none)(new:ObjOk P w (upd H e o) h2 e o):HOk P w (upd H e o) h2:=by
 intro b u q;by_cases F:b=e
 ·subst F;rw[Ae]at q;cases q;exact new
 ·rw[Ag F]at q;have tr:∀c v,H c=some v->c ∉ xs/\c ∉ fs:=λc v q=>⟨(λz=>by rw[hx c z]at q;cases q),(λz=>by rw[hf c z]at q;cases q)⟩;have j:∀b I,H b=some I->b≠e:=λb I q z=>by rw[z,hn]at q;cases q
  refine(x b u q).stay (λc v O z=>?_) (λc z=>by rw[Ag (j c _ z)];exact z) λc ys z=>by rw[Ag (j c _ z)];exact z
  rcases O with r|r
  ·rw[r]at z ⊢;exact m.keep b v (tr b u q).1 (tr b u q).2 z
  ·exact m.keep c v (tr c _ r).1 (tr c _ r).2 z
noncomputable abbrev TX:=St->Hp->VK->XK->Prop
noncomputable abbrev Iv:=Dc->(St->XK)->St->Hp->Prop
def XP (X:Cx)(pins:List (Addr×Obj))(σ:St)(E:XK)(ev:Value)(s':Shared):Prop:=∃H0 s0,Inv X pins σ H0 s0/\Bo X.prog X.w X.stack H0 s0 E ev s'
structure QX (X:Cx)(e:Expr)(t:TX):Prop where
 run:∀(pins:List (Addr×Obj))(s:Shared)(σ:St)(H:Hp)(Q:VK)(E:XK),Inv X pins σ H s->t σ H Q E->wpAny (model X.prog X.w) X.A (eval e X.env) (EP X pins σ Q) (XP X pins σ E) s
structure QXS (X:Cx)(sts:List Stmt)(t:Iv):Prop where
 run:∀(pins:List (Addr×Obj))(s:Shared)(σ:St)(H:Hp)(D:Dc)(E:St->XK),Inv X pins σ H s->t D E σ H->wpAny (model X.prog X.w) X.A (execs sts X.env) (SP X pins D) (λev s'=>∃σ',XP X pins σ' (E σ') ev s') s
noncomputable abbrev Cx.to (X:Cx)(A:Around)(c:Bool)(XE:Value->Shared->Prop):Cx:={ X with A:=A,calm:=c,xe:=XE }
section
variable {X:Cx}{pins:List (Addr×Obj)}{σ:St}{H:Hp}{s:Shared}
theorem Inv.to (I:Inv X pins σ H s)(hA:A.frames=X.A.frames)(hc:c=true->A.handled=none):Inv (X.to A c XE) pins σ H s :=
 ⟨⟨I.ok.mod,I.ok.kind,I.ok.glob,I.ok.blt,I.ok.above,I.ok.inj,I.ok.has,I.ok.cab,hc,hA.trans I.ok.frames,I.ok.stk,I.ok.exf,I.ok.bs,I.ok.bsz,I.ok.noex,I.ok.exfs,I.ok.funs,I.ok.frf⟩,I.os,I.bare,I.base,I.loc,I.cell,I.free,I.freeC,I.pin,I.hok,I.len⟩
theorem Inv.back (I:Inv (X.to A c XE) pins σ H s)(ok:X.Ok):Inv X pins σ H s :=
 ⟨ok,I.os,I.bare,I.base,I.loc,I.cell,I.free,I.freeC,I.pin,I.hok,I.len⟩
end
section
variable {X:Cx}{k:Nat}{x:Str}{ps:List Str}{sp:Sp}{p pos np cpos:Pos}{e:Expr}{es:List Expr}{t:TA}
theorem Zf2 (C:Ho X.prog X.w X.K X.mg X.base k x ps sp)(hr:Room k X.A)(ha:∀XE,QA (X.to X.A X.calm XE) (e::es) t)(hg:autoParam (Gl X x) zX)(hdb:autoParam ((x == ("__debug__":Str))=false) zW)
  (he:autoParam (starEach (e::es) X.env=(false,eval e X.env)::starEach es X.env) zX) (hpl:autoParam ((backTo pos (starEach es X.env)).any (·.1)=false) zX):QX X (.Call (.Name x p) (e::es) [] pos) (λσ H Q E=>t σ H λvs H1=>sp vs H1 Q E):=by
 obtain⟨f,fd,F,hm,hk,hb⟩:=C.ex;refine⟨λpins s σ H Q E I h=>?_⟩;refine Tz (Jb I hg hm ?_ hdb);refine U3 (h₀:=X.base) I.ok.mod.kin hk (Ak ((ha (XP X pins σ E)).run pos pins s σ H _ (I.to rfl I.ok.hd) h) λY Z zq=>?_) he hpl;obtain⟨vs,H1,j,r,q⟩:=zq;refine⟨(j.back I.ok).kIn,?_⟩;have j:=j.back I.ok;have hl:Y.length=ps.length:=by rw[<- r.length];exact F.len _ _ _ _ q
 have U:=hb Z Y j.kIn (by simpa using hl);rw[Q0]at U;refine wpAny_call (Te (F.run X.A X.stack Z H1 ⟨Y,[]⟩ Y vs Q E hr j.env0 U r q) λr s' O=>?_);cases r with
 |error e=>exact⟨H1,Z,j,O⟩
 |ok fl =>
  cases fl with
  |ret u=>exact j.after O
  |next=>exact Ql O
  |brk=>exact Ql O
  |cont=>exact Ql O
theorem Zhe {i:Nat}{t:TX}{pos':Pos}(hN:X.N.Nodup)(hi:X.N[i]?=some x)(hx:Fh X.env.scope x)(he:QX X e t)(hs:autoParam (swapsWith e (some (.Name x pos')) pos.line X.env=pure false) zX)(hf:autoParam (X.fn x=true\/X.env.scope.names.lookup x=some .local) zQ) :
  QXS X [.Assign [.Name x pos'] e pos] (λD E σ H=>t σ H (λv H1=>D.nx (σ.set i (some v)) H1) (E σ)):=by
 refine⟨λpins s σ H D E I h=>?_⟩;refine Wk (Rp (wpAny_Assign_Name (Q:=SP X pins D) (Ak (he.run pins s σ H _ (E σ) I h) λv j ⟨y,H1,U,O,F⟩=>Za1 U hN hi hx O (λZ Y=>⟨_,H1,Y,F⟩) hf) hs) (λf j q=>?_) λev j q=>⟨σ,q⟩);cases f with
 |next=>exact Sv q
 |ret v=>exact q
 |brk=>exact q
 |cont=>exact q
end
structure Lh (K:Pg)(C:Addr):Prop where
 ty:PySem.W.typeIn K (.ref C)=some (.type "type")
 cl:(Td K C).isSome=true
 bs:Sa K (.ref C) (.type "BaseException")=some true
theorem Zo6 {K:Pg}{M:Model}{h:Heap}{C:Addr}(X:K.In h)(e:(Td K C).isSome=true):Uf M h (isType (.ref C)) true:=by
 unfold Td at e;split at e
 ·rename_i U Z F I j;intro A' Y O s' k q;unfold isType loadHead;exact Ph (wpAny_loadPart (k _ _ (X _ _ j)) (Pi q))
 ·cases e
theorem Zr4 {K:Pg}{M:Model}{A:Around}{E:Value->Shared->Prop}{s:Shared}{Q:Bool->Shared->Prop}{e C C':Addr}{oe:Obj}(X:K.In s.heap)(c:Lh K C)(he:s.heap.get? e=some oe)(hcls:oe.cls=.ref C')(hs:Sa K (.ref C') (.ref C)=some true)(h:Q true s) :
  wpAny M A (excMatches (.ref e) (.ref C)) Q E s:=by
 have I:Uf M s.heap (typeOf (.ref C)) (.type "type"):=PySem.W.looks_typeIn X c.ty;have L2:Uf M s.heap (isType (.ref C)) true:=Zo6 X c.cl;have F:=PySem.W.looks_subIn (M:=M) X c.bs;have j:Uf M s.heap (typeOf (.ref e)) (.ref C'):=by
  intro Z U Y s' k q;unfold typeOf;exact Ph (wpAny_loadPart (k _ _ he) (Pi (by rw[hcls];exact q)))
 have O:=PySem.W.looks_subIn (M:=M) X hs;have f:=tc_notTuple;unfold excMatches;unfold isInstance isExcClass
 repeat (first|with_reducible refine I.here ?_|with_reducible refine L2.here ?_|with_reducible refine F.here ?_|with_reducible refine j.here ?_|with_reducible refine O.here ?_|wp_step)
 exact h
section
variable {X:Cx}{pins:List (Addr×Obj)}{σ:St}{H:Hp}{s:Shared}
end
section
variable {X:Cx}{c n:Str}{np hpos pos:Pos}{body hbody:List Stmt}{b₀:Stmt}{tb:Iv}{th:TS}{i:Nat}{C:Addr}
end
section
open PySem.W PySem.Builtin PySem.Builtin.ObjectAttr
variable {prog:Program}{w:World}{A:Around}{E:Value->Shared->Prop}{s:Shared}{K:Frag}{x C:Addr}{ox:Obj}{od:Option Obj}{name:Str}{R:Result->Shared->Prop}
end
section
variable {X:Cx}{pins:List (Addr×Obj)}{σ:St}{H:Hp}{s:Shared}
end
section
variable {X:Cx}{pins:List (Addr×Obj)}{σ:St}{H:Hp}{s:Shared}{a C:Addr}{f:Str}{A:Around}{E:Value->Shared->Prop}
open PySem.W PySem.Builtin PySem.Builtin.ObjectAttr
end
section
variable {X:Cx}{o e value:Expr}{f:Str}{pos pos':Pos}{ta tv:TE}
end
section
open PySem.W
end
section
variable {prog:Program}{w:World}{A:Around}{E:Value->Shared->Prop}{h:Heap}{g:Array GenState}{d:Drawn}{t:Nat}{os:OsState}
variable {nm q:Str}{C N:Addr}{bs bm bmB:List Value}{hdct:Bool}{sn:List Str}{sub:List Value}{ab:Bool}{col:Option Bool}{dd:Option Addr}{k0 k1 k2 k3 k5:Option Value}{B Bn newId nid initId inN:String}{bmN:List Value}
end
section
variable {X:Cx}{k:Nat}{x:Str}{sp:Sp}{ps:List Str}{C f:Addr}{fd:FuncData}{np cpos pos:Pos}{a:Expr}{t:TA}{E:XK}
end
section
variable {P:Program}{w:World}{K:Pg}{mg:Str->Option Value}{base:Heap}
end
section
variable {X:Cx}{k:Nat}{x:Str}{ps:List Str}{sp:Sp}{p pos:Pos}{e:Expr}{es:List Expr}{t:TA}
end
section
open PySem.W PySem.Builtin PySem.Builtin.ObjectAttr
variable {prog:Program}{w:World}{A:Around}{E:Value->Shared->Prop}{s:Shared}{K:Frag}{x D:Addr}{ox:Obj}{od:Option Obj}
end
section
variable {X:Cx}{pins:List (Addr×Obj)}{σ:St}{H:Hp}{s:Shared}{a C':Addr}{od:Option Addr}
end
section
variable {X:Cx}
def rEqI (K:Pg):R2:=λx y H Q=>eX4 λ(a c:Addr)(xs ys:List Int)=>x=.ref a/\y=.ref c/\SqT K H a (xs.map V.int)/\SqT K H c (ys.map V.int)/\Q (.bl (decide (xs=ys))) H
theorem Zpq (hu:X.A.units+200<cLine):OpR X (compareOp .Eq) (rEqI X.K):=by
 intro pins s σ H x y v u Q I rx ry h;obtain⟨a,c,xs,ys,rfl,rfl,hx,hy,q⟩:=h;cases rx;cases ry;obtain⟨O,r1,p1,_⟩:=I.tuple hx;obtain⟨F,r2,p2,_⟩:=I.tuple hy;obtain⟨Y,U,f1⟩:=Za7 r1;obtain⟨vs,Z,f2⟩:=Za7 r2;have l1:Y.length=xs.length:=by rw[<- f1,Pp]
 have l2:vs.length=ys.length:=by rw[<- f2,Pp]
 refine SeqAt.eq_tupleAt (e:=λj=>xs.getD j 0 == ys.getD j 0) (show s.heap.IsTuple a O.toArray from p1) (show s.heap.IsTuple c F.toArray from p2) (by lia) (λj h1 h2=>?_) ?_
 ·subst U Z;simp only[Pl,Pp]at h1 h2;have g1:xs.getD j 0=Y[j].1:=by rw[<- f1,Uq,Qy,Pk h1];rfl
  have g2:ys.getD j 0=vs[j].1:=by rw[<- f2,Uq,Qy,Pk h2];rfl
  rw[g1,g2];simp only[List.getElem_toArray,List.getElem_map];exact P6.int_int _ _ _ _
 ·have e:((P7 (min O.toArray.size F.toArray.size)).all (λj=>xs.getD j 0 == ys.getD j 0) && O.toArray.size == F.toArray.size)=decide (xs=ys):=by
   have z1:O.toArray.size=xs.length:=by rw[Pl,U,Pp,l1]
   have z2:F.toArray.size=ys.length:=by rw[Pl,Z,Pp,l2]
   rw[z1,z2,Zn8]
  rw[e];exact⟨.bl _,H,I,rfl,q⟩
def rEqB (K:Pg):R2:=λx y H Q=>N4 K x y H Q\/rEqI K x y H Q
theorem Zhv (K:Pg)(hu:X.A.units+200<cLine)(hK:autoParam (X.K=K) zX):OpR X (compareOp .Eq) (rEqB K):=by subst hK;exact(Zdk hu).or (Zpq hu)
theorem Zex {K:Pg}{a c:Addr}{xs ys:List Int}{H:Hp}{Q:VK}(hx:SqT K H a (xs.map V.int))(hy:SqT K H c (ys.map V.int))(h:Q (.bl (decide (xs=ys))) H):rEqB K (.ref a) (.ref c) H Q:=.inr ⟨a,c,xs,ys,rfl,rfl,hx,hy,h⟩
end
end L2
namespace L2
open PySem
inductive Eg:Dt->Prop where
 |flat (v:V):Eg (.flat v)
 |tup {ds:List Dt} (l:ds.length<=5000) (h:∀d∈ds,Eg d):Eg (.tup ds)
 |lst {ds:List Dt} (l:ds.length<=5000) (h:∀d∈ds,Eg d):Eg (.lst ds)
def SameA (A:Addr->Prop)(H H':Hp):Prop:=SameT H H'/\∀b xs,¬A b->H b=some (.lst xs)->H' b=some (.lst xs)
theorem Same.a (e:Same H H'):SameA A H H':=⟨e.t,λb xs _ h=>e b _ h⟩
theorem SameA.refl (A:Addr->Prop)(H:Hp):SameA A H H:=⟨SameT.refl _,λ_ _ _ h=>h⟩
theorem SameA.trans (a:SameA A H H1)(b:SameA A H1 H2):SameA A H H2:=⟨a.1.trans b.1,λc xs n h=>b.2 c xs n (a.2 c xs n h)⟩
theorem SameA.set (h:H S=some (.lst zs))(hA:A S):SameA A H (upd H S o):=⟨SameT.set h,λb xs n e=>by rw[Ag (λz=>n (by rw[z];exact hA))];exact e⟩
theorem SameA.mono (e:SameA A H H')(h:∀b,A b->B b):SameA B H H':=⟨e.1,λb xs n=>e.2 b xs λa=>n (h b a)⟩
def ThAt (K:Pg)(H:Hp)(v:V)(x:Str×V):Prop:=C2 x.2=true/\∃a,v=.ref a/\SqT K H a [.str x.1,x.2]
theorem ThAt.same (e:SameT H H')(v:V)(x:Str×V)(h:ThAt K H v x):ThAt K H' v x:=by
 obtain⟨f,a,r,q⟩:=h;exact⟨f,a,r,e.tup q⟩
def PrAt (K:Pg)(H:Hp)(v:V)(x:Str×Str×V):Prop:=∃(a:Addr)(u:V),v=.ref a/\SqT K H a [.str x.1,u]/\ThAt K H u x.2
theorem PrAt.same (e:SameT H H')(v:V)(x:Str×Str×V)(h:PrAt K H v x):PrAt K H' v x:=by
 obtain⟨a,u,r,q,t⟩:=h;exact⟨a,u,r,e.tup q,t.same e⟩
structure Rx where
 wd:Str
 pl:List Int
 ops:List (Str×V)
 ar:List (Str×Str×V)
inductive RwAt (K:Pg)(A:Addr->Prop)(H:Hp)(v:V)(x:Rx):Prop
 |mk (a p o e:Addr)(ov ev:List V)(_:v=.ref a)(_:SqT K H a [.str x.wd,.ref p,.ref o,.ref e])(_:SqT K H p (x.pl.map V.int))(_:H o=some (.lst ov))(_:Al (ThAt K H) ov x.ops)(_:H e=some (.lst ev))(_:Al (PrAt K H) ev x.ar)(_:¬A o)(_:¬A e)
theorem RwAt.same (s:SameA A H H')(v:V)(x:Rx)(h:RwAt K A H v x):RwAt K A H' v x:=by
 obtain⟨a,p,o,e,U,ev,h1,h2,Z,Y,O,I,h7,j,F⟩:=h;exact⟨a,p,o,e,U,ev,h1,s.1.tup h2,s.1.tup Z,s.2 _ _ j Y,O.mono (ThAt.same s.1),s.2 _ _ F I,h7.mono (PrAt.same s.1),j,F⟩
theorem RwAt.mono (s:∀b,B b->H b≠none->A b)(v:V)(x:Rx)(h:RwAt K A H v x):RwAt K B H v x:=by
 obtain⟨a,p,o,e,U,ev,h1,h2,Z,F,I,j,h7,O,Y⟩:=h;exact⟨a,p,o,e,U,ev,h1,h2,Z,F,I,j,h7,λb=>O (s o b (by rw[F];simp)),λb=>Y (s e b (by rw[j];simp))⟩
noncomputable def Hy (x:Str×V):Dt:=.tup [.flat (.str x.1),.flat x.2]
noncomputable def prD (x:Str×Str×V):Dt:=.tup [.flat (.str x.1),Hy x.2]
noncomputable def rzD (x:Rx):Dt:=.tup [.flat (.str x.wd),.tup (x.pl.map λi=>.flat (.int i)),.lst (x.ops.map Hy),.lst (x.ar.map prD)]
theorem ThAt.d (h:ThAt K H v x):IsD K H 1 v (Hy x):=by
 obtain⟨f,a,rfl,q⟩:=h;refine .tup q rfl λj v d h1 h2=>?_
 match j,h1,h2 with
 |0,h1,h2=>cases h1;cases h2;exact .flat rfl
 |1,h1,h2=>cases h1;cases h2;exact .flat f
theorem PrAt.d (h:PrAt K H v x):IsD K H 2 v (prD x):=by
 obtain⟨a,u,rfl,q,t⟩:=h;refine .tup q rfl λj v d h1 h2=>?_
 match j,h1,h2 with
 |0,h1,h2=>cases h1;cases h2;exact .flat rfl
 |1,h1,h2=>cases h1;cases h2;exact t.d
theorem Al.lstD {K:Pg}{H:Hp}{α:Type}{R:V->α->Prop}{g:α->Dt}{n:Nat}{a:Addr}{vs:List V}{xs:List α}(al:Al R vs xs)(e:SqL K H a vs)(h:∀v x,R v x->IsD K H n v (g x)):IsD K H (n+1) (.ref a) (.lst (xs.map g)):=by
 refine .lst e (by rw[Pp];exact al.1) λj v d h1 h2=>?_;rw[Qy]at h2;obtain⟨r,F,rfl⟩:=Rs.mp h2;exact h v r (al.2 j v r h1 F)
theorem Zmm {K:Pg}{H:Hp}{n:Nat}{p:Addr}{pl:List Int}(q:SqT K H p (pl.map V.int)):IsD K H (n+1) (.ref p) (.tup (pl.map λi=>.flat (.int i))):=by
 refine .tup q (by simp) λj v d h1 h2=>?_;rw[Qy]at h1 h2;obtain⟨k,F,rfl⟩:=Rs.mp h1;rw[F]at h2;cases h2;exact .flat rfl
theorem RwAt.d (h:RwAt K A H v x):IsD K H 4 v (rzD x):=by
 obtain⟨a,p,o,e,ov,ev,rfl,h2,O,U,I,F,h7,_,_⟩:=h;refine .tup h2 rfl λj v d Z Y=>?_
 match j,Z,Y with
 |0,h1,h2=>cases h1;cases h2;exact .flat rfl
 |1,h1,h2=>cases h1;cases h2;exact Zmm O
 |2,h1,h2=>cases h1;cases h2;exact(I.lstD (g:=Hy) (SqL.of U) λ_ _ t=>t.d).up (by lia)
 |3,h1,h2=>cases h1;cases h2;exact h7.lstD (g:=prD) (SqL.of F) λ_ _ t=>t.d
theorem Zcv (x:Str×V):Eg (Hy x):=.tup (by show 2<=5000;lia) λd h=>by
 simp only[Po,Px,or_false]at h;rcases h with rfl|rfl
 ·exact .flat _
 ·exact .flat _
theorem Zrl (x:Str×Str×V):Eg (prD x):=.tup (by show 2<=5000;lia) λd h=>by
 simp only[Po,Px,or_false]at h;rcases h with rfl|rfl
 ·exact .flat _
 ·exact Zcv _
theorem Ot {α:Type}{g:α->Dt}{xs:List α}(l:xs.length<=5000)(h:∀x∈xs,Eg (g x)):Eg (.lst (xs.map g)):=.lst (by rw[Pp];exact l) λd hd=>by
 obtain⟨x,j,rfl⟩:=Rf.mp hd;exact h x j
structure Rx.Ok (x:Rx):Prop where
 pl:x.pl.length<=5000
 ops:x.ops.length<=5000
 ar:x.ar.length<=5000
theorem Zlw (h:x.Ok):Eg (rzD x):=.tup (by show 4<=5000;lia) λd hd=>by
 simp only[Po,Px,or_false]at hd;rcases hd with rfl|rfl|rfl|rfl
 ·exact .flat _
 ·refine .tup (by rw[Pp];exact h.pl) λd hd=>?_;obtain⟨x,j,rfl⟩:=Rf.mp hd;exact .flat _
 ·exact Ot h.ops λx _=>Zcv x
 ·exact Ot h.ar λx _=>Zrl x
section
variable {g:TG}{tt:TT}{te:TE}{σ0:St}{H1:Hp}{D:Addr}{Q:VK}
end
end L2
namespace L2
open PySem PySem.Spec PyProof.Rows
section
variable {X:Cx}
end
section
variable {prog:Program}{w:World}{A:Around}{E:Value->Shared->Prop}{s:Shared}
end
section
variable {X:Cx}
end
section
variable {g:TG}{tt:TT}{te:TE}{σ0:St}{H1:Hp}{D:Addr}{Q:VK}
end
theorem via {t:TS}{X:St->Hp->Prop}{rt:VK}{bk ct:St->Hp->Prop}{σ:St}{H:Hp}(R:Hp->Prop)(h2:∀H',R H'->X σ H')(h1:∀Y:St->Hp->Prop,(∀H',R H'->Y σ H')->t ⟨Y,rt,bk,ct⟩ σ H):t ⟨X,rt,bk,ct⟩ σ H:=h1 X h2
section
variable {X:Cx}
open PySem.Builtin PySem.Builtin.Str in
noncomputable def Zo7 (z:Str):Value->Bool
 |.str a _=>a == z
 |_=>false
theorem Zg6:∀{ws:List Str}{us:List Value}{j:Nat}{u:Value},Vals (ws.map V.str) us->us[j]?=some u->∃a t,u=.str a t/\ws[j]?=some a
 |[],_,j,u,.nil,h=>by simp at h
 |a::r,_,0,u,.cons U _,h=>by
  obtain⟨t,rfl⟩:=U;have h:u=.str a t:=by simpa using h.symm
  exact⟨a,t,h,rfl⟩
 |a::r,_,j+1,u,.cons _ I,h=>by
  obtain⟨b,t,F,O⟩:=Zg6 (j:=j) I (by simpa using h);exact⟨b,t,F,by simpa using O⟩
def Znm (K:Pg):V->List V->Hp->VK->Prop:=λx vs H Q=>eX4 λ(l:Addr)(z:Str)(ws:List Str)(j:Nat)=>x=.ref l/\vs=[.str z]/\SqL K H l (ws.map V.str)/\ws[j]?=some z/\(∀m<j,ws[m]?≠some z)/\ws.length<=1000/\Q (.int (j:Nat)) H
theorem Zo3 (K:Pg)(hK:autoParam (X.K=K) zX):Hh X "list.index" (Znm K):=by
 subst hK;intro pins s σ H x vs v us Q I rx rv h;obtain⟨l,z,ws,j,rfl,rfl,hl,hj,ac,hz,q⟩:=h;cases rx;obtain⟨u,rfl,ru⟩:=rv.one;obtain⟨t,rfl⟩:=ru;obtain⟨O,r,p,_⟩:=I.list hl;have aa:=r.length;rw[Pp]at aa;have ag:=(Pt.mp hj).1;obtain⟨⟨ah,dd,af,sl⟩,ho,hc,n,hd⟩:=id p.isList;simp only at hc hd;subst hc hd;have U:∀m (Y:m<O.toArray.size),∃a t,O.toArray[m]=.str a t/\ws[m]?=some a:=λm Y=>by
  have ae:m<O.length:=by simpa using Y
  have:=Zg6 r (Pk ae);simpa using this
 refine Sn PySem.F.slot_list_index ⟨_,ho,rfl⟩ PySem.F.entry_list_index (PySem.F.args_list_index_2 _ _) (SeqAt.list_indexAt l O.toArray n dd sl (.str z t) (Zo7 z) j (by rw[Pl];lia) (by lia) ?_ ?_) ⟨ho,λy hy=>?_,?_⟩
 ·obtain⟨a,t',Z,e2⟩:=U j (by rw[Pl];lia);rw[hj]at e2;cases e2;rw[Z];show(z == z)=true;simp
 ·intro m Y ad;obtain⟨a,t',Z,e2⟩:=U m Y;rw[Z];show(a == z)=false;have:a≠z:=λe=>ac m ad (by rw[e2,e]);simpa using this
 ·obtain⟨m,Y,rfl⟩:=Array.mem_iff_getElem.mp hy;obtain⟨a,t',Z,e2⟩:=U m Y;rw[Z];exact P6.str_str a t' z t
 ·exact⟨.int (j:Nat),H,I.tok _,⟨_,rfl⟩,q⟩
end
section
variable {prog:Program}{w:World}{A:Around}{E:Value->Shared->Prop}{s:Shared}
end
section
variable {X:Cx}
end
section
variable {X:Cx}{k:Nat}{x:Str}{ps:List Str}{sp:Sp}{p pos:Pos}
end
structure C0 (CX:Cq)(P:Program)(w:World)(K:Pg)(mg:Str->Option Value)(base:Heap)(k:Nat)(C:Addr)(m:Str)(ps:List Str)(sp:Sp):Prop where
 ex:∃(g:Addr)(fd:FuncData),FnOk P w K mg base CX k g fd ps sp/\Cls K C/\Meth K C m g/\Binds K fd ps []
structure Og (CX:Cq)(P:Program)(w:World)(K:Pg)(mg:Str->Option Value)(base:Heap)(k:Nat)(x:Str)(C:Addr)(ps:List Str)(sp:Sp):Prop where
 ex:∃(f:Addr)(fd:FuncData),FnOk P w K mg base CX k f fd ps sp/\Mk K C f/\mg x=some (.ref C)/\Binds K fd ps []
def Zh3 (CX:Cq)(P:Program)(w:World)(K:Pg)(mg:Str->Option Value)(base:Heap)(k:Nat)(m:Str)(ps:List Str)(E:XK)(ta:TE)(t:TA):TE:=λσ H Q=>ta σ H λx H1=>eX5 λa C dx fs sp=>x=.ref a/\H1 a=some (.ins C dx fs)/\fs.lookup m=none/\C0 CX P w K mg base k C m ps sp /\
 t σ H1 λvs H2=>sp (.ref a::vs) H2 Q E
def tNew (C:Addr)(sp:Sp)(E:XK)(t:TA):TE:=λσ H Q=>t σ H λvs H1=>∀x dx,H1 x=none->H1 dx=none->dx≠x->sp (.ref x::vs) (upd (upd H1 dx (.own x)) x (.ins C dx [])) (λv H2=>v=.non/\Q (.ref x) H2) E
section
variable {X:Cx}{k:Nat}{x m:Str}{ps:List Str}{sp:Sp}{E:XK}{C:Addr}{p pos apos:Pos}{e o:Expr}{es:List Expr}{ta:TE}{t:TA}{CX:Cq}{P:Program}{w:World}{mg:Str->Option Value}{base:Heap}
theorem Db (K:Pg)(CX:Cq)(ps:List Str)(he:QE X o ta)(hr:Room k X.A)(hx:F6 CX X E)(ha:QA X (e::es) t)(hP:autoParam (X.prog=P) zX)(hw:autoParam (X.w=w) zX)(hK:autoParam (X.K=K) zX)(hmg:autoParam (X.mg=mg) zX)(hbs:autoParam (X.base=base) zX)(hst:autoParam (starEach (e::es) X.env=(false,eval e X.env)::starEach es X.env) zX)(hpl:autoParam ((backTo pos (starEach es X.env)).any (·.1)=false) zX)(ht:autoParam (eval (.Call (.Attribute o m apos) (e::es) [] pos) X.env=(do
   let ov <- eval o X.env
   standAt apos.atName
   let (f,first) <- holding [ov] (getMethod ov m pl)
   callWith pos f first (backTo pos (starEach (e::es) X.env)) (backToKw pos (keywordEach [] X.env)))) zX) :
  QE X (.Call (.Attribute o m apos) (e::es) [] pos) (Zh3 CX P w K mg base k m ps E ta t):=by
 subst hP hw hK hmg hbs;refine⟨λpins s σ H Q I h=>?_⟩;refine PySem.W.methodCall_KW (pl:=pl) (Ak (he.run pins s σ H _ I h) λu s1 j=>?_) ht;obtain⟨x,H1,Z,rx,a,C,dx,fs,sp,ex,ea,l,M,q⟩:=j;obtain⟨g,fd,F,c,U,hb⟩:=M.ex;subst ex;obtain rfl:u=Value.ref a:=rx;refine Zds Z ea c U l ?_;refine U3 (first:=[.ref a]) (h₀:=X.base) I.ok.mod.kin U.kp (Ak (ha.run pos pins s1 σ H1 _ Z q) λO s2 j=>?_) hst hpl;obtain⟨vs,H2,Y,r,q2⟩:=j;refine⟨Y.kIn,?_⟩;exact Pf (us:=.ref a::O) (vs:=.ref a::vs) (dvs:=[]) F hr hb .nil hx Y (.cons rfl r) (by rw[Q0];exact q2)
theorem Zfu (M:Og CX X.prog X.w X.K X.mg X.base k x C ps sp)(hr:Room (k+1) X.A)(hx:F6 CX X E)(ha:QA X (e::es) t)(hg:autoParam (Gl X x) zX)(hdb:autoParam ((x == ("__debug__":Str))=false) zW)
  (he:autoParam (starEach (e::es) X.env=(false,eval e X.env)::starEach es X.env) zX) (hpl:autoParam ((backTo pos (starEach es X.env)).any (·.1)=false) zX):QE X (.Call (.Name x p) (e::es) [] pos) (tNew C sp E t):=by
 obtain⟨f,fd,F,mk,Z,O⟩:=M.ex;refine⟨λpins s σ H Q I h=>?_⟩;refine Tz (Jb I hg Z ?_ hdb);refine U3 (h₀:=X.base) I.ok.mod.kin mk.kp (Ak (ha.run pos pins s σ H _ I h) λus s1 U=>?_) he hpl;obtain⟨vs,H1,j,r,q⟩:=U;refine⟨j.kIn,?_⟩;exact Zlv (dvs:=[]) mk F hr O .nil hx j r (λx dx h1 h2 Y=>by rw[Q0];exact q x dx h1 h2 Y)
end
section
variable {X:Cx}{e o value:Expr}{f:Str}{pos pos':Pos}{ta tv:TE}{pins:List (Addr×Obj)}{σ:St}{H:Hp}{s:Shared}
theorem B5 (K:Pg)(he:QE X e ta)(hb:autoParam (attributeBase e f X.env (eval e X.env)=eval e X.env) zX)(hK:autoParam (X.K=K) zX):QE X (.Attribute e f pos) (Zae K ta f):=by subst hK;exact Zjy he hb
theorem Jc (K:Pg)(ha:QE X o ta)(hv:QE X value tv)(hs:autoParam (swapsWith value (some (.Attribute o f pos')) pos.line X.env=pure false) zX)(hK:autoParam (X.K=K) zX):QS X (.Assign [.Attribute o f pos'] value pos) (Ng K ta tv f):=by subst hK;exact Zr9 ha hv hs
end
section
variable {X:Cx}{pins:List (Addr×Obj)}{σ:St}{H:Hp}{s:Shared}
end
section
variable {P:Program}{w:World}{K:Pg}{mg:Str->Option Value}{base:Heap}
end
section
variable {X:Cx}{k:Nat}{x:Str}{ps ks:List Str}{gV:List V->List V->List V}{sp:Sp}{E:XK}{C:Addr}{p pos kpos:Pos}{e:Expr}{es:List Expr}{kws:List Keyword}{te:TE}{t tk:TA}{CX:Cq}{nm:Option Str}{f:Addr}{fd:FuncData}{g:List Value->List Value->List Value}
end
section
variable {X:Cx}{pins:List (Addr×Obj)}{σ:St}{H:Hp}{s:Shared}
end
section
variable {κ:Type}[DecidableEq κ]
noncomputable def Cc (kvs:List (κ×V))(k:κ):Option V:=(kvs.find? λj=>decide (j.1=k)).map (·.2)
noncomputable def Da (kvs:List (κ×V))(k:κ)(v:V):List (κ×V) :=
 if (kvs.any λj=>decide (j.1=k))=true then kvs.map (λj=>if j.1=k then (j.1,v) else j) else kvs++[(k,v)]
theorem Et {p:κ×V}{r:List (κ×V)}{k:κ}(e:p.1=k):Cc (p::r) k=some p.2:=by simp[Cc,Rb,e]
theorem E4 {p:κ×V}{r:List (κ×V)}{k:κ}(e:¬p.1=k):Cc (p::r) k=Cc r k:=by simp[Cc,Rb,e]
theorem N6 (k:κ):∀kvs:List (κ×V),(kvs.any λkv=>decide (kv.1=k))=(Cc kvs k).isSome
 |[]=>rfl
 |p::r=>by
  rw[Ug];by_cases e:p.1=k
  ·simp only[Et e,decide_eq_true e,Bool.true_or,Option.isSome_some]
  ·rw[E4 e,decide_eq_false e,Bool.false_or];exact N6 k r
theorem Zgk (k j:κ)(y:V):∀kvs:List (κ×V),Cc (kvs.map λkv=>if kv.1=k then (kv.1,y) else kv) j=(Cc kvs j).map λx=>if j=k then y else x
 |[]=>rfl
 |p::r=>by
  have F:=Zgk k j y r;rw[Qs];by_cases h:p.1=k
  ·rw[if_pos h];by_cases e:p.1=j
   ·rw[Et (p:=(p.1,y)) e,Et e,Uc,if_pos (e.symm.trans h)]
   ·rw[E4 (p:=(p.1,y)) e,E4 e,F]
  ·rw[if_neg h];by_cases e:p.1=j
   ·rw[Et (p:=p) e,Et e,Uc,if_neg (λz=>h (e.trans z))]
   ·rw[E4 (p:=p) e,E4 e,F]
theorem Zdn (k j:κ)(y:V):∀kvs:List (κ×V),Cc kvs k=none->Cc (kvs++[(k,y)]) j=if j=k then some y else Cc kvs j
 |[],_=>by
  by_cases e:k=j
  ·rw[if_pos e.symm];exact Et (p:=(k,y)) e
  ·rw[if_neg (λz=>e z.symm)];exact E4 (p:=(k,y)) e
 |p::r,F=>by
  rw[Su];have I:¬p.1=k:=λz=>by rw[Et z]at F;cases F
  rw[E4 I]at F;have O:=Zdn k j y r F;by_cases e:p.1=j
  ·rw[Et e,Et e,if_neg (λz=>I (e.trans z))]
  ·rw[E4 e,E4 e,O]
theorem Zk2 (kvs:List (κ×V))(k j:κ)(y:V):Cc (Da kvs k y) j=if j=k then some y else Cc kvs j:=by
 unfold Da;by_cases a:(kvs.any λI=>decide (I.1=k))=true
 ·rw[if_pos a,Zgk];rw[N6]at a;by_cases e:j=k
  ·obtain⟨x,F⟩:=Sf.mp a;rw[if_pos e,e,F,Uc,if_pos rfl]
  ·rw[if_neg e];cases Cc kvs j with
   |none=>rfl
   |some x=>rw[Uc,if_neg e]
 ·rw[if_neg a];refine Zdn k j y kvs ?_;rw[N6]at a;cases q:Cc kvs k with
  |none=>rfl
  |some x=>rw[q]at a;exact(a rfl).elim
theorem Zbs (kvs:List (κ×V))(k:κ)(v:V):(Da kvs k v).length<=kvs.length+1:=by
 unfold Da;split
 ·rw[Pp];lia
 ·rw[Pn,Qc,Vi];lia
theorem RelO.isSome_eq (r:RelO o u):o.isSome=u.isSome:=by
 cases o with
 |none=>cases u with
  |none=>rfl
  |some _=>exact(show False from r).elim
 |some _=>cases u with
  |none=>exact(show False from r).elim
  |some _=>rfl
theorem KV.val (r:KV kvs vs)(k:κ):RelO (Cc kvs k) (valueAt vs k):=by
 unfold KV at r
 induction r with
 |nil=>exact True.intro
 | @cons p q ps j h t I =>
  obtain⟨h1,h2⟩:=h;by_cases e:p.1=k
  ·have F:q.1=k:=h1.symm.trans e;have b:valueAt (q::j) k=some q.2:=by simp[valueAt,Rb,F]
   rw[Et e,b];exact h2
  ·have F:¬q.1=k:=λz=>e (h1.trans z);have b:valueAt (q::j) k=valueAt j k:=by simp[valueAt,Rb,F]
   rw[E4 e,b];exact I
theorem KV.any (r:KV kvs vs)(k:κ):(kvs.any λkv=>decide (kv.1=k))=vs.any λkv=>decide (kv.1=k):=by
 unfold KV at r
 induction r with
 |nil=>rfl
 |cons h t j=>rw[Ug,Ug,j,h.1]
theorem KV.repl (r:KV kvs vs)(k:κ)(ry:RelV y u) :
  KV (kvs.map λkv=>if kv.1=k then (kv.1,y) else kv) (vs.map λkv=>if kv.1=k then (kv.1,u) else kv):=by
 unfold KV at r ⊢
 induction r with
 |nil=>exact .nil
 | @cons p q ps F h t j =>
  rw[Qs,Qs];refine .cons ?_ j;obtain⟨h1,h2⟩:=h;by_cases e:p.1=k
  ·rw[if_pos e,if_pos (h1.symm.trans e)];exact⟨h1,ry⟩
  ·rw[if_neg e,if_neg (λz=>e (h1.trans z))];exact⟨h1,h2⟩
theorem KV.put (r:KV kvs vs)(k:κ)(ry:RelV y u):KV (Da kvs k y) (stored vs k u):=by
 unfold Da stored;rw[r.any k];by_cases e:(vs.any λj=>decide (j.1=k))=true
 ·rw[if_pos e,if_pos e];exact r.repl k ry
 ·rw[if_neg e,if_neg e];exact Paired.snoc r ⟨rfl,ry⟩
theorem KV.length (r:KV kvs vs):kvs.length=vs.length:=Vn r
end
theorem Oh (r:RelV (kV k) u):(Dx P w).is k u=true:=by
 cases k with
 |inl i=>obtain⟨t,e⟩:=(show ∃t,u=Value.int i t from r);subst e;exact Zlz P w i t
 |inr x=>obtain⟨t,e⟩:=(show ∃t,u=Value.str x t from r);subst e;exact Zlr P w x t
theorem Ze5:∀{ks:List Au}{us:List Value},Vals (ks.map kV) us->ItemsAre (Dx P w) ks us
 |[],_,r=>by rw[Vu]at r;cases r;exact .nil
 |k::ks,_,r=>by
  rw[Qs]at r;cases r with
  |cons h t=>exact .cons (Oh h) (Ze5 t)
noncomputable abbrev KT (H:Hp):List (List Au×V)->List (List Au×Addr×Value)->Prop:=Paired λp q=>p.1=q.1/\H q.2.1=some (.tup (p.1.map kV))/\RelV p.2 q.2.2
theorem KT.val (r:KT H kvs xs)(k:List Au):RelO (Cc kvs k) ((atKey xs k).map (·.2)):=by
 induction r with
 |nil=>exact True.intro
 | @cons p q ps F h t I =>
  obtain⟨h1,_,h2⟩:=h;by_cases e:p.1=k
  ·have j:q.1=k:=h1.symm.trans e;have b:atKey (q::F) k=some q.2:=by simp[atKey,Rb,j]
   rw[Et e,b];exact h2
  ·have j:¬q.1=k:=λz=>e (h1.trans z);have b:atKey (q::F) k=atKey F k:=by simp[atKey,Rb,j]
   rw[E4 e,b];exact I
theorem KT.repl (r:KT H kvs xs)(k:List Au)(ry:RelV y u) :
  KT H (kvs.map λkv=>if kv.1=k then (kv.1,y) else kv) (xs.map (putAt k u)):=by
 induction r with
 |nil=>exact .nil
 | @cons p q ps I h t F =>
  rw[Qs,Qs];refine .cons ?_ F;obtain⟨h1,h2,j⟩:=h;unfold putAt;by_cases e:p.1=k
  ·rw[if_pos e,if_pos (h1.symm.trans e)];exact⟨h1,h2,ry⟩
  ·rw[if_neg e,if_neg (λz=>e (h1.trans z))];exact⟨h1,h2,j⟩
theorem KT.put (r:KT H kvs xs)(k:List Au)(hb:H b=some (.tup (k.map kV)))(ry:RelV y u) :
  KT H (Da kvs k y) (storedH xs k b u):=by
 have e:(kvs.any λj=>decide (j.1=k))=(atKey xs k).isSome:=by
  rw[N6,(r.val k).isSome_eq,Option.isSome_map]
 unfold Da storedH;rw[e];by_cases q:(atKey xs k).isSome=true
 ·rw[if_pos q,if_pos q];exact r.repl k ry
 ·rw[if_neg q,if_neg q];exact Paired.snoc r ⟨rfl,hb,ry⟩
theorem KT.keeps (r:KT H kvs xs)(ht:∀b ys,H b=some (.tup ys)->H' b=some (.tup ys)):KT H' kvs xs :=
 Paired.mapP r λ_ _ z=>⟨z.1,ht _ _ z.2.1,z.2.2⟩
section
variable {P:Program}{w:World}{H:Hp}{h:Heap}{a:Addr}
theorem Zeq (ok:HOk P w H h)(e:Rd H a u):ObjOk P w H h a u:=e.ok ok
theorem Om (ok:HOk P w H h)(e:Rd H a (.dK kvs)):kvs.length<=sizeLine/\(a == sysModules)=false/\∃vs,KV kvs vs/\h.DictOf (Dx P w) a vs :=
 show ObjOk P w H h a (.dK kvs) from Zeq ok e
theorem Zsl (ok:HOk P w H h)(e:H a=some (.dK kvs)):kvs.length<=sizeLine/\(a == sysModules)=false/\∃vs,KV kvs vs/\h.DictOf (Dx P w) a vs:=Om ok (.inl e)
theorem Mv (ok:HOk P w H h)(e:H a=some (.tup (ks.map kV))):(tupleKind (Dx P w)).is h ks a:=by
 obtain⟨_,j,r,o,h1,h2,n,F⟩:=(show ObjOk P w H h a (.tup (ks.map kV)) from ok a _ e);exact⟨o,j.toArray,n,h1,h2,F,by simpa using Ze5 r⟩
theorem My (ok:HOk P w H h)(e:Rd H a (.dT kvs)):kvs.length<=sizeLine/\(a == sysModules)=false /\
  ∃xs,KT H kvs xs/\h.DictOfH (tupleKind (Dx P w)) a xs:=by
 obtain⟨z,y,xs,r,o,es,O,h1,h2,U,Y,I⟩:=(show ObjOk P w H h a (.dT kvs) from Zeq ok e);refine⟨z,y,xs,r,o,es,O,h1,h2,U,Y,λx j=>?_,I⟩;have all:∀{l:List (List Au×V)}{m:List (List Au×Addr×Value)},KT H l m->∀x∈m,(tupleKind (Dx P w)).is h x.1 x.2.1:=by
  intro l m q
  induction q with
  |nil=>intro x j;exact nomatch j
  | @cons p q ps qs F t Z =>
   intro x j;rcases Po.mp j with e|j
   ·subst e;exact Mv ok (by rw[<- F.1];exact F.2.1)
   ·exact Z x j
 exact all r x j
theorem Zqx (ok:HOk P w H h)(e:H a=some (.dT kvs)):kvs.length<=sizeLine/\(a == sysModules)=false /\
  ∃xs,KT H kvs xs/\h.DictOfH (tupleKind (Dx P w)) a xs:=My ok (.inl e)
end
def DGet (H:Hp)(a:Addr)(y:V)(r:Option V):Prop :=
 (∃kvs k,Rd H a (.dK kvs)/\y=kV k/\r=Cc kvs k)\/eX3 λkvs k b=>Rd H a (.dT kvs)/\y=.ref b/\H b=some (.tup (k.map kV))/\r=Cc kvs k
def DPut (H:Hp)(a:Addr)(y v:V)(H':Hp):Prop :=
 (∃kvs k,H a=some (.dK kvs)/\y=kV k/\kvs.length<sizeLine/\H'=upd H a (.dK (Da kvs k v))) \/
 eX3 λkvs k b=>H a=some (.dT kvs)/\y=.ref b/\H b=some (.tup (k.map kV))/\kvs.length<sizeLine/\H'=upd H a (.dT (Da kvs k v))
theorem DGet.k {H:Hp}{a:Addr}{kvs:List (Au×V)}{k:Au}(e:H a=some (.dK kvs)):DGet H a (kV k) (Cc kvs k):=.inl ⟨kvs,k,.inl e,rfl,rfl⟩
theorem DGet.t {H:Hp}{a b:Addr}{kvs:List (List Au×V)}{k:List Au}(e:H a=some (.dT kvs))(eb:H b=some (.tup (k.map kV))):DGet H a (.ref b) (Cc kvs k):=.inr ⟨kvs,k,b,.inl e,rfl,eb,rfl⟩
theorem DPut.k {H:Hp}{a:Addr}{kvs:List (Au×V)}{k:Au}{v:V}(e:H a=some (.dK kvs))(hl:kvs.length<sizeLine):DPut H a (kV k) v (upd H a (.dK (Da kvs k v))):=.inl ⟨kvs,k,e,rfl,hl,rfl⟩
theorem DPut.t {H:Hp}{a b:Addr}{kvs:List (List Au×V)}{k:List Au}{v:V}(e:H a=some (.dT kvs))(eb:H b=some (.tup (k.map kV)))(hl:kvs.length<sizeLine) :
  DPut H a (.ref b) v (upd H a (.dT (Da kvs k v))):=.inr ⟨kvs,k,b,e,rfl,eb,hl,rfl⟩
section
variable {X:Cx}{pins:List (Addr×Obj)}{σ:St}{H:Hp}{s:Shared}{a:Addr}{y v:V}{u r:Value}{o:Option V}{A:Around}{E:Value->Shared->Prop}
theorem Inv.big (I:Inv X pins σ H s):sysModules<s.heap.objs.size:=by
 have h:mainGlobals<s.heap.objs.size:=(I.mod.glob.keeps I.bk).lt;exact Nat.lt_trans (by decide) h
theorem Zma (hu:A.units+1<cLine)(I:Inv X pins σ H s)(g:DGet H a y (some v))(ry:RelV y u)(h:∀w' s',Inv X pins σ H s'->RelV v w'->Q w' s') :
  wpAny (model X.prog X.w) A (getItem (.ref a) u) Q E s:=by
 rcases g with⟨kvs,k,e,Y,l⟩|⟨kvs,k,b,e,Y,Z,l⟩
 ·subst Y;obtain⟨z,hd,vs,F,dd⟩:=Om I.hok e;obtain⟨w',O,j⟩:=RelO.some_of (v:=v) (o:=valueAt vs k) (by rw[l];exact F.val k);exact wpAny_getItem_of (Oh ry) dd.mapOf O (h w' _ (I.tok _) j)
 ·subst Y;cases (show u=Value.ref b from ry);obtain⟨z,hd,xs,F,dd⟩:=My I.hok e;obtain⟨w',O,j⟩:=RelO.some_of (v:=v) (o:=(atKey xs k).map (·.2)) (by rw[l];exact F.val k);obtain⟨p,hp,U⟩:=Rs.mp O;refine wpAny_getItem_heap (tupleKind_room_in1 hu) (Mv I.hok Z) dd hp ?_;rw[U];exact h w' _ (I.tok _) j
theorem d_in (hu:A.units+1<cLine)(I:Inv X pins σ H s)(g:DGet H a y o)(ry:RelV y u)(h:∀s',Inv X pins σ H s'->Q (.bool o.isSome) s') :
  wpAny (model X.prog X.w) A (compareOp .In u (.ref a)) Q E s:=by
 rcases g with⟨kvs,k,e,F,l⟩|⟨kvs,k,b,e,F,O,l⟩
 ·subst F;obtain⟨z,hd,vs,j,dd⟩:=Om I.hok e;refine wpAny_in_of (Oh ry) hd dd.mapOf ?_;rw[<- (j.val k).isSome_eq,<- l];exact h _ (I.tok _)
 ·subst F;cases (show u=Value.ref b from ry);obtain⟨z,hd,xs,j,dd⟩:=My I.hok e;refine wpAny_in_heap (tupleKind_room_in1 hu) (Mv I.hok O) hd dd ?_;have q:=(j.val k).isSome_eq;rw[Option.isSome_map]at q;rw[<- q,<- l];exact h _ (I.tok _)
theorem Zgn (I:Inv X pins σ H s)(mu:Mut (H a))(hs:P4 a s.heap h')(he:∃q,h'.get? a=some q)(new:ObjOk X.prog X.w (upd H a ob) h' a ob) :
  Inv X pins σ (upd H a ob) { s with heap:=h',toks:=t' } :=
 I.write (x:=a) (e:=a) mu (.inl rfl) (λb q j z=>(hs.2 b j).trans z) he new
theorem Zpv (z:kvs.length<=sizeLine)(hd:(a == sysModules)=false)(rel:KV kvs vs)(dd:h'.DictOf (Dx P w) a vs) :
  ObjOk P w H' h' a (.dK kvs):=⟨z,hd,vs,rel,dd⟩
end
section
variable {X:Cx}{pins:List (Addr×Obj)}{σ:St}{H:Hp}{s:Shared}{a:Addr}{kvs:List (Au×V)}{k:Au}{u:Value}{A:Around}{E:Value->Shared->Prop}
end
def Zbc (i:Expr):Prop:=∀ov iv,subscripted i false ov iv=operate [ov,iv] (getItem ov iv)
theorem Zpl {prog:Program}{w:World}{A:Around}{E:Value->Shared->Prop}{s:Shared}{env:Env}{value slice:Expr}{pos:Pos}{T id:String}{Q:Value->Shared->Prop}
  (hl:typeLookup (.type T) "__getitem__"=pure (some (.builtin id))) (hs:Zbc slice)
  (h:wpAny (model prog w) A (eval value env) (λo s₁=>wpAny (model prog w) A (eval slice env) (λi s₂=>s₂.TypeIs o T/\wpAny (model prog w) A (getItem o i) Q E s₂) E s₁) E s) :
  wpAny (model prog w) A (eval (.Subscript value slice pos) env) Q E s:=by
 refine Subscript_ (Rp h (λo s₁ U=>Rp U (λi s₂ j=>?_) λ_ _ x=>x) λ_ _ x=>x);obtain⟨Y,j⟩:=j;unfold subscriptTail;refine Ph ?_;rw[getitemInPython_of_ne Y.not_modules];refine Ph (Wu Y hl ?_);have I:wpAny (model prog w) A (subscripted slice false o i) (λr F=>wpAny (model prog w) A (letTemporaryGo value o r >>= λ_=>pure r) Q E F) E s₂:=by
  rw[hs o i];exact wpAny_operating (Rp j (λr F O=>Ph (wpAny_letTemporaryGo (Pi O))) λ_ _ x=>x)
 first
  |exact Pi (Ph I)
  |exact Ph (Pi (Ph I))
  |exact Ph I
theorem Znt (I:Inv X pins σ H s)(g:DGet H a y o):s.TypeIs (.ref a) "dict":=by
 rcases g with⟨kvs,k,e,_,_⟩|⟨kvs,k,b,e,_,_,_⟩
 ·obtain⟨_,_,vs,_,dd⟩:=Om I.hok e;exact dd.typeIs
 ·obtain⟨_,_,xs,_,dd⟩:=My I.hok e;exact dd.typeIs
def Zea (td ty:TE):TE:=λσ H Q=>td σ H λx H1=>ty σ H1 λy H2=>∃a v,x=.ref a/\DGet H2 a y (some v)/\Q v H2
def tDIn (ty td:TE):TE:=λσ H Q=>ty σ H λy H1=>td σ H1 λx H2=>∃a o,x=.ref a/\DGet H2 a y o/\Q (.bl o.isSome) H2
section
variable {X:Cx}{o i e value:Expr}{pos pos' tpos:Pos}{td ty tv:TE}
end
theorem Zto (h:Heap)(hb:sysModules<h.objs.size):ObjOk P w H (h.push { cls:=.type "dict",data:=.dict #[] }) h.objs.size (.dK []) :=
 ⟨Qk _,beq_eq_false_iff_ne.mpr (Ps (P0 hb)),[],.nil,Heap.DictOf.new h⟩
theorem Zi2 (h:Heap)(hb:sysModules<h.objs.size):ObjOk P w H (h.push { cls:=.type "dict",data:=.dict #[] }) h.objs.size (.dT []) :=
 ⟨Qk _,beq_eq_false_iff_ne.mpr (Ps (P0 hb)),[],.nil,_,#[],0,P3 _ rfl,⟨rfl,rfl,rfl⟩,rfl,rfl,List.nodup_nil⟩
section
variable {X:Cx}{pos:Pos}
end
section
variable {X:Cx}{pins:List (Addr×Obj)}{σ:St}{H:Hp}{s:Shared}{a:Addr}{y d:V}{u r:Value}{o:Option V}{A:Around}{E:Value->Shared->Prop}
end
section
variable {X:Cx}{o e f:Expr}{apos cpos:Pos}{td ty tx:TE}
end
section
variable {X:Cx}{pins:List (Addr×Obj)}{σ:St}{H:Hp}{s:Shared}{a:Addr}{kvs:List (Au×V)}{A:Around}{E:Value->Shared->Prop}
end
section
variable {X:Cx}{pins:List (Addr×Obj)}{σ:St}{H:Hp}{s:Shared}{a:Addr}{y:V}{u:Value}{A:Around}{E:Value->Shared->Prop}
end
end L2
namespace PySem
theorem Zm4:typeLookup (.type "list") "keys"=pure none:=by rw[Ub,Tp];kernel_rfl
theorem Zob (hx:s.heap.get? a=some o)(hc:o.cls=.type "list")(hdat:o.data=.seq xs k)(hd:o.dict=none)(hmiss:typeLookup (.type "list") name=pure none)(hname:(["__module__","__name__","__qualname__","__doc__","__annotations__"]:List Str).contains name=false)(hA:A.handled=none)(h:∀h' tk,(∀b ob,s.heap.get? b=some ob->h'.get? b=some ob)->Q none { s with heap:=h',toks:=tk })(hsz:name.length+100<=sizeLine:=by size_fits) :
  wpAny (model prog w) A (getAttr? (.ref a) name) Q E s:=by
 obtain⟨c,U,Z,Y⟩:=o;simp only at hc hdat hd;subst hc hdat hd;obtain⟨hp,g,d,tk,os⟩:=s;have O:∀j,(⟨hp,g,d,j,os⟩:Shared).TypeIs (.ref a) "list":=λ_=>⟨_,hx,rfl⟩;have f1:=sub_AttributeError;have f3:=V5.lookup;have f4:=V5.bind (.ref a);have f5:=am_list_getattr_none;unfold getAttr? getAttrBy? getAttrBy
 repeat (any_goals (first|assumption|exact O _|((with_reducible show wpAny _ _ (call (Value.builtin "list.__getattribute__") _ _) _ _ _);refine Sn V5 (O _) am_entry_list_getattribute (F.args_list_getattribute_2 _ _) (meets_getattribute_miss_list a xs k Y name _ hmiss hname hsz) ⟨hx,hA,λh' j e I=>?_⟩)|wp_step))
 obtain⟨t',u',he⟩:=I.there;unfold getattributeRaised
 repeat (any_goals (first|assumption|wp_step))
 exact h _ _ I.keeps
namespace F
theorem entry_dict_update_loop:entryFor table "dict.update.loop"=some Builtin.«dict.update.loop»:=entryFor_of_tree (by kernel_rfl)
theorem plain_dict_update_loop:plainId "dict.update.loop"=true:=by right
end F
end PySem
namespace L2
open PySem PySem.Spec PyProof.Rows
section
variable {X:Cx}{pins:List (Addr×Obj)}{σ:St}{H:Hp}{s:Shared}{a:Addr}{y v:V}{u r:Value}{A:Around}{E:Value->Shared->Prop}
theorem Zt8 (hu:A.units<cLine)(I:Inv X pins σ H s)(g:DPut H a y v H')(ry:RelV y u)(rv:RelV v r)(h:∀s',Inv X pins σ H' s'->P4 a s.heap s'.heap->Q () s') :
  wpAny (model X.prog X.w) A (dictSet a u r) Q E s:=by
 rcases g with⟨kvs,k,e,Z,l,Y⟩|⟨kvs,k,b,e,Z,eb,l,Y⟩
 ·subst Z Y;obtain⟨z,hd,vs,j,dd⟩:=Zsl I.hok e;have hz:vs.length<=sizeLine:=by rw[<- j.length];exact z
  have U:(Da kvs k v).length<=sizeLine:=by have:=Zbs kvs k v;lia
  refine wpAny_dictSet_pairs (hsz:=hz) (Oh ry) dd λh' F hs=>h _ ?_ hs;have he:∃q,h'.get? a=some q:=let ⟨q,_,_,O,_⟩:=F;⟨q,O⟩;exact Zgn I (by rw[e];exact True.intro) hs he (Zpv U hd (j.put k rv) F)
 ·subst Z Y;cases (show u=Value.ref b from ry);obtain⟨z,hd,xs,j,dd⟩:=Zqx I.hok e;have hz:xs.length<=sizeLine:=by rw[<- Vn j];exact z
  have U:(Da kvs k v).length<=sizeLine:=by have:=Zbs kvs k v;lia
  refine wpAny_dictSet_heap (hsz:=hz) hu (Mv I.hok eb) dd λh' F hs=>h _ ?_ hs;obtain⟨q,es,ep,O,h2,h3,h4,_,h5⟩:=F;refine Zgn I (by rw[e];exact True.intro) hs ⟨q,O⟩ ⟨U,hd,_,(j.put k eb rv).keeps λc ys ec=>?_,q,es,ep,O,h2,h3,h4,h5⟩;rw[Ag (Dw ec e (λz=>nomatch z))];exact ec
theorem Zr2 {R:Result->Shared->Prop}{p it d:Addr}{xs:List V}{Hs:Nat->Hp}{res:Value}(hh:A.handled=none)(hu:A.units+1<cLine)(hdi:d≠it)(hd:∀i,i<=xs.length->SqL X.K (Hs i) p xs)(hf:∀i,FpOk X pins (Hs i) it)
  (hs:∀i x,xs[i]?=some x->eX3 λ(c:Addr)(y v:V)=>x=.ref c/\SqT X.K (Hs i) c [y,v]/\DPut (Hs i) d y v (Hs (i+1)))
  (fin:∀s',Inv X pins σ (Hs xs.length) s'->R (.ok (.ret res)) s') :
  ∀(k i:Nat)(s:Shared),xs.length-i=k->i<=xs.length->Inv X pins σ (Hs i) s->s.heap.IsListIter it p i ->
  codeAny (model X.prog X.w) A (.builtin "dict.update.loop" ⟨[.ref d,.ref it,rawInt i,res],[]⟩) R s:=by
 intro k
 induction k with
 |zero =>
  intro i s hk hi I st;have ad:i=xs.length:=by lia
  subst ad;obtain⟨ae,rv,pl,hz⟩:=I.list (hd _ hi);obtain⟨f0,f1,f2,f3,f4,f5⟩:=hf xs.length;have hl:=rv.length;refine Sy PySem.F.entry_dict_update_loop ?_;rw[Sr PySem.F.plain_dict_update_loop _];show wpAny _ A.in1 (pyNext (.ref it) >>= _) _ _ s;refine Ph (wpAny_pyNext_list_end hh st pl.isList (by simp;lia) λh' eb=>?_);have I':=I.turned (t':=s.toks) (λb o Z e=>eb b o Z e) f0 f1 f3 f4 f5;exact Ph (Pi (Pi (fin _ I')))
 |succ k ih =>
  intro i s hk hi I st;have j:i<xs.length:=by lia
  obtain⟨ae,rv,pl,hz⟩:=I.list (hd _ hi);obtain⟨c,y,v,ex,hc,U⟩:=hs i _ (Pk j);obtain⟨u,ag,ru⟩:=rv.get (Pk j);rw[ex]at ru;cases ru;obtain⟨f0,f1,f2,f3,f4,f5⟩:=hf i;refine Sy PySem.F.entry_dict_update_loop ?_;rw[Sr PySem.F.plain_dict_update_loop _];show wpAny _ A.in1 (pyNext (.ref it) >>= _) _ _ s;refine Ph (wpAny_pyNext_list_item st pl.isList (x:=.ref c) (by simpa using ag) λh' aa sb=>?_);have I1:Inv X pins σ (Hs i) { s with heap:=h' }:=I.turned (t':=s.toks) (λb o Z e=>(sb.2 b Z).trans e) f0 f1 f3 f4 f5;obtain⟨Y,ac,pt,ah⟩:=I1.tuple hc;obtain⟨u1,O,rfl,r1,r2⟩:∃u1 O,Y=[u1,O]/\RelV y u1/\RelV v O:=by
   cases ac with
   |cons r1 t=>cases t with
    |cons r2 t=>cases t;exact⟨_,_,rfl,r1,r2⟩
  obtain⟨ot,et,ct,nt,dt⟩:=pt;obtain⟨oc,od,aj,ai⟩:=ot;cases ct;cases dt;refine Ph (Q5 ?_);refine Ph (wpAny_tryCatch ?_);have hT:(⟨h',s.gens,s.drawn,s.toks,s.os⟩:Shared).TypeIs (.ref c) "tuple":=⟨_,et,rfl⟩;unfold Builtin.Dict.pairItems;refine Ph (Tg hT ?_);rw[if_pos (by decide)];refine Ph ?_;unfold seqItems?;refine Ph (wpAny_load et (Pi (Pi ?_)));show wpAny _ A.in1 (holding [u1,O] (dictSet d u1 O)) _ _ _;refine Q5 (Zt8 (by exact hu) I1 U r1 r2 λs2 I2 af=>?_);refine Pi ⟨Sl PySem.F.plain_dict_update_loop _,?_⟩;have e1:rawInt ((i:Int)+1)=rawInt (((i+1:Nat)):Int):=rfl;rw[e1];exact ih (i+1) s2 (by lia) j I2 (aa.at λo e=>(af.2 it (Ps hdi)).trans e)
noncomputable def Ca {κ:Type}[DecidableEq κ](kvs:List (κ×V))(l:List (κ×V)):List (κ×V):=l.foldl (λa j=>Da a j.1 j.2) kvs
theorem Zgr {κ:Type}[DecidableEq κ](l:List (κ×V)):∀kvs:List (κ×V),(Ca kvs l).length<=kvs.length+l.length:=by
 induction l with
 |nil=>intro kvs;exact Pj _
 |cons j r F =>
  intro kvs;have h1:=F (Da kvs j.1 j.2);have h2:=Zbs kvs j.1 j.2;rw[Qc];show(Ca (Da kvs j.1 j.2) r).length<=_;lia
theorem Zg1 {κ:Type}[DecidableEq κ]{l:List (κ×V)}{i:Nat}{kv:κ×V}(h:l[i]?=some kv)(kvs:List (κ×V)):Ca kvs (l.take (i+1))=Da (Ca kvs (l.take i)) kv.1 kv.2:=by
 unfold Ca;rw[R6,h,List.foldl_append];rfl
def Zd4 (K:Pg):List V->Hp->VK->Prop:=λxs H Q=>∃(p:Addr)(vs:List V),xs=[.ref p]/\SqL K H p vs /\
 ((∃kvs:List (Au×V),Al (λx (j:Au×V)=>∃a,x=.ref a/\SqT K H a [kV j.1,j.2]) vs kvs/\∀d,H d=none->Q (.ref d) (upd H d (.dK (Ca [] kvs)))) \/
   (∃kvs:List (List Au×V),Al (λx (j:List Au×V)=>∃a b,x=.ref a/\SqT K H a [.ref b,j.2]/\H b=some (.tup (j.1.map kV))) vs kvs/\∀d,H d=none->Q (.ref d) (upd H d (.dT (Ca [] kvs)))))
theorem Zg8 {p:Addr}{vs:List V}{Q:VK}{Hs:Nat->Hp}(hu:A.units+3<cLine)(hh:A.handled=none)(I:Inv X pins σ H s)(hq:SqL X.K H p vs)(d:Addr)(hdd:d=s.heap.objs.size)
  (h0:Inv X pins σ (Hs 0) { s with heap:=s.heap.push { cls:=.type "dict",data:=.dict #[] } }) (hs0:∀i b,H b=none->b≠d->Hs i b=none) (hsd:∀i,i<=vs.length->SqL X.K (Hs i) p vs)
  (hs:∀i x,vs[i]?=some x->eX3 λ(c:Addr)(y v:V)=>x=.ref c/\SqT X.K (Hs i) c [y,v]/\DPut (Hs i) d y v (Hs (i+1))) (q:Q (.ref d) (Hs vs.length)) :
  wpAny (model X.prog X.w) A (call (.type "dict") [.ref p]) (EP X pins σ Q) E s:=by
 refine callType_codes (Q₁:=λobj O=>obj=.ref s.heap.objs.size/\O={ s with heap:=s.heap.push { cls:=.type "dict",data:=.dict #[] } }) F.kt_called_dict (F.kt_typeCall_dict_1 _) F.entry_dict_init (kt_code_dict_new _ ⟨rfl,rfl⟩) ?_;rintro obj O ⟨rfl,rfl⟩;have U:({ s with heap:=s.heap.push { cls:=.type "dict",data:=.dict #[] } }:Shared).TypeIs (.ref s.heap.objs.size) "dict":=⟨_,P3 _ rfl,rfl⟩;refine⟨U,F.args_dict_init_2 _ _,?_⟩;unfold Builtin.«dict.__init__»;refine Ph ?_;unfold Builtin.Dict.selfAndRest;refine Ph (wpAny_notOrdered_dict U ?_);show wpAny _ _ (pure (s.heap.objs.size,[Value.ref p])) _ _ _;refine Pi ?_;show wpAny _ _ (Builtin.Dict.updateFrom "dict.__init__" s.heap.objs.size (.ref p) [] .none) _ _ _;subst hdd;obtain⟨aa,rv,pl,hz⟩:=h0.list (hsd 0 (Qk _));have ad:s.heap.objs.size<(s.heap.push { cls:=Value.type "dict",data:=Data.dict #[] }).objs.size:=by rw[Qq];exact U9 _
 generalize hs1:({ s with heap:=s.heap.push { cls:=.type "dict",data:=.dict #[] } }:Shared)=s1 at *
 have ae:s.heap.objs.size<s1.heap.objs.size:=by rw[<- hs1];exact ad
 obtain⟨ol,nl,el,cl,dn,dl⟩:=pl;unfold Builtin.Dict.updateFrom;refine Ph (Tg ⟨_,el,cl⟩ ?_);rw[if_pos (by decide)];refine Ph (Zob el cl dl dn Zm4 (by right) hh (λh2 Y kp=>?_) (by right));rw[if_pos (by decide)];refine Ph (Tj ?_);have I2:Inv X pins σ (Hs 0) { s1 with heap:=h2,toks:=Y }:=h0.kept kp;have ac:h2.IsList p aa.toArray:=⟨ol,kp _ _ el,cl,nl,dl⟩;refine Ph (U8 ac ?_);have j:s.heap.objs.size<h2.objs.size:=by
  obtain⟨on,en,_⟩:=U;exact Pq (kp _ _ en)
 have Z:∀i,Hs i h2.objs.size=none:=λi=>hs0 i _ (I.hok.fresh (Uh j)) (Q1 j);refine Pi ⟨Sl PySem.F.plain_dict_update_loop _,Zr2 (A:=A.in1) (Hs:=Hs) (xs:=vs) (p:=p) hh (by show A.units+1+1<cLine;lia) (P0 j) hsd (λi=>I2.fpOk (Pj _) (Z i)) hs (λs' I'=>?_) vs.length 0 _ rfl (Qk _) (I2.kept (t':=Y) λb o e=>Pm _ e) ⟨_,P3 _ rfl,rfl,rfl⟩⟩;exact⟨rfl,.ref s.heap.objs.size,_,I',rfl,q⟩
theorem Zml (hu:X.A.units+3<cLine)(hh:X.calm=true):Cw X (.type "dict") (Zd4 X.K):=by
 intro pins s σ H xs us Q I r h;obtain⟨p,vs,rfl,O,h⟩:=h;obtain⟨u,rfl,rx⟩:=Hj r;cases rx;have j:H s.heap.objs.size=none:=I.hok.fresh (Pj _);have ac:p≠s.heap.objs.size:=by
  obtain⟨aa,rv,⟨o,n,e,_⟩,hz⟩:=I.list O;exact P0 (Pq e)
 have hn:vs.length<=sizeLine:=by
  obtain⟨aa,rv,_,hz⟩:=I.list O;exact hz
 rcases h with⟨kvs,Z,q⟩|⟨kvs,Z,q⟩
 ·refine Zg8 (Hs:=λi=>upd H s.heap.objs.size (.dK (Ca [] (kvs.take i)))) hu (I.ok.hd hh) I O s.heap.objs.size rfl (I.laid (a:=s.heap.objs.size) (o:=.dK []) (t':=s.toks) (λ_ _ q=>Pm _ q) (Pj _) (Zto s.heap I.big)) (λi b U hd=>by show upd H _ _ b=none;rw[Ag hd];exact U) (λi _=>(Same.upd j).seq O) (λi x Y=>?_) ?_
  ·obtain⟨kv,F,c,rfl,hc⟩:=Z.get Y;have hi:i<vs.length:=(Pt.mp Y).1;refine⟨c,_,_,rfl,(Same.upd j).tup hc,?_⟩;show DPut _ _ _ _ (upd H s.heap.objs.size (.dK (Ca [] (kvs.take (i+1)))));rw[Zg1 F];have hl:(Ca [] (kvs.take i)).length<sizeLine:=by have:=Zgr (kvs.take i) ([]:List (Au×V));rw[Qm]at this;simp only[Vi]at this;lia
   have r:=DPut.k (H:=upd H s.heap.objs.size (.dK (Ca [] (kvs.take i)))) (k:=kv.1) (v:=kv.2) Ae hl;rw[Hw]at r;exact r
  ·show Q _ (upd H s.heap.objs.size (.dK (Ca [] (kvs.take vs.length))));rw[Z.1,T8];exact q _ j
 ·refine Zg8 (Hs:=λi=>upd H s.heap.objs.size (.dT (Ca [] (kvs.take i)))) hu (I.ok.hd hh) I O s.heap.objs.size rfl (I.laid (a:=s.heap.objs.size) (o:=.dT []) (t':=s.toks) (λ_ _ q=>Pm _ q) (Pj _) (Zi2 s.heap I.big)) (λi b U hd=>by show upd H _ _ b=none;rw[Ag hd];exact U) (λi _=>(Same.upd j).seq O) (λi x Y=>?_) ?_
  ·obtain⟨kv,F,c,b,rfl,hc,U⟩:=Z.get Y;have hi:i<vs.length:=(Pt.mp Y).1;refine⟨c,_,_,rfl,(Same.upd j).tup hc,?_⟩;show DPut _ _ _ _ (upd H s.heap.objs.size (.dT (Ca [] (kvs.take (i+1)))));rw[Zg1 F];have hl:(Ca [] (kvs.take i)).length<sizeLine:=by have:=Zgr (kvs.take i) ([]:List (List Au×V));rw[Qm]at this;simp only[Vi]at this;lia
   have r:=DPut.t (H:=upd H s.heap.objs.size (.dT (Ca [] (kvs.take i)))) (v:=kv.2) Ae ((Same.upd j) _ _ U) hl;rw[Hw]at r;exact r
  ·show Q _ (upd H s.heap.objs.size (.dT (Ca [] (kvs.take vs.length))));rw[Z.1,T8];exact q _ j
end
theorem Room.u1 (r:Room k A):A.units+1<cLine:=by have:=r.u200;lia
section
variable {X:Cx}{k:Nat}{x m f:Str}{ps:List Str}{sp:Sp}{E:XK}{C:Addr}{p pos pos' tpos apos:Pos}{e o i value:Expr}{es:List Expr}{ta tv td ty:TE}{t:TA}{CX:Cq}{P:Program}{w:World}{mg:Str->Option Value}{base:Heap}{K:Pg}
theorem Zgo (K:Pg)(CX:Cq)(ps:List Str)(he:QE X o ta)(hr:Room k X.A)(hx:F6 CX X E)(hP:autoParam (X.prog=P) zX)(hw:autoParam (X.w=w) zX)(hK:autoParam (X.K=K) zX)(hmg:autoParam (X.mg=mg) zX)(hbs:autoParam (X.base=base) zX)(ht:autoParam (eval (.Call (.Attribute o m apos) [] [] pos) X.env=(do
   let ov <- eval o X.env
   standAt apos.atName
   let (f,first) <- holding [ov] (getMethod ov m pl)
   callWith pos f first (backTo pos (starEach [] X.env)) (backToKw pos (keywordEach [] X.env)))) zX) :
  QE X (.Call (.Attribute o m apos) [] [] pos) (Zh3 CX P w K mg base k m ps E ta J1):=by
 subst hP hw hK hmg hbs;refine⟨λpins s σ H Q I h=>?_⟩;refine PySem.W.methodCall_KW (pl:=pl) (Ak (he.run pins s σ H _ I h) λu s1 Y=>?_) ht;obtain⟨x,H1,j,Z,a,C,dx,fs,sp,ex,ea,l,M,q⟩:=Y;obtain⟨g,fd,F,c,O,U⟩:=M.ex;subst ex;obtain rfl:u=Value.ref a:=Z;refine Zds j ea c O l ?_;exact PySem.W.callWith_K0 (first:=[.ref a]) j.kIn O.kp (Pf (us:=[.ref a]) (vs:=[.ref a]) (dvs:=[]) F hr U .nil hx j (.cons rfl .nil) q)
theorem Zeu (K:Pg)(ha:QE X o ta)(hv:QE X value tv)(hop:Zba X op rd)(hK:autoParam (X.K=K) zX):QS X (.AugAssign (.Attribute o f tpos) op value pos) (Zhg K ta tv rd f):=by subst hK;exact⟨Zr6 ha.run hv.run hop⟩
theorem Zfd (K:Pg)(hu:X.A.units+200<cLine)(hh:X.calm=true)(hK:autoParam (X.K=K) zX):Cw X (.type "dict") (Zd4 K):=by subst hK;exact Zml (by lia) hh
theorem Kg (hu:X.A.units+1<cLine)(ho:QE X o td)(hi:QE X i ty)(hs:Zbc i):QE X (.Subscript o i pos) (Zea td ty):=by
 refine⟨?_⟩;have ho:=ho.run;have hi:=hi.run
 intro pins s σ H Q I h;refine Zpl PySem.F.slot_dict_getitem.lookup hs (Ak (ho pins s σ H _ I h) λu s1 O=>?_);obtain⟨x,H1,I1,rx,Z⟩:=O;refine Ak (hi pins s1 σ H1 _ I1 Z) λiv s2 O=>?_;obtain⟨y,H2,U,ry,a,v,ex,g,q2⟩:=O;subst ex;obtain rfl:u=Value.ref a:=rx;exact⟨Znt U g,Zma hu U g ry λw' s3 Y j=>⟨v,H2,Y,j,q2⟩⟩
theorem Zrp (hu:X.A.units+1<cLine)(hi:QE X i ty)(ho:QE X o td):QC X .In i o (tDIn ty td):=by
 refine⟨?_⟩;have hi:=hi.run;have ho:=ho.run
 intro pins s σ H Q I h;refine Ak (hi pins s σ H _ I h) λiv s1 j=>?_;obtain⟨y,H1,Z,U,O⟩:=j;refine Ak (ho pins s1 σ H1 _ Z O) λu s2 j=>?_;obtain⟨x,H2,I2,Y,a,ov,ex,g,q2⟩:=j;subst ex;obtain rfl:u=Value.ref a:=Y;exact d_in hu I2 g U λs3 F=>⟨.bl ov.isSome,H2,F,rfl,q2⟩
def Zcb (K:Pg):R2:=λx y H Q=>Ij K x y H Q\/eX4 λ(a b:Addr)(xs ys:List V)=>x=.ref a/\y=.ref b/\H a=some (.tup xs)/\H b=some (.tup ys)/\xs.length+ys.length<=sizeLine/\∀p H',Same H H'->H' p=some (.tup (xs++ys))->Q (.ref p) H'
theorem Zm9:OpR X (binaryOp .Add) (Zcb X.K):=by
 refine op_addA.or ?_;intro pins s σ H x y v u Q I rx ry h;obtain⟨a,b,xs,ys,rfl,rfl,ha,hb,hz,q⟩:=h;have Y:SqT X.K H a xs:=SqT.of ha;have U:SqT X.K H b ys:=SqT.of hb;by_cases hx:xs=[]
 ·subst hx;cases rx;cases ry;obtain⟨ag,r1,p1,_⟩:=I.tuple Y;obtain⟨af,r2,p2,_⟩:=I.tuple U;cases r1;obtain⟨⟨ah,dd,ae,sl⟩,ho,hc,n,hd⟩:=id p1;obtain⟨⟨ad,ac,aa,Z⟩,F,O,n2,j⟩:=id p2;simp only at hc hd O j;subst hc hd O j;exact Vt ⟨_,ho,rfl⟩ ⟨_,F,rfl⟩ Va Vo Uy Uv (Us _ _)
   (tuple_addW0 a b _ _ n n2 dd ac sl Z (by simp)) ⟨ho,F,⟨.ref b,H,I,rfl,q b H (Same.refl H) hb⟩⟩
 ·refine Ze7 pins s σ H _ _ v u Q I rx ry ⟨a,b,xs,ys,rfl,rfl,Y,U,hx,hz,λe=>?_,λ_ p hp=>q p _ (λc o e=>by rw[Ag (Cy e hp)];exact e) Ae⟩;subst e;exact q a H (Same.refl H) (by rw[Q0];exact ha)
theorem Lm (K:Pg)(hK:autoParam (X.K=K) zX):OpR X (binaryOp .Add) (Zcb K):=by subst hK;exact Zm9
theorem Zby (ha:H a=some (.tup xs))(hb:H b=some (.tup ys))(hz:xs.length+ys.length<=sizeLine)(h:∀p H',Same H H'->H' p=some (.tup (xs++ys))->Q (.ref p) H'):Zcb K (.ref a) (.ref b) H Q:=.inr ⟨a,b,xs,ys,rfl,rfl,ha,hb,hz,h⟩
end
end L2
namespace L2
open PySem
inductive RowT (K:Pg)(H:Hp)(v:V)(x:List Nat×Tr):Prop
 |mk (a p:Addr)(u:V)(_:v=.ref a)(_:SqT K H a [.ref p,u])(_:H p=some (.tup (A4 x.1)))(_:TrAt K H u x.2)
theorem RowT.same (e:SameT H H')(v:V)(x:List Nat×Tr)(h:RowT K H v x):RowT K H' v x:=by
 obtain⟨a,p,u,r,q,j,t⟩:=h;exact⟨a,p,u,r,e.tup q,(e p).1 _ j,t.sameT e⟩
theorem Zub {κ:Type}[DecidableEq κ](l:List (κ×V))(kv:κ×V)(kvs:List (κ×V)):Ca kvs (l++[kv])=Da (Ca kvs l) kv.1 kv.2:=by
 unfold Ca;rw[List.foldl_append];rfl
noncomputable def Ee {κ:Type}[DecidableEq κ](l:List (κ×V))(k:κ):Option V:=(l.reverse.find? λj=>decide (j.1=k)).map (·.2)
theorem Zas {κ:Type}[DecidableEq κ](l:List (κ×V))(kv:κ×V)(k:κ):Ee (l++[kv]) k=if kv.1=k then some kv.2 else Ee l k:=by
 unfold Ee;rw[Ss,Uz,V9,Rb];by_cases h:kv.1=k
 ·simp[h]
 ·simp[h]
theorem Zal {α:Type}{P:List α->Prop}(h0:P [])(h1:∀l x,P l->P (l++[x]))(l:List α):P l:=by
 rw[<- l.reverse_reverse]
 induction l.reverse with
 |nil=>exact h0
 |cons x r j=>rw[T6];exact h1 _ _ j
theorem O2 {κ:Type}[DecidableEq κ](l:List (κ×V))(k:κ):Cc (Ca [] l) k=Ee l k:=by
 refine Zal (P:=λl=>Cc (Ca [] l) k=Ee l k) rfl (λl F j=>?_) l;rw[Zub,Zas,Zk2,j];by_cases h:F.1=k
 ·rw[if_pos h,if_pos h.symm]
 ·rw[if_neg h,if_neg (Ps h)]
structure Wt where
 pl:List Nat
 ar:List (Str×Str×V)
 came:Bool
structure MS where
 rows:List Rx
 wait:List Wt
 things:List (Str×V)
 steps:Int
noncomputable def A1 (pl:List Nat):List Int:=pl.map λi:Nat=>((i:Nat):Int)
theorem Ez (pl:List Nat):(A1 pl).map V.int=A4 pl:=by unfold A1 A4;rw[List.map_map];rfl
noncomputable def Dn (pl:List Nat):List Au:=pl.map λi:Nat=>Sum.inl ((i:Nat):Int)
theorem J8 (pl:List Nat):(Dn pl).map kV=A4 pl:=by unfold Dn A4;rw[List.map_map];rfl
inductive WtAt (K:Pg)(A:Addr->Prop)(H:Hp)(v:V)(x:Wt):Prop
 |mk (a p e:Addr)(ev:List V)(_:v=.ref a)(_:SqT K H a [.ref p,.ref e,.bl x.came])(_:H p=some (.tup (A4 x.pl)))(_:H e=some (.lst ev))(_:Al (PrAt K H) ev x.ar)(_:¬A e)
theorem WtAt.same (s:SameA A H H')(v:V)(x:Wt)(h:WtAt K A H v x):WtAt K A H' v x:=by
 obtain⟨a,p,e,ev,h1,h2,O,I,F,j⟩:=h;exact⟨a,p,e,ev,h1,s.1.tup h2,(s.1 p).1 _ O,s.2 _ _ j I,F.mono (PrAt.same s.1),j⟩
theorem WtAt.mono (s:∀b,B b->H b≠none->A b)(v:V)(x:Wt)(h:WtAt K A H v x):WtAt K B H v x:=by
 obtain⟨a,p,e,ev,h1,h2,O,j,I,F⟩:=h;exact⟨a,p,e,ev,h1,h2,O,j,I,λb=>F (s e b (by rw[j];simp))⟩
def RwX (K:Pg)(A:Addr->Prop)(H:Hp)(v:V)(x:Rx):Prop:=RwAt K A H v x/\eX4 λ(a p o e:Addr)=>v=.ref a/\SqT K H a [.str x.wd,.ref p,.ref o,.ref e]/\H p=some (.tup (x.pl.map V.int))
theorem RwX.same (s:SameA A H H')(v:V)(x:Rx)(h:RwX K A H v x):RwX K A H' v x:=by
 obtain⟨h1,a,p,o,e,r,q,t⟩:=h;exact⟨RwAt.same s v x h1,a,p,o,e,r,s.1.tup q,(s.1 p).1 _ t⟩
theorem RwX.mono (s:∀b,B b->H b≠none->A b)(v:V)(x:Rx)(h:RwX K A H v x):RwX K B H v x:=⟨RwAt.mono s v x h.1,h.2⟩
inductive RwO (K:Pg)(A:Addr->Prop)(H:Hp)(v:V)(y:Rx×Addr×Addr):Prop
 |mk (a p:Addr)(ov ev:List V)(_:v=.ref a)(_:SqT K H a [.str y.1.wd,.ref p,.ref y.2.1,.ref y.2.2])(_:SqT K H p (y.1.pl.map V.int))(_:H y.2.1=some (.lst ov))(_:Al (ThAt K H) ov y.1.ops)(_:H y.2.2=some (.lst ev))(_:Al (PrAt K H) ev y.1.ar)(_:¬A y.2.1)(_:¬A y.2.2)(_:y.2.1≠y.2.2)
theorem RwO.same (s:SameA A H H')(v:V)(y:Rx×Addr×Addr)(h:RwO K A H v y):RwO K A H' v y:=by
 obtain⟨a,p,Y,ev,h1,h2,h3,Z,O,I,h7,j,F,U⟩:=h;exact⟨a,p,Y,ev,h1,s.1.tup h2,s.1.tup h3,s.2 _ _ j Z,O.mono (ThAt.same s.1),s.2 _ _ F I,h7.mono (PrAt.same s.1),j,F,U⟩
theorem RwO.mono (s:∀b,B b->H b≠none->A b)(v:V)(y:Rx×Addr×Addr)(h:RwO K A H v y):RwO K B H v y:=by
 obtain⟨a,p,Y,ev,h1,h2,h3,F,I,j,h7,U,Z,O⟩:=h;exact⟨a,p,Y,ev,h1,h2,h3,F,I,j,h7,λb=>U (s _ b (by rw[F];simp)),λb=>Z (s _ b (by rw[j];simp)),O⟩
def SepR (K:Pg)(A:Addr->Prop)(H:Hp)(rv:List V)(rs:List Rx):Prop:=∃ys:List (Rx×Addr×Addr),ys.map (·.1)=rs/\Al (RwO K A H) rv ys/\∀(i j:Nat)(x y:Rx×Addr×Addr),ys[i]?=some x->ys[j]?=some y->i<j->x.2.1≠y.2.1/\x.2.1≠y.2.2/\x.2.2≠y.2.1/\x.2.2≠y.2.2
theorem SepR.nil:SepR K A H [] []:=⟨[],rfl,.nil,λi j x y h=>by simp at h⟩
theorem SepR.same (h:SepR K A H rv rs)(s:SameA A H H'):SepR K A H' rv rs:=by
 obtain⟨ys,e,j,d⟩:=h;exact⟨ys,e,j.mono (RwO.same s),d⟩
theorem SepR.mono (h:SepR K A H rv rs)(s:∀b,B b->H b≠none->A b):SepR K B H rv rs:=by
 obtain⟨ys,e,j,d⟩:=h;exact⟨ys,e,j.mono (RwO.mono s),d⟩
theorem SepR.add (h:SepR K A H rv rs)(s:Same H H')(ho:H y.2.1=none)(he:H y.2.2=none)(q:RwO K A H' v y):SepR K A H' (rv++[v]) (rs++[y.1]):=by
 obtain⟨ys,er,al,d⟩:=h;refine⟨ys++[y],by rw[Qh,er];rfl,(al.mono (RwO.same s.a)).snoc q,λi j x z hi F ac=>?_⟩;have aa:j<(ys++[y]).length:=(Pt.mp F).1;rw[Pn,Py]at aa;have U:i<ys.length:=by lia
 rw[Qd U]at hi;by_cases I:j<ys.length
 ·rw[Qd I]at F;exact d i j x z hi F ac
 ·have ej:j=ys.length:=by lia
  rw[ej]at F;simp at F;obtain⟨v',hv⟩:∃v,rv[i]?=some v:=⟨_,Pk (by rw[al.1];exact U)⟩;obtain⟨x',O,a2,p2,ad,ae,g1,g2,g3,Z,g5,Y,g7,g8,g9,_⟩:=al.get hv;rw[hi]at O;cases O;rw[<- F];exact⟨λz=>(by rw[z,ho]at Z;cases Z),λz=>(by rw[z,he]at Z;cases Z),λz=>(by rw[z,ho]at Y;cases Y),λz=>(by rw[z,he]at Y;cases Y)⟩
structure Ml where
 m:Addr
 dx:Addr
 fd:Addr
 rd:Addr
 wd:Addr
 td:Addr
def Ml.A (L:Ml)(b:Addr):Prop:=b=L.rd\/b=L.wd\/b=L.td
noncomputable def Ml.fs (L:Ml)(n:Int):List (Str×V):=[("forms",.ref L.fd),("rows",.ref L.rd),("waiting",.ref L.wd),("things",.ref L.td),("steps",.int n)]
structure MAt (K:Pg)(HB:Hp)(C:Addr)(kvs:List (List Au×V))(L:Ml)(H:Hp)(S:MS):Prop where
 base:Same HB H
 nm:HB L.m=none
 nr:HB L.rd=none
 nw:HB L.wd=none
 nt:HB L.td=none
 ins:H L.m=some (.ins C L.dx (L.fs S.steps))
 frm:H L.fd=some (.dT kvs)
 rw:L.rd≠L.wd
 rt:L.rd≠L.td
 wt:L.wd≠L.td
 rows:∃rv,H L.rd=some (.lst rv)/\Al (RwX K (λb=>L.A b\/HB b≠none) H) rv S.rows/\SepR K (λb=>L.A b\/HB b≠none) H rv S.rows
 wait:∃wv,H L.wd=some (.lst wv)/\Al (WtAt K L.A H) wv S.wait
 things:∃tv,H L.td=some (.lst tv)/\Al (ThAt K H) tv S.things
def SameM (L:Ml)(H H':Hp):Prop:=∀b o,b≠L.m->¬L.A b->H b=some o->H' b=some o
theorem SameM.refl (L:Ml)(H:Hp):SameM L H H:=λ_ _ _ _ h=>h
theorem SameM.trans (a:SameM L H H1)(b:SameM L H1 H2):SameM L H H2:=λc o h1 h2 h=>b c o h1 h2 (a c o h1 h2 h)
theorem _root_.L2.Same.m (e:Same H H')(L:Ml):SameM L H H':=λb o _ _ h=>e b o h
theorem SameM.trans' (a:SameM L H H1)(b:SameM L' H1 H2)(hm:L'.m=L.m)(hr:L'.rd=L.rd)(hw:L'.wd=L.wd)(ht:L'.td=L.td\/H L'.td=none):SameM L H H2:=λc o h1 h2 h=>by
 refine b c o (by rw[hm];exact h1) ?_ (a c o h1 h2 h);rintro(z|z|z)
 ·exact h2 (.inl (z.trans hr))
 ·exact h2 (.inr (.inl (z.trans hw)))
 ·rcases ht with e|e
  ·exact h2 (.inr (.inr (z.trans e)))
  ·rw[<- z,h]at e;cases e
section
variable {K:Pg}{HB H H':Hp}{C:Addr}{kvs:List (List Au×V)}{L:Ml}{S:MS}
theorem MAt.ne (M:MAt K HB C kvs L H S)(h:H b=some o)(hi:∀c d f,o≠.ins c d f)(hl:∀xs,o≠.lst xs):b≠L.m/\¬L.A b:=by
 obtain⟨U,F,_⟩:=M.rows;obtain⟨O,j,_⟩:=M.wait;obtain⟨tv,I,_⟩:=M.things;refine⟨λz=>?_,?_⟩
 ·rw[z,M.ins]at h;cases h;exact hi _ _ _ rfl
 ·rintro(z|z|z)
  ·rw[z,F]at h;cases h;exact hl _ rfl
  ·rw[z,j]at h;cases h;exact hl _ rfl
  ·rw[z,I]at h;cases h;exact hl _ rfl
theorem MAt.a (M:MAt K HB C kvs L H S)(e:SameM L H H'):SameA L.A H H':=by
 refine⟨λb=>⟨λxs h=>?_,λo u h=>?_⟩,λb xs n h=>?_⟩
 ·obtain⟨h1,h2⟩:=M.ne h (λ_ _ _ z=>nomatch z) (λ_ z=>nomatch z);exact e b _ h1 h2 h
 ·obtain⟨h1,h2⟩:=M.ne h (λ_ _ _ z=>nomatch z) (λ_ z=>nomatch z);exact e b _ h1 h2 h
 ·refine e b _ (λz=>?_) n h;rw[z,M.ins]at h;cases h
theorem MAt.t (M:MAt K HB C kvs L H S)(e:SameM L H H'):SameT H H':=(M.a e).1
theorem MAt.outer (M:MAt K HB C kvs L H S)(e:SameM L H H'):Same HB H':=λb o h=>by
 refine e b o (λz=>?_) ?_ (M.base b o h)
 ·rw[z,M.nm]at h;cases h
 ·rintro(z|z|z)
  ·rw[z,M.nr]at h;cases h
  ·rw[z,M.nw]at h;cases h
  ·rw[z,M.nt]at h;cases h
theorem MAt.big (M:MAt K HB C kvs L H S)(e:SameM L H H'):SameA (λb=>L.A b\/HB b≠none) H H':=(M.a e).mono λ_ h=>.inl h
theorem MAt.new (M:MAt K HB C kvs L H S)(e:Same H H'):MAt K HB C kvs L H' S:=by
 obtain⟨O,U,ar,sp⟩:=M.rows;obtain⟨F,I,j⟩:=M.wait;obtain⟨tv,Y,at_⟩:=M.things;exact⟨M.base.trans e,M.nm,M.nr,M.nw,M.nt,e _ _ M.ins,e _ _ M.frm,M.rw,M.rt,M.wt,⟨O,e _ _ U,ar.mono (RwX.same e.a),sp.same e.a⟩,⟨F,e _ _ I,j.mono (WtAt.same e.a)⟩,⟨tv,e _ _ Y,at_.mono (ThAt.same e.t)⟩⟩
theorem SameM.upd (hx:x=L.m\/L.A x):SameM L H (upd H x o):=λb o' h1 h2 h=>by
 rw[Ag (λz=>?_)]
 ·exact h
 ·rw[z]at h1 h2;rcases hx with e|e
  ·exact h1 e
  ·exact h2 e
theorem MAt.apart (M:MAt K HB C kvs L H S):L.rd≠L.m/\L.wd≠L.m/\L.td≠L.m/\L.fd≠L.m/\L.fd≠L.rd/\L.fd≠L.wd/\L.fd≠L.td:=by
 obtain⟨U,F,_⟩:=M.rows;obtain⟨O,j,_⟩:=M.wait;obtain⟨tv,I,_⟩:=M.things;exact⟨Dw F M.ins (λz=>nomatch z),Dw j M.ins (λz=>nomatch z),Dw I M.ins (λz=>nomatch z),Dw M.frm M.ins (λz=>nomatch z),Dw M.frm F (λz=>nomatch z),Dw M.frm j (λz=>nomatch z),Dw M.frm I (λz=>nomatch z)⟩
theorem MAt.setSteps (M:MAt K HB C kvs L H S)(n:Int):MAt K HB C kvs L (L2.upd H L.m (.ins C L.dx (L.fs n))) { S with steps:=n }:=by
 have e:SameM L H (L2.upd H L.m (.ins C L.dx (L.fs n))):=SameM.upd (.inl rfl);obtain⟨a1,a2,I,F,a5,a6,a7⟩:=M.apart;obtain⟨O,Z,ar,sp⟩:=M.rows;obtain⟨U,Y,j⟩:=M.wait;obtain⟨tv,et,at_⟩:=M.things;exact⟨M.outer e,M.nm,M.nr,M.nw,M.nt,Ae,by rw[Ag F];exact M.frm,M.rw,M.rt,M.wt,⟨O,by rw[Ag a1];exact Z,ar.mono (RwX.same (M.big e)),sp.same (M.big e)⟩,⟨U,by rw[Ag a2];exact Y,j.mono (WtAt.same (M.a e))⟩,⟨tv,by rw[Ag I];exact et,at_.mono (ThAt.same (M.t e))⟩⟩
theorem MAt.setRows (M:MAt K HB C kvs L H S)(al:Al (RwX K (λb=>L.A b\/HB b≠none) H) rv rs)(sp:SepR K (λb=>L.A b\/HB b≠none) H rv rs):MAt K HB C kvs L (L2.upd H L.rd (.lst rv)) { S with rows:=rs }:=by
 have e:SameM L H (L2.upd H L.rd (.lst rv)):=SameM.upd (.inr (.inl rfl));obtain⟨a1,a2,a3,Y,F,Z,a7⟩:=M.apart;obtain⟨I,O,j⟩:=M.wait;obtain⟨tv,U,at_⟩:=M.things;exact⟨M.outer e,M.nm,M.nr,M.nw,M.nt,by rw[Ag (Ps a1)];exact M.ins,by rw[Ag F];exact M.frm,M.rw,M.rt,M.wt,⟨rv,Ae,al.mono (RwX.same (M.big e)),sp.same (M.big e)⟩,⟨I,by rw[Ag (Ps M.rw)];exact O,j.mono (WtAt.same (M.a e))⟩,⟨tv,by rw[Ag (Ps M.rt)];exact U,at_.mono (ThAt.same (M.t e))⟩⟩
theorem MAt.setWait (M:MAt K HB C kvs L H S)(al:Al (WtAt K L.A H) wv ws):MAt K HB C kvs L (L2.upd H L.wd (.lst wv)) { S with wait:=ws }:=by
 have e:SameM L H (L2.upd H L.wd (.lst wv)):=SameM.upd (.inr (.inr (.inl rfl)));obtain⟨a1,a2,Z,U,Y,j,a7⟩:=M.apart;obtain⟨F,I,ar,sp⟩:=M.rows;obtain⟨tv,O,at_⟩:=M.things;exact⟨M.outer e,M.nm,M.nr,M.nw,M.nt,by rw[Ag (Ps a2)];exact M.ins,by rw[Ag j];exact M.frm,M.rw,M.rt,M.wt,⟨F,by rw[Ag M.rw];exact I,ar.mono (RwX.same (M.big e)),sp.same (M.big e)⟩,⟨wv,Ae,al.mono (WtAt.same (M.a e))⟩,⟨tv,by rw[Ag (Ps M.wt)];exact O,at_.mono (ThAt.same (M.t e))⟩⟩
theorem MAt.setThings (M:MAt K HB C kvs L H S)(al:Al (ThAt K H) tv ts):MAt K HB C kvs L (L2.upd H L.td (.lst tv)) { S with things:=ts }:=by
 have e:SameM L H (L2.upd H L.td (.lst tv)):=SameM.upd (.inr (.inr (.inr rfl)));obtain⟨a1,a2,F,a4,a5,a6,Y⟩:=M.apart;obtain⟨I,Z,ar,sp⟩:=M.rows;obtain⟨O,U,j⟩:=M.wait;exact⟨M.outer e,M.nm,M.nr,M.nw,M.nt,by rw[Ag (Ps F)];exact M.ins,by rw[Ag Y];exact M.frm,M.rw,M.rt,M.wt,⟨I,by rw[Ag M.rt];exact Z,ar.mono (RwX.same (M.big e)),sp.same (M.big e)⟩,⟨O,by rw[Ag M.wt];exact U,j.mono (WtAt.same (M.a e))⟩,⟨tv,Ae,al.mono (ThAt.same (M.t e))⟩⟩
noncomputable def Ml.with(L:Ml)(t:Addr):Ml:={ L with td:=t }
theorem MAt.swap (M:MAt K HB C kvs L H S){H1:Hp}{t:Addr}{tv:List V}{ts:List (Str×V)}(e0:Same H H1)(ht:H t=none)(h1:H1 t=some (.lst tv))(al:Al (ThAt K H1) tv ts):MAt K HB C kvs (L.with t) (L2.upd H1 L.m (.ins C L.dx ((L.with t).fs S.steps))) { S with things:=ts }/\SameM L H (L2.upd H1 L.m (.ins C L.dx ((L.with t).fs S.steps))):=by
 have j:=M.new e0;have e:SameM L H1 (L2.upd H1 L.m (.ins C L.dx ((L.with t).fs S.steps))):=SameM.upd (.inl rfl);obtain⟨a1,a2,a3,a4,a5,a6,a7⟩:=j.apart;obtain⟨ah,aa,_⟩:=M.rows;obtain⟨ag,O,_⟩:=M.wait;obtain⟨rv,er,ar,sp⟩:=j.rows;obtain⟨wv,ew,aw⟩:=j.wait;have nm:t≠L.m:=λz=>by rw[z,M.ins]at ht;cases ht
 have nr:L.rd≠t:=λz=>by rw[<- z,aa]at ht;cases ht
 have nw:L.wd≠t:=λz=>by rw[<- z,O]at ht;cases ht
 have nb:HB t=none:=by
  cases h:HB t with
  |none=>rfl
  |some o=>rw[M.base _ _ h]at ht;cases ht
 have s2:∀B:Addr->Prop,SameA B H (L2.upd H1 L.m (.ins C L.dx ((L.with t).fs S.steps))):=λB=>⟨e0.t.trans (j.t e),λb xs _ h=>by
  rw[Ag (λz=>?_)]
  ·exact e0 _ _ h
  ·rw[z,M.ins]at h;cases h⟩
 obtain⟨U,ad,Y,ae⟩:=M.rows;obtain⟨ac,Z,af⟩:=M.wait;have hA:∀b,(L.with t).A b->H b≠none->L.A b:=λb I F=>by
  rcases I with z|z|z
  ·exact .inl z
  ·exact .inr (.inl z)
  ·rw[show b=t from z,ht]at F;exact absurd rfl F
 refine⟨⟨j.outer e,M.nm,M.nr,M.nw,nb,Ae,(Ag (show L.fd≠L.m from a4)).trans j.frm,M.rw,nr,nw,⟨U,(Ag (show L.rd≠L.m from a1)).trans (e0 _ _ ad),?_,?_⟩,⟨ac,(Ag (show L.wd≠L.m from a2)).trans (e0 _ _ Z),?_⟩,⟨tv,(Ag (show t≠L.m from nm)).trans h1,al.mono (ThAt.same (j.t e))⟩⟩,(e0.m L).trans e⟩
 ·refine(Y.mono (RwX.mono λb I F=>?_)).mono (RwX.same (s2 _));rcases I with z|z
  ·exact .inl (hA b z F)
  ·exact .inr z
 ·refine(ae.mono λb I F=>?_).same (s2 _);rcases I with z|z
  ·exact .inl (hA b z F)
  ·exact .inr z
 ·exact(af.mono (WtAt.mono hA)).mono (WtAt.same (s2 _))
end
noncomputable def C1 (ar:List (Str×Str×V))(z:Str):Option (Str×V):=(ar.reverse.find? λx=>decide (x.1=z)).map (·.2)
theorem Zqf (l:List (Str×Str×V))(x:Str×Str×V)(z:Str):C1 (l++[x]) z=if x.1=z then some x.2 else C1 l z:=by
 unfold C1;rw[Ss,Uz,V9,Rb];by_cases h:x.1=z
 ·simp[h]
 ·simp[h]
theorem Zs4:∀(ev:List V)(ar:List (Str×Str×V)),Al (PrAt K H) ev ar->∃kvs:List (Au×V),Al (λv (kv:Au×V)=>∃a,v=.ref a/\SqT K H a [kV kv.1,kv.2]) ev kvs /\
  ∀z:Str,(Ee kvs (Sum.inr z)=none/\C1 ar z=none)\/∃u th,Ee kvs (Sum.inr z)=some u/\C1 ar z=some th/\ThAt K H u th:=by
 intro ev;refine Zal (P:=λev=>∀ar,Al (PrAt K H) ev ar->∃kvs:List (Au×V),Al (λv (kv:Au×V)=>∃a,v=.ref a/\SqT K H a [kV kv.1,kv.2]) ev kvs /\
  ∀z:Str,(Ee kvs (Sum.inr z)=none/\C1 ar z=none)\/∃u th,Ee kvs (Sum.inr z)=some u/\C1 ar z=some th/\ThAt K H u th) ?_ ?_ ev
 ·intro ar O;have:ar=[]:=Sc O.1.symm;subst this;exact⟨[],.nil,λz=>.inl ⟨rfl,rfl⟩⟩
 ·intro l v Z ar O;obtain⟨l',v',F,x,U,rfl,I,a,u,rfl,q,t⟩:=O.last (by simp);obtain⟨rfl,e2⟩:=Sj U rfl;cases e2;obtain⟨kvs,Y,hk⟩:=Z F I;refine⟨kvs++[(Sum.inr x.1,u)],Y.snoc ⟨a,rfl,q⟩,λz=>?_⟩;rw[Zas,Zqf];by_cases j:x.1=z
  ·refine .inr ⟨u,x.2,?_,if_pos j,t⟩;rw[if_pos (by rw[j])]
  ·rw[if_neg j,if_neg (λh=>j (Sum.inr.inj h))];exact hk z
section
variable {g:TG}{tt:TT}{te:TE}{σ0:St}{H1:Hp}{D:Addr}{Q:VK}
theorem Zps (Pv:Nat->List V->St->Hp->Prop)(h0:Pv 0 [] σ0 (upd H1 D (.lst [])))(hl:∀i ys σ H,i<=xs.length->Pv i ys σ H->SqT K H a xs)(hs:∀i x ys σ H,xs[i]?=some x->H D=some (.lst ys)->Pv i ys σ H->Nb g tt te D (Pv (i+1)) x σ H)(hd:∀ys σ H,H D=some (.lst ys)->Pv xs.length ys σ H->Q (.ref D) H):Kz (Ic K a) g tt te σ0 H1 D Q:=by
 refine⟨λi m σ H=>m=xs.length-i/\i<=xs.length/\∃ys,H D=some (.lst ys)/\Pv i ys σ H,⟨xs.length,by simp,Qk _,[],Ae,h0⟩,?_⟩;rintro i m σ H ⟨rfl,hi,ys,I,p⟩;have q:=hl i ys σ H hi p;by_cases j:i<xs.length
 ·refine .inr ⟨⟨xs,xs[i],q,by simp[j]⟩,λF H2=>∃zs,H2 D=some (.lst zs)/\Pv (i+1) zs F H2,λU H' O=>⟨xs.length-(i+1),by lia,rfl,j,O⟩,λx H' y=>?_⟩;obtain⟨e,y⟩:=y;subst e;exact hs i x ys σ _ (y xs q) I p
 ·have e:i=xs.length:=by lia
  subst e;exact .inl ⟨⟨xs,q,Pj _⟩,hd ys σ H I p⟩
end
noncomputable def Ft:Tr->Dt
 |.mk _ n _=>n
theorem Ze3 (t:Tr):t=.mk t.wd (Ft t) t.ps:=by cases t;rfl
theorem Zkr (h:Dn a=Dn b):a=b:=by
 unfold Dn at h
 induction a generalizing b with
 |nil=>cases b with
  |nil=>rfl
  |cons y r=>simp at h
 |cons x l j=>cases b with
  |nil=>simp at h
  |cons y r =>
   simp only[Qs,Ww]at h;have h1:x=y:=by have:=Sum.inl.inj h.1;lia
   rw[h1,j h.2]
noncomputable def Cu (ws:List (List Nat×Tr))(pl:List Nat):Option Tr:=(ws.reverse.find? λx=>decide (x.1=pl)).map (·.2)
theorem Zny (l:List (List Nat×Tr))(x:List Nat×Tr)(pl:List Nat):Cu (l++[x]) pl=if x.1=pl then some x.2 else Cu l pl:=by
 unfold Cu;rw[Ss,Uz,V9,Rb];by_cases h:x.1=pl
 ·simp[h]
 ·simp[h]
theorem Zo4 (h:Cu ws pl=some t):(pl,t)∈ws:=by
 unfold Cu at h;obtain⟨x,j,rfl⟩:=Rs.mp h;have h1:=List.find?_some j;have h2:x.1=pl:=of_decide_eq_true h1;rw[<- h2];exact Wm.mp (List.mem_of_find?_eq_some j)
theorem Zq8:∀(rows:List V)(ws:List (List Nat×Tr)),Al (RowT K H) rows ws->∃kvs:List (List Au×V),Al (λv (kv:List Au×V)=>∃a b,v=.ref a/\SqT K H a [.ref b,kv.2]/\H b=some (.tup (kv.1.map kV))) rows kvs /\
  ∀pl:List Nat,(Ee kvs (Dn pl)=none/\Cu ws pl=none)\/∃u t,Ee kvs (Dn pl)=some u/\Cu ws pl=some t/\TrAt K H u t:=by
 intro rows;refine Zal (P:=λrows=>∀ws,Al (RowT K H) rows ws->∃kvs:List (List Au×V),Al (λv (kv:List Au×V)=>∃a b,v=.ref a/\SqT K H a [.ref b,kv.2]/\H b=some (.tup (kv.1.map kV))) rows kvs /\
  ∀pl:List Nat,(Ee kvs (Dn pl)=none/\Cu ws pl=none)\/∃u t,Ee kvs (Dn pl)=some u/\Cu ws pl=some t/\TrAt K H u t) ?_ ?_ rows
 ·intro ws O;have:ws=[]:=Sc O.1.symm;subst this;exact⟨[],.nil,λz=>.inl ⟨rfl,rfl⟩⟩
 ·intro l v Z ws O;obtain⟨l',v',F,x,U,rfl,I,a,p,u,rfl,q,hp,t⟩:=O.last (by simp);obtain⟨rfl,e2⟩:=Sj U rfl;cases e2;obtain⟨kvs,Y,hk⟩:=Z F I;refine⟨kvs++[(Dn x.1,u)],Y.snoc ⟨a,p,rfl,q,by rw[J8];exact hp⟩,λpl=>?_⟩;rw[Zas,Zny];by_cases j:x.1=pl
  ·refine .inr ⟨u,x.2,?_,if_pos j,t⟩;rw[if_pos (by rw[j])]
  ·rw[if_neg j,if_neg (λh=>j (Zkr h))];exact hk pl
end L2
namespace L2
open PySem PySem.Spec PyProof.Rows
section
variable {X:Cx}
noncomputable abbrev Zhs:=Zcp false false
theorem Zms (K:Pg)(hg:Gl X "list")(hm:X.mg "list"=none)(hg2:Gl X "zip")(hm2:X.mg "zip"=none)(ha:QA X [e,e2] ta)(hK:autoParam (X.K=K) zX)(hc:autoParam (X.calm=true) zX)(hs:autoParam (starEach [.Call (.Name "zip" p2) [e,e2] [] pos2] X.env=[(false,eval (.Call (.Name "zip" p2) [e,e2] [] pos2) X.env)]) zX)(hs2:autoParam (starEach [e,e2] X.env=[(false,eval e X.env),(false,eval e2 X.env)]) zX)(hs3:autoParam (starEach [e2] X.env=[(false,eval e2 X.env)]) zX) :
  QE X (.Call (.Name "list" p) [.Call (.Name "zip" p2) [e,e2] [] pos2] [] pos) (Zhs K ta):=Zeg false false K hg hm hg2 hm2 ha hK hc hs hs2 hs3
theorem Zjj {K:Pg}{ta:TA}{σ:St}{H:Hp}{Q:VK}(h:ta σ H λvs H1=>eX4 λa b xs ys=>vs=[.ref a,.ref b]/\SqL K H1 a xs/\SqL K H1 b ys /\
 ∀(S:Addr)(zs:List V)(H2:Hp),H1 S=none->Same H1 H2->zs.length=min xs.length ys.length->Mw H2 xs ys zs->H2 S=some (.lst zs)->Q (.ref S) H2):Zhs K ta σ H Q:=h
end
end L2
namespace L2
open PySem PySem.Spec PySem.Calls PySem.W PyProof.Rows
section
variable {X:Cx}
def M8 (K:Pg)(te:TE)(ts:TO):TE:=λσ H Q=>te σ H λx H1=>ts σ H1 λo H2=>∃a xs,x=.ref a/\o=some (-1)/\SqL K H2 a xs/\∀p,H2 p=none->Q (.ref p) (upd H2 p (.lst xs.reverse))
theorem Zpd {e st:PySem.Expr}{te:TE}{ts:TO}{p2 pos:Pos}(he:PE X e te)(hs:PO X (some st) ts):PE X (.Subscript e (.Slice none none (some st) p2) pos) (M8 X.K te ts):=by
 intro pins s σ H Q I h;refine Subscript_ (Ak (he pins s σ H _ I h) λv s1 O=>?_);obtain⟨x,H1,I1,r1,q1⟩:=O;refine wpAny_Slice ?_;rw[evalPart_none];refine Pi ?_;refine Pi ?_;refine Ak (hs pins s1 σ H1 _ I1 q1) λvk j O=>?_;obtain⟨o,H3,Z,pk,q3⟩:=O;obtain⟨a,xs,rfl,rfl,hx,q⟩:=q3;cases r1;have F:Inv X pins σ H3 { j with heap:=j.heap.push { cls:=.type "slice",data:=.fields #[.none,.none,vk] } }:=Z.kept (t':=j.toks) λb ob q=>Pm _ q;obtain⟨aa,r,U,hz⟩:=F.list hx;have Y:=r.length;refine tail_any (ops:=[.ref a,.ref j.heap.objs.size]) U.isList.typeIs Wj.lookup ?_ (by with_unfolding_all rfl);refine wpAny_getItem_list_slice U.isList (Heap.IsSliceOf.new ..) .none .none pk (by decide) ?_ (by rw[Pl] <;> lia);rw[PySem.W.krv_pick];refine⟨.ref _,_,F.laid (t':=j.toks) (o:=.lst xs.reverse) (λb ob q=>Pm _ q) (Pj _) ?_,rfl,q _ (F.hok.fresh (Pj _))⟩;exact⟨by rw[Tw];exact hz,_,0,r.reverse,P3 _ rfl⟩
theorem Zfz {e st:PySem.Expr}{te:TE}{ts:TO}{p2 pos:Pos}(K:Pg)(he:QE X e te)(hs:QO X (some st) ts)(hK:autoParam (X.K=K) zX):QE X (.Subscript e (.Slice none none (some st) p2) pos) (M8 K te ts):=by
 subst hK;exact⟨Zpd he.run hs.run⟩
end
end L2
namespace L2
open PySem PySem.Spec PyProof.Rows
def Zmg (K:Pg)(C:Addr)(tb:Iv)(th:TS):TS:=λD σ H=>tb D (λF j od H2=>(∃C',j=.ref C'/\Sa K (.ref C') (.ref C)=some true)/\∀a,H2 a=none->th D F (upd H2 a (exk a j od))) σ H
section
variable {X:Cx}{c n:Str}{np hpos pos:Pos}{body hbody:List Stmt}{b₀:Stmt}{tb:Iv}{th:TS}{i:Nat}{C:Addr}
theorem Zgv (hC:Lh X.K C)(G:X.mg c=some (.ref C))(hf:X.env.frame=some X.env.locals)(hst:X.stack=X.env::X.outer)(hb:QXS X body tb)(hh:∀e XE,E7 (X.to (X.A.mark (some e)) false XE) (b₀::hbody) th)(hg:autoParam (Gl X c) zX)(hdb:autoParam ((c == ("__debug__":Str))=false) zW) :
  QS X (.Try body [.ExceptHandler (some (.Name c np)) none (b₀::hbody) hpos] [] [] pos) (Zmg X.K C tb th):=by
 refine⟨λpins s σ H D I h=>?_⟩;refine wpAny_Try_except (Rp (hb.run pins s σ H D _ I h) (λf s1 q=>?_) λev s1 q=>?_)
 ·cases f with
  |next=>exact Sv q
  |ret v=>exact q
  |brk=>exact q
  |cont=>exact q
 ·obtain⟨Z,H0,s0,I0,e,T,ak,od,H',rfl,h1,h2,h3,h4,h5,h6,h7,h8,h9,⟨C',rfl,ad⟩,af⟩:=q;have J:Inv X pins Z H' s1:=I0.call' (ch:=[]) h1 h3 h4 h2 (λb z=>absurd z (by simp));have ag:X.A.frames=some (X.env::X.outer):=by rw[<- hst];exact J.ok.frames
  have U:=J.stack;rw[hst]at U;refine Zd1 (base:=X.base) ag U hf h9 λh' O ac y m=>Mo (fs:=Bz (X.env::X.outer)) y λae y' m'=>?_;have M1:Mvd (Bz X.stack) [e,T,O] s1.heap ae:=by rw[hst];exact(m.mono (by simp)).trans (m'.mono (by simp))
  have ai:s0.heap.get? O=none:=by
   cases q:s0.heap.get? O with
   |none=>rfl
   |some o =>
    obtain⟨o',z⟩:=h3.there O o q (by simp);exact absurd (Pq z) (Nat.not_lt.mpr ac)
  have aa:H' O=none:=J.hok.fresh ac;have fx:∀b∈[e,T,O],s0.heap.get? b=none/\H' b=none:=by
   intro b hb;simp only[Po,Px,or_false]at hb;rcases hb with rfl|rfl|rfl
   ·exact⟨h5,h7⟩
   ·exact⟨h6,h8⟩
   ·exact⟨ai,aa⟩
  have land:∀{F:Heap},Mvd (Bz X.stack) [e,T,O] s1.heap F->G7 F e O (.ref C') od->Inv X pins Z (upd H' e (exk e (.ref C') od)) { s1 with heap:=F }:=λ{F} mm ll =>
   I0.call' (s':={ s1 with heap:=F }) (ch:=[]) h1 (h3.land mm (λb hb=>(fx b hb).1) h5 h7) (h4.land mm (λb hb=>(fx b hb).2) (λb hb=>J.stkFree b hb) h7 (Zko ll)) h2 (λb z=>absurd z (by simp))
  have I1:=land M1 y';refine wpAny_handleBy_cons (codeAny_handlers_test ?_) (by intro q;cases q);have ah:Inv (X.to (X.A.mark (some (.ref e))) false (notedBy (model X.prog X.w) (X.A.mark (some (.ref e))) X.env λx aj=>True)) pins Z (upd H' e (exk e (.ref C') od)) { s1 with heap:=ae }:=I1.to rfl (by simp);refine Jb ah hg G ?_ hdb;obtain⟨oe,vs,oT,ts,a1,a2,a3,a4,a5,a6,a7,a8,a9⟩:=id y';refine Zr4 I1.kIn hC a1 a2 ad ?_;refine codeAny_handlers_suite (Mo (fs:=Bz X.stack) y' λal y4 m4=>?_);have I2:=land (M1.trans (m4.mono (by simp))) y4;refine Rp ((hh (.ref e) _).run pins _ _ _ D (I2.to rfl (by simp)) (af e h7)) (λf s4 q=>?_) λev s4 q=>q;cases f with
  |next =>
   obtain⟨j,Y,I4,q⟩:=q;exact⟨j,Y,I4.back I.ok,q⟩
  |ret v =>
   obtain⟨u,j,Y,I4,r,q⟩:=q;exact⟨u,j,Y,I4.back I.ok,r,q⟩
  |brk =>
   obtain⟨j,Y,I4,q⟩:=q;exact⟨j,Y,I4.back I.ok,q⟩
  |cont =>
   obtain⟨j,Y,I4,q⟩:=q;exact⟨j,Y,I4.back I.ok,q⟩
end
section
variable {X:Cx}{o i e f k v value:Expr}{pos pos' apos cpos:Pos}{td ty tx tk tv:TE}
end
section
variable {X:Cx}{c n:Str}{np hpos pos:Pos}{body hbody:List Stmt}{b₀:Stmt}{tb:Iv}{th:TS}{i:Nat}{C:Addr}{rest:List ExceptHandler}{tr:THd}
end
section
variable {X:Cx}
def rEqN (K:Pg):R2:=λx y H Q=>eX3 λ(a b:Addr)(xs:List V)=>x=.ref a/\y=.ref b/\SqL K H a xs/\SqL K H b []/\Q (.bl xs.isEmpty) H
theorem Zvd (K:Pg)(hu:X.A.units+200<cLine)(hK:autoParam (X.K=K) zX):OpR X (compareOp .Eq) (rEqN K):=by
 subst hK;intro pins s σ H x y v u Q I rx ry h;obtain⟨a,b,xs,rfl,rfl,Z,Y,q⟩:=h;cases rx;cases ry;obtain⟨F,r1,p1,_⟩:=I.list Z;obtain⟨O,r2,p2,_⟩:=I.list Y;have U:=r1.length;have l2:=r2.length;cases xs with
 |nil =>
  refine SeqAt.eq_listAt (e:=λ_=>true) p1.isList p2.isList (by simp only[Pl];lia) (by lia) (λj h1 h2=>?_) ⟨.bl true,H,I,?_,q⟩
  ·simp only[Pl]at h1;have:F.length=0:=U.symm;lia
  ·have z:F.toArray.size=0:=by simp only[Pl];exact U.symm
   rw[z];rfl
 |cons y r =>
  refine SeqAt.eq_list_lengthsAt p1.isList p2.isList ?_ (by lia) ⟨.bl false,H,I,rfl,q⟩;simp only[Pl];have e1:F.length=r.length+1:=U.symm;have e2:O.length=0:=l2.symm;rw[e1,e2];rfl
theorem Zls {K:Pg}{a b:Addr}{xs:List V}{H:Hp}{Q:VK}(ha:SqL K H a xs)(hb:SqL K H b [])(h:Q (.bl xs.isEmpty) H):rEqN K (.ref a) (.ref b) H Q:=⟨a,b,xs,rfl,rfl,ha,hb,h⟩
end
section
variable {X:Cx}
end
section
variable {g:TG}{tt:TT}{te:TE}{σ0:St}{H1:Hp}{D:Addr}{Q:VK}
end
section
variable {X:Cx}
end
section
variable {prog:Program}{w:World}{A:Around}{E:Value->Shared->Prop}{s:Shared}
end
section
variable {X:Cx}{tg:Expr}
end
section
variable {X:Cx}{c n:Str}{np hpos pos:Pos}{body hbody:List Stmt}{b₀:Stmt}{tb:Iv}{th:Addr->TS}{i:Nat}{C:Addr}
end
section
variable {P:Program}{w:World}{K:Pg}{mg:Str->Option Value}{base:Heap}
end
section
variable {X:Cx}{k:Nat}{x:Str}{ps:List Str}{sp:Addr->Sp}{p pos:Pos}{e:Expr}{es:List Expr}{t:TA}
end
section
variable {X:Cx}{tg:Expr}
end
section
variable {X:Cx}
end
section
variable {X:Cx}
end
section
variable {X:Cx}{pins:List (Addr×Obj)}{σ:St}{H:Hp}{s:Shared}
end
section
variable {X:Cx}
open Classical in
end
section
variable {X:Cx}{pins:List (Addr×Obj)}{σ:St}{H:Hp}{s:Shared}
end
section
variable {X:Cx}
end
end L2
namespace PySem
open PyProof.Rows
section
variable {prog:Program}{w:World}{A:Around}{E:Value->Shared->Prop}{s:Shared}
end
end PySem
namespace L2
open PySem PySem.Spec PyProof.Rows
section
variable {X:Cx}{tg:Expr}
end
section
variable {X:Cx}
end
section
variable {X:Cx}{pins:List (Addr×Obj)}{σ:St}{H:Hp}{s:Shared}
end
section
variable {X:Cx}
end
section
variable {X:Cx}{c e:Expr}{tc:TE}{t:TX}{pos:Pos}
end
section
variable {X:Cx}
end
end L2
namespace L2
open PySem
end L2
local macro_rules | `(tactic| walk_at "sc")=>`(tactic| exact⟨rfl,rfl,rfl,by decide +kernel,rfl,by decide +kernel,by decide +kernel⟩)
namespace L2
open PySem PySem.Spec PyProof.Rows
theorem Bm:0<=sizeLine:=by decide
theorem C9:1<=sizeLine:=by decide
theorem sz13:13<=sizeLine:=by decide
theorem B1:2<=sizeLine:=by decide
theorem Bg:3<=sizeLine:=by decide
theorem sz4:4<=sizeLine:=by decide
theorem sz9:9<=sizeLine:=by decide
theorem Room.m (r:Room k A)(h:autoParam (j<=k) zW):Room j A:=r.mono h
section
variable {X:Cx}{a b:Expr}{ta tb:TE}{pos:Pos}{K:Pg}
theorem Av (i:Nat)(S:A9 X.N ps sc)(he:QE X e te)(hi:autoParam (X.N[i]?=some x) zX)(hx:Fh X.env.scope x:=by exact Or.inl rfl)(hs:autoParam (swapsWith e (some (.Name x pos')) pos.line X.env=pure false) zX)(hf:autoParam (X.fn x=true\/X.env.scope.names.lookup x=some .local) zQ):QS X (.Assign [.Name x pos'] e pos) (G8 te (Gz i)):=Zcj S.nd hi hx he hs hf
theorem Ah (K:Pg)(ha:QE X a ta)(hb:QE X b tb)(hs:Pa b:=by exact λ_ _=>rfl)(hK:autoParam (X.K=K) zX):QE X (.Subscript a b pos) (Fm (Js K) ta tb):=Jz (Zb3 K hK) ha hb hs
end
end L2
namespace K53
theorem lz1 {α:Type}{vs:List α}(h:vs.length=1):∃u,vs=[u]:=by
 cases vs with
 |nil=>cases h
 |cons u r=>cases Sc (Nat.succ.inj h);exact⟨u,rfl⟩
theorem lz2 {α:Type}{vs:List α}(h:vs.length=2):∃u v,vs=[u,v]:=by
 cases vs with
 |nil=>cases h
 |cons u r=>obtain⟨v,rfl⟩:=lz1 (Nat.succ.inj h);exact⟨u,v,rfl⟩
end K53
namespace K53
open PySem L2
noncomputable def As (i:Nat):Stmt:=So.main.body.getD i (.Pass ⟨0,0,0,0⟩)
noncomputable abbrev Mb:Stmt:=As 6
noncomputable abbrev Lc:Stmt:=As 8
noncomputable abbrev Kk:Stmt:=As 9
noncomputable abbrev K2:Stmt:=As 10
noncomputable abbrev Kx:Stmt:=As 11
noncomputable abbrev L8:Stmt:=As 12
noncomputable abbrev Kr:Stmt:=As 13
noncomputable abbrev J7:Stmt:=As 15
noncomputable abbrev Lx:Stmt:=As 17
noncomputable abbrev Mg:Stmt:=As 19
noncomputable abbrev Ma:Stmt:=As 24
noncomputable abbrev Ky:Stmt:=As 25
noncomputable abbrev Cg (i j:Nat):Stmt:=match As i with|.ClassDef _ _ _ b _ _ _ _ _ _ _=>b.getD j (.Pass ⟨0,0,0,0⟩)|s=>s
noncomputable abbrev Lf:Stmt:=Cg 26 0
noncomputable abbrev Jg:Stmt:=Cg 26 1
noncomputable abbrev Ko:Stmt:=Cg 26 2
noncomputable abbrev Kv:Stmt:=Cg 26 3
noncomputable abbrev Ki:Stmt:=Cg 26 4
noncomputable abbrev J4:Stmt:=Cg 26 5
noncomputable abbrev Jp:Stmt:=Cg 26 6
noncomputable abbrev Kb:Stmt:=Cg 26 7
noncomputable abbrev Lw:Stmt:=Cg 26 8
noncomputable abbrev Ku:Stmt:=Cg 26 9
noncomputable abbrev Lr:Stmt:=Cg 26 10
noncomputable abbrev Md:Stmt:=Cg 26 11
noncomputable abbrev K4:Stmt:=Cg 26 12
noncomputable abbrev Ly:Stmt:=As 28
noncomputable abbrev Kn:Stmt:=As 29
noncomputable abbrev Le:Stmt:=As 30
noncomputable abbrev L7:Stmt:=As 32
noncomputable abbrev Lv:Stmt:=As 34
noncomputable abbrev Ln:Stmt:=As 35
noncomputable abbrev Jm:Stmt:=As 36
noncomputable abbrev Ka:Stmt:=As 37
noncomputable abbrev Lp:Stmt:=As 38
noncomputable abbrev L9:Stmt:=As 39
noncomputable abbrev Iw:Stmt:=As 40
noncomputable abbrev K1:Stmt:=As 41
noncomputable abbrev Ja:Stmt:=As 42
noncomputable abbrev K7:Stmt:=As 43
noncomputable abbrev Ld:Stmt:=As 44
noncomputable abbrev K0:Stmt:=As 45
noncomputable abbrev K3:Stmt:=As 46
noncomputable abbrev Mj:Stmt:=As 47
noncomputable abbrev Lg:Stmt:=As 48
noncomputable abbrev Jq:Stmt:=As 49
noncomputable abbrev Io:Stmt:=As 50
noncomputable abbrev Lz:Stmt:=As 51
noncomputable abbrev K9:Stmt:=As 52
noncomputable abbrev K8:Stmt:=As 53
structure Txt (K:Pg)(mg:Str->Option Value):Prop where
 isinstance:mg "isinstance"=none
 int:mg "int"=none
 bool:mg "bool"=none
 reversed:mg "reversed"=none
 list:mg "list"=none
 enumerate:mg "enumerate"=none
 len:mg "len"=none
 zip:mg "zip"=none
 all:mg "all"=none
 tuple:mg "tuple"=none
 range:mg "range"=none
 str:mg "str"=none
 max:mg "max"=none
 dict:mg "dict"=none
structure Script (K:Pg)(H:Hp)(a:Addr):Prop where
 ex:∃ns:List Int,SqL K H a (ns.map V.int)/\ns.length<=63
theorem Script.same (S:Script K H a)(h:Same H H'):Script K H' a:=by
 obtain⟨ns,q,l⟩:=S.ex;exact⟨ns,h.seq q,l⟩
theorem big:100000<=sizeLine:=by decide
noncomputable def Bh (wd:Str):Option (List Int):=if wd∈(["plus","minus","less","call"]:List Str) then some [1,0] else if wd∈(["if","let"]:List Str) then some [0] else none
noncomputable def WA:List Str:=["gap","fn","rec","if"]
structure Mc (K:Pg)(C:Addr):Prop where
 cl:Cls K C
 nf:NoAttr K C "forms"
 nr:NoAttr K C "rows"
 nw:NoAttr K C "waiting"
 nt:NoAttr K C "things"
 ns:NoAttr K C "steps"
theorem Nj (L:Ml)(n:Int):(L.fs n).lookup ("forms":Str)=some (V.ref L.fd):=rfl
theorem Iy (L:Ml)(n:Int):(L.fs n).lookup ("rows":Str)=some (V.ref L.rd):=rfl
theorem G4 (L:Ml)(n:Int):(L.fs n).lookup ("waiting":Str)=some (V.ref L.wd):=rfl
theorem Gf (L:Ml)(n:Int):(L.fs n).lookup ("things":Str)=some (V.ref L.td):=rfl
theorem Ik (L:Ml)(n:Int):(L.fs n).lookup ("steps":Str)=some (V.int n):=rfl
theorem Zgu (L:Ml)(n k:Int):Aj "steps" (.int k) (L.fs n)=L.fs k:=rfl
theorem Zl9 (L:Ml)(n:Int)(t:Addr):Aj "things" (.ref t) (L.fs n)=(L.with t).fs n:=rfl
theorem De (L:Ml)(n:Int):(L.fs n).lookup ("make_steps":Str)=none/\(L.fs n).lookup ("new_row":Str)=none/\(L.fs n).lookup ("thing_of_leaf":Str)=none/\(L.fs n).lookup ("come_to":Str)=none/\(L.fs n).lookup ("go_further":Str)=none/\(L.fs n).lookup ("taken_things":Str)=none/\(L.fs n).lookup ("thing_at_the_end":Str)=none/\(L.fs n).lookup ("thing_of_form":Str)=none:=⟨rfl,rfl,rfl,rfl,rfl,rfl,rfl,rfl⟩
theorem Zs2 {ws:List Str}:(ws.map V.str).all C2=true:=by rw[List.all_map];exact R8.mpr λ_ _=>rfl
theorem Ju {t:Str}{ws:List Str}:E8 (.str t) (ws.map V.str)=decide (t∈ws):=by
 unfold E8;rw[List.any_map];by_cases j:t∈ws
 ·rw[decide_eq_true j];exact List.any_eq_true.mpr ⟨t,j,by show(t == t)=true;simp⟩
 ·rw[decide_eq_false j];exact Bool.eq_false_iff.mpr λh=>by
   obtain⟨x,F,e⟩:=List.any_eq_true.mp h;have e:(x == t)=true:=e;have e:x=t:=by simpa using e
   exact j (by rw[<- e];exact F)
end K53
local macro_rules | `(tactic| walk_at "r1")=>do
  let t0:=(("s_seq s_asg s_ret s_ifS s_test s_op s_c s_cons s_nil s_call s_cb s_gname s_ex s_exi s_drop s_next s_un s_tB s_not s_and s_or s_andV s_orV s_notV s_vals s_tup s_lst s_bm s_bm0 s_sl s_po s_po0 s_gcons s_gnil s_gsub s_isN s_notN s_rI0 s_rU s_add_int s_lt s_le iteT iteF s_comp s_for s_rng1 s_rng3 s_exr s_iany s_irev s_ienum s_listen s_listrev s_izip s_ienumT s_listzp s_ipI s_yes s_turn s_int_b s_intb s_truth s_chain s_nt s_nf".splitOn " ").map λs=>Lean.mkIdent (.str `L2 s)).toArray
  let t1:=(("s_var s_aug s_eq s_ne s_neb".splitOn " ").map λs=>Lean.mkIdent (.str `L2 s)).toArray
  `(tactic| (first|(with_reducible first $[|refine $t0 ?_]*)|(first $[|((with_reducible refine' $t1 ?e ?_); (case e=>exact rfl))]*)|((with_reducible refine' L2.s_rI ?c ?_); (case c=>first|decide|exact⟨by decide,by decide⟩|exact⟨by decide,by decide,by decide⟩))|((with_reducible refine' L2.s_mul_r ?a ?b ?_); (case a=>decide); (case b=>decide))|((with_reducible refine' L2.s_mul_l ?a ?b ?_); (case a=>decide); (case b=>decide))|((with_reducible refine' L2.s_exr3 ?e ?_); (case e=>decide))))
local macro_rules | `(tactic| walk_at "r")=>`(tactic| (repeat walk_at "r1"))
local macro_rules | `(tactic| left)=>`(tactic| walk_at "r")
namespace K53
open PySem L2
section
variable {P:Program}{w:World}{K:Pg}{mg:Str->Option Value}{base:Heap}
def Zgq (K:Pg):Sp:=λvs H Q _=>∃(v:V)(t:Tr),vs=[v]/\TrAt K H v t/\t.size<=2000/\∀(p:Addr)(rows:List V)(H':Hp),Same H H'->H p=none->H' p=some (.lst rows)->Al (RowT K H') rows (walk [] t)->Q (.ref p) H'
theorem sc_placed_forms:A9 ["tree","told","waiting","pair","number","part"] ["tree"] (A5 Lc):=by walk_at "sc"
def PlJ (K:Pg)(H:Hp)(v:V)(t:Tr)(pt pw:Addr)(m:Nat)(σ:St)(H':Hp):Prop:=eX7 λ(v3 v4 v5:Option V)(tv wv:List V)(dn st:List (List Nat×Tr))=>σ=[some v,some (.ref pt),some (.ref pw),v3,v4,v5]/\H' pt=some (.lst tv)/\H' pw=some (.lst wv) /\
 Al (RowT K H') tv dn/\Al (RowT K H') wv st/\dn++Gk st=walk [] t/\m=E5 st/\Same H H'
theorem Zq0 (F:Fun K "placed_forms" "placed_forms" Lc f fd)(T:Txt K mg):FnOk P w K mg base Aq 1 f fd ["tree"] (Zgq K):=by
 refine F.okq sc_placed_forms (λvs H Q E h=>?_) (λb9 A outer s H vs Q E hr h=>?_)
 ·obtain⟨v,t,rfl,_⟩:=h;rfl
 ·obtain⟨v,t,rfl,ht,hz,q⟩:=h;refine⟨_,Ad (Av 1 sc_placed_forms (Bq Ab))
   (Ad (Av 2 sc_placed_forms (Bq (Aa (Ao (Aa (Ao Ab) (Aa (qv 0) Ab))) Ab)))
   (Ad (Zf0 Qp (M9 K (qv 2) (by intro _;rfl)) (Ad (Av 3 sc_placed_forms (Ls K P5 Tq Ts Kp (qv 2)))
   (Ad (B2 (Cv K P5 Qe Qf C7 (qv 1) (Aa (qv 3) Ab)))
   (Af (Dq Qp rfl (Zhm K rfl T.reversed (Aa (Zj5 K (by rfl) T.list (by rfl) T.enumerate (Aa (Ah K (Ah K (qv 3) Ac) Ac) Ab)) Ab)) (Ep K (n:=2) rfl (Ci (Bc (i:=4) sc_placed_forms.nd rfl (Or.inl rfl)) (Ci (Bc (i:=5) sc_placed_forms.nd rfl (Or.inl rfl)) (Ei)))) (Af (B2 (Cv K P5 Qe Qf C7 (qv 2) (Aa (Ao (Aa (Ai (Lm K) (Ah K (qv 3) Ac) (Ao (Aa (qv 4) Ab))) (Aa (qv 5) Ab))) Ab)))))))))
   (Af (An (qv 1))))),?_⟩
  have bg:=big;left;refine⟨Bm,λpt ag=>?_⟩;left;refine⟨Bm,λp0 a6=>?_⟩;left;refine⟨B1,λp1 av=>?_⟩;left;refine⟨C9,λY ai=>?_⟩;left;have s0:Same (upd H pt (.lst [])) _:=((Same.upd (o:=.tup []) a6).put (o:=.tup [.ref p0,v]) av).put (o:=.lst [.ref p1]) ai;have s1:Same (upd (upd H pt (.lst [])) p0 (.tup [])) _:=(Same.upd (o:=.tup [.ref p0,v]) av).put (o:=.lst [.ref p1]) ai;have s2:=Same.upd (o:=.lst [.ref p1]) ai;have sH:=(Same.upd (o:=.lst []) ag).trans s0;have al:=s0 pt _ Ae;have bv:upd (upd (upd (upd H pt (.lst [])) p0 (.tup [])) p1 (.tup [.ref p0,v])) Y (.lst [.ref p1]) Y=some (.lst [.ref p1]):=Ae;have bh:=s1 p0 _ Ae;have br:=s2 p1 _ Ae;have aw:pt≠Y:=λz=>by rw[z]at al;rw[Ae]at al;cases al
  have an:H Y=none:=((Same.upd (o:=.lst []) ag).trans ((Same.upd (o:=.tup []) a6).put (o:=.tup [.ref p0,v]) av)).free ai;refine⟨PlJ K H v t pt Y,⟨_,none,none,none,[],[.ref p1],[],[([],t)],rfl,al,bv,.nil,Al.nil.snoc ⟨p1,p0,v,rfl,SqT.of br,bh,ht.same sH⟩,by simp[Gk],rfl,sH⟩,?_⟩;rintro m b5 H' ⟨v3,v4,v5,tv,wv,dn,st,rfl,et,ew,ah,a5,hw,rfl,sm⟩;have cf:dn.length+E5 st=t.size:=by
   have:=congrArg Th hw;rw[Pn,Op]at this;exact this
  have b6:tv.length=dn.length:=ah.1;left;refine Zhf (SqL.of ew) ?_;by_cases ax:wv=[]
  ·subst ax;have bw:st=[]:=Sc a5.1.symm;subst bw;refine iteF ?_;left;rw[Zs8,Q0]at hw;rw[hw]at ah;exact q pt tv H' sm ag et ah
  obtain⟨O,tp,I,x,rfl,rfl,bq,a9⟩:=a5.last ax;have bf:(!(O++[tp]).isEmpty)=true:=by simp
  rw[bf];refine iteT ?_;obtain⟨pl,tx⟩:=x;have hx:(pl,tx)∈walk [] t:=by rw[<- hw,Zbv];simp
  have b7:pl.length<=2000:=by have:=Zbm [] t _ hx;simp at this;lia
  have ae:=Zmr I (pl,tx);have bi:=Zsi (I++(Ct pl 0 tx.ps).reverse);refine⟨λbb H2=>∃m',m'<E5 (I++[(pl,tx)])/\PlJ K H v t pt Y m' bb H2,λ_ _ h=>h,?_⟩;left;refine Ce (SqL.of ew) ?_;refine Je ew ?_;have t1:SameT H' (upd H' Y (.lst O)):=SameT.set ew;have aq:upd H' Y (.lst O) pt=some (.lst tv):=by rw[Ag aw];exact et
  left;refine Ce (SqL.of aq) ?_;left;refine C6 aq (by lia) ?_;have t2:SameT H' (upd (upd H' Y (.lst O)) pt (.lst (tv++[tp]))):=t1.trans (SameT.set aq);have af:upd (upd H' Y (.lst O)) pt (.lst (tv++[tp])) pt=some (.lst (tv++[tp])):=Ae;have ak:upd (upd H' Y (.lst O)) pt (.lst (tv++[tp])) Y=some (.lst O):=by rw[Ag aw.symm,Ae]
  have as:Same H (upd (upd H' Y (.lst O)) pt (.lst (tv++[tp]))):=(sm.over an).over ag;revert t2 af ak as;generalize upd (upd H' Y (.lst O)) pt (.lst (tv++[tp]))=H3;intro t2 af ak as;have ad:=RowT.same t2 _ _ a9;obtain⟨a,p,u,rfl,qa,qp,hu⟩:=id ad;cases hu with
  | @mk b pp wd nv n vs ts qb hn be hl bp =>
  left;refine Aw qa rfl ?_;left;refine Aw qb rfl ?_;left;refine⟨pp,vs,rfl,be,λS ys H4 hS s4 b8 aj a8=>?_⟩;left;refine⟨S,ys,rfl,SqL.of a8,?_⟩;have b0:Y≠S:=Cy ak hS;have ca:pt≠S:=Cy af hS;have bo:Al (RowT K H4) O I:=bq.mono (RowT.same (t2.trans s4.t));have ay:(Ct pl 0 ts).length=ys.length:=by rw[Zgj];lia
  refine Ze4 (K:=K) (a:=S) (xs:=ys) (λj am H5=>eX3 λ(v4 v5:Option V)(U:List V)=>am=[some v,some (.ref pt),some (.ref Y),some (.ref a),v4,v5]/\H5 pt=some (.lst (tv++[.ref a]))/\H5 Y=some (.lst U)/\H5 S=some (.lst ys)/\Al (RowT K H5) U (I++((Ct pl 0 ts).drop (ys.length-j)).reverse)/\SameT H4 H5/\Same H H5)
   ⟨_,_,O,rfl,s4 _ _ af,s4 _ _ ak,a8,by rw[Ui,Rr (by lia)];simpa using bo,SameT.refl _,as.trans s4⟩ ?_ ?_ ?_
  ·rintro j am H5 _ ⟨_,_,_,_,_,_,e,_⟩;exact SqL.of e
  ·rintro i y am H5 hi hy ⟨bn,b3,U,rfl,ap,aa,a0,ac,t5,au⟩;obtain⟨tt,xw,rfl,a4,bx⟩:=aj _ _ hy;have a7:=(t5 tt).1 _ bx;left;refine Dz (SqT.of a7) rfl ?_;left;refine Ce (SqL.of aa) ?_;left;have T5:SameT H3 H5:=s4.t.trans t5;refine Aw (T5.tup qa) rfl ?_;left;refine⟨C9,λp6 h6=>?_⟩;refine Zby (((T5.trans (SameT.new h6)) p).1 _ qp) Ae (by show(A4 pl).length+1<=sizeLine;unfold A4;rw[Pp];lia) λr H7 s7 q7=>?_;left;refine⟨B1,λp7 h7=>?_⟩;left;have bu:Same H5 H7:=(Same.upd h6).trans s7;have Z:=bu.put (o:=.tup [.ref r,xw]) h7;have ce:U.length=I.length+((Ct pl 0 ts).drop (ys.length-i)).length:=by have:=ac.1;simp at this ⊢;lia
   have cc:(I++(Ct pl 0 ts).reverse).length=I.length+ys.length:=by rw[Pn,Tw,ay]
   have b4:(I++(Ct pl 0 ts).reverse).length<=2000:=by
    have h1:E5 (I++(Ct pl 0 (Tr.mk wd n ts).ps).reverse)<E5 (I++[(pl,Tr.mk wd n ts)]):=ae;have h2:(I++(Ct pl 0 (Tr.mk wd n ts).ps).reverse).length<=E5 (I++(Ct pl 0 (Tr.mk wd n ts).ps).reverse):=bi;have h3:(Tr.mk wd n ts).ps=ts:=rfl;rw[h3]at h1 h2;lia
   have cb:((Ct pl 0 ts).drop (ys.length-i)).length<=ys.length:=by rw[Rw];lia
   refine C6 (Z _ _ aa) (by lia) ?_;have ao:=Z _ _ aa;have t9:SameT H5 (upd (upd H7 p7 (.tup [.ref r,xw])) Y (.lst (U++[.ref p7]))):=Z.t.trans (SameT.set ao);obtain⟨tk,bj,bt⟩:∃tk,ts[ys.length-1-i]?=some tk/\TrAt K H3 xw tk:=by
    have hj:=(Pt.mp a4).1;have ba:ys.length-1-i<ts.length:=by lia
    exact⟨_,Pk ba,bp _ _ _ a4 (Pk ba)⟩
   have a3:(Ct pl 0 ts)[ys.length-1-i]?=some (pl++[ys.length-1-i],tk):=by
    rw[Zek,bj];simp
   refine⟨_,_,U++[.ref p7],rfl,?_,Ae,?_,?_,t5.trans t9,(au.trans Z).over an⟩
   ·rw[Ag aw];exact Z _ _ ap
   ·rw[Ag b0.symm];exact Z _ _ a0
   ·rw[Zuz ay hi a3,<- P8];refine(ac.mono (RowT.same t9)).snoc ⟨p7,r,xw,rfl,(SameT.set ao).tup (SqT.of Ae),?_,bt.sameT (T5.trans t9)⟩;have q9:=(((SameT.new (o:=.tup [.ref r,xw]) h7).trans (SameT.set (o:=.lst (U++[.ref p7])) ao)) r).1 _ q7;have e:A4 (pl++[ys.length-1-i])=A4 pl++[.int ((ys.length-1-i:Nat):Int)]:=by unfold A4;rw[Qh];rfl
    show upd _ _ _ r=some (.tup (A4 (pl++[ys.length-1-i])));rw[e];exact q9
  ·rintro am H5 ⟨bn,b3,U,rfl,ap,aa,a0,ac,t5,au⟩;rw[Re,List.drop_zero]at ac;refine⟨_,ae,_,_,_,tv++[.ref a],U,dn++[(pl,.mk wd n ts)],_,rfl,ap,aa,?_,ac,?_,rfl,au⟩
   ·exact(ah.mono (RowT.same (t2.trans (s4.t.trans t5)))).snoc (RowT.same (s4.t.trans t5) _ _ ad)
   ·rw[<- hw,Zbv,P8];rfl
inductive Zmq (K:Pg)(C:Addr)(vs:List V)(H:Hp)(Q:VK)(e9:XK):Prop
 |mk (n:Int) (HB:Hp) (kvs:List (List Au×V)) (L:Ml) (S:MS) (_:vs=[.ref L.m,.int n]) (_:MAt K HB C kvs L H S) (_:S.steps+n<=500) (_:∀H',SameM L H H'->MAt K HB C kvs L H' { S with steps:=S.steps+n }->Q .non H')
def O1 (K:Pg)(C:Addr):Sp:=Zmq K C
theorem Zf4:A9 ["self","many"] ["self","many"] (A5 Jg):=by walk_at "sc"
theorem Zp0 (F:Fun K "make_steps" "Machine.make_steps" Jg f fd)(T:Txt K mg)(O:Mc K C)(G_MOST_STEPS:Eu mg "MOST_STEPS" (.int 500)):FnOk P w K mg base Aq 1 f fd ["self","many"] (O1 K C):=by
 refine F.okq Zf4 (λvs H Q E h=>?_) (λU A outer s H vs Q E Z h=>?_)
 ·obtain⟨n,HB,kvs,L,S,rfl,_⟩:=h;rfl
 ·obtain⟨n,HB,kvs,L,S,rfl,M,Y,q⟩:=h;refine⟨_,Ad (Zeu K (qv 0) (qv 1) Zhl)
   (Af (Ay (Az Ig (B5 K (qv 0)) (Ge G_MOST_STEPS) (Ax _)) (Af Zbt) A2)),?_⟩
  left;refine⟨_,rfl,L.m,C,L.dx,_,_,rfl,M.ins,O.cl,O.ns,Ik L S.steps,_,rfl,?_⟩;refine⟨_,_,rfl,rfl,L.dx,_,M.ins,by show 5<1000;decide,?_⟩;rw[Zgu];have j:=M.setSteps (S.steps+n);have I:SameM L H (upd H L.m (.ins C L.dx (L.fs (S.steps+n)))):=SameM.upd (.inl rfl);revert j I;generalize upd H L.m (.ins C L.dx (L.fs (S.steps+n)))=H1;intro j I;left;refine⟨_,rfl,L.m,C,L.dx,_,_,rfl,j.ins,O.cl,O.ns,Ik L (S.steps+n),?_⟩;left;rw[decide_eq_false (by lia)];left;exact q _ I j
theorem Bl (a b:Str):decide (V.str a=V.str b)=decide (a=b):=by
 by_cases h:a=b
 ·rw[decide_eq_true h,decide_eq_true (by rw[h])]
 ·rw[decide_eq_false h,decide_eq_false (λx=>h (V.str.inj x))]
noncomputable def Jt (ops:List (Str×V)):Bool:=ops.all λx=>decide (x.1=("num":Str))
inductive Zvh (K:Pg)(vs:List V)(H:Hp)(Q:VK)(e9:XK):Prop
 |mk (o:Addr) (ov:List V) (ops:List (Str×V)) (_:vs=[.ref o]) (_:H o=some (.lst ov)) (_:Al (ThAt K H) ov ops) (_:ops.length<=1000) (_:∀H',Same H H'->Q (.bl (Jt ops)) H')
def Zej (K:Pg):Sp:=Zvh K
theorem Znb:(["thing"]:List Str).Nodup:=by right
theorem Zni:A9 ["things"] ["things"] (A5 Ma):=by walk_at "sc"
theorem Ziw (F:Fun K "are_numbers" "are_numbers" Ma f fd)(T:Txt K mg):FnOk P w K mg base Aq 1 f fd ["things"] (Zej K):=by
 refine F.okq Zni (λvs H Q E h=>?_) (λaa A outer s H vs Q E hr h=>?_)
 ·obtain⟨o,Z,ops,rfl,_⟩:=h;rfl
 ·obtain⟨o,Z,ops,rfl,ho,al,hl,q⟩:=h;refine⟨_,Af (An (A6 (Znq K rfl) (by rfl) T.all (by right) (Aa (Lk (N:=["thing"]) (σ0:=Ed 1 []) rfl (Fz rfl (by right) (by right) (by right)) (E9 K (qv 0)) (Fy rfl (by rfl)) (λ_ _ _ _=>Bc (i:=0) Znb rfl (Or.inl rfl)) (λ_ _ _ _=>Ip) (λ_ _ _ _=>D5 (Ba K hr.u200) (Ah K (qv 0) Ac) Am (Ax _))) Ab))),?_⟩;have bg:=big;have U:=al.1;left;refine .inl ⟨o,rfl,⟨_,SqL.of ho⟩,λD hD=>?_⟩;refine Lo (K:=K) (a:=o) (xs:=Z) (Pv:=λi ys j H'=>∃Y,j=[Y]/\ys=((ops.take i).map λx:Str×V=>decide (x.1=("num":Str))).map V.bl/\Same H H') ⟨none,rfl,rfl,Same.upd hD⟩ ?_ ?_ ?_
  ·rintro i ys j H' _ ⟨Y,_,_,O⟩;exact SqL.of (O _ _ ho)
  ·rintro i x ys j H' hx I ⟨Y,rfl,rfl,O⟩;obtain⟨y,hy,_,a,rfl,qa⟩:=al.get hx;have hi:i<Z.length:=(Pt.mp hx).1;left;refine Aw (O.tup qa) rfl ?_;left;rw[Bl];refine⟨_,I,by rw[Pp,Pp,Qm];lia,_,Ae,_,rfl,?_,O.over hD⟩;rw[R6,hy,U5,Qh,Qh];rfl
  ·rintro ys j H' I ⟨Y,rfl,rfl,O⟩;left;refine⟨D,_,rfl,SqL.of I,?_⟩;left;have q':=q H' O;rw[U,T8];unfold Jt at q';rw[List.all_map];exact q'
noncomputable def Bs (rs:List Rx)(x:Str×V):Bool:=match x with
 |(w,.int k)=>decide (w="row") && (match rs[k.toNat]? with|some r=>decide (r.wd∈(["fn","rec"]:List Str))|none=>false)
 |_=>false
def Kc (rs:List Rx)(x:Str×V):Prop:=x.1="row" -> ∃k:Nat,x.2=.int (k:Nat)/\k<rs.length
inductive Jfin (K:Pg)(vs:List V)(H:Hp)(Q:VK)(e9:XK):Prop
 |mk (v:V) (x:Str×V) (r:Addr) (rv:List V) (A:Addr->Prop) (rs:List Rx) (_:vs=[v,.ref r]) (_:ThAt K H v x) (_:x.1="row") (_:Kc rs x) (_:H r=some (.lst rv)) (_:Al (RwAt K A H) rv rs) (_:∀H',Same H H'->Q (.bl (Bs rs x)) H')
def Zfk (K:Pg):Sp:=Jfin K
theorem Zry:A9 ["thing","rows"] ["thing","rows"] (A5 Lx):=by walk_at "sc"
theorem Zqv (F:Fun K "is_finished" "is_finished" Lx f fd)(T:Txt K mg):FnOk P w K mg base Aq 1 f fd ["thing","rows"] (Zfk K):=by
 refine F.okq Zry (λvs H Q E h=>?_) (λaa A outer s H vs Q E hr h=>?_)
 ·obtain⟨v,x,r,Z,A,rs,rfl,_⟩:=h;rfl
 ·obtain⟨v,x,r,Z,B,rs,rfl,hx,I,ok,er,al,q⟩:=h;refine⟨_,Af (An (Zs9 (D5 (Dy K hr.u200) (Ah K (qv 0) Ac) Am (Ax _)) (Fk (D5 (Ll K) (Ah K (Ah K (qv 1) (Ah K (qv 0) Ac)) Ac) (Ao (Aa Am (Aa Am Ab))) (by rfl))))),?_⟩;obtain⟨hf,a,rfl,Y⟩:=hx;obtain⟨k,O,hk⟩:=ok I;obtain⟨xw,xv⟩:=x;have I:xw="row":=I;have O:xv=.int (k:Nat):=O;subst I O;have j:k<Z.length:=by rw[al.1];exact hk
  obtain⟨y,hy,a2,p2,o2,e2,ov,ev,h1,h2,_⟩:=al.get (Pk j);have ef:Bs rs ("row",.int (k:Nat))=decide (y.wd∈(["fn","rec"]:List Str)):=by
   unfold Bs;simp only[Q3,hy,decide_true,Bool.true_and]
  rw[ef]at q;left;refine Aw Y rfl ?_;left;rw[decide_eq_true (Eq.refl _)];left;refine Aw Y rfl ?_;left;refine Bd (SqL.of er) (Ck (Pk j)) ?_;rw[h1];left;refine Aw h2 rfl ?_;left;refine⟨B1,λp1 U=>?_⟩;refine Hd (.inr (SqT.of Ae)) rfl rfl ?_;rw[if_neg Pu,show E8 (.str y.wd) [.str "fn",.str "rec"]=decide (y.wd∈(["fn","rec"]:List Str)) from Ju (ws:=["fn","rec"])];exact q _ (Same.upd U)
inductive Zka (K:Pg)(C:Addr)(vs:List V)(H:Hp)(Q:VK)(e9:XK):Prop
 |mk (v:V) (x:Str×V) (HB:Hp) (kvs:List (List Au×V)) (L:Ml) (S:MS) (_:vs=[.ref L.m,v]) (_:MAt K HB C kvs L H S) (_:ThAt K H v x) (_:Kc S.rows x) (_:∀H',Same H H'->Q (.bl (Bs S.rows x)) H')
def Zh9 (K:Pg)(C:Addr):Sp:=Zka K C
theorem Zn1:A9 ["self","thing"] ["self","thing"] (A5 Lr):=by walk_at "sc"
theorem Zpu (F:Fun K "is_function" "Machine.is_function" Lr f fd)(T:Txt K mg)(O:Mc K C)(C_is_finished:A8 P w K mg base 1 "is_finished" ["thing","rows"] (Zfk K)):FnOk P w K mg base Aq 2 f fd ["self","thing"] (Zh9 K C):=by
 refine F.okq Zn1 (λvs H Q E h=>?_) (λaa A outer s H vs Q E I h=>?_)
 ·obtain⟨v,x,HB,kvs,L,S,rfl,_⟩:=h;rfl
 ·obtain⟨v,x,HB,kvs,L,S,rfl,M,U,ok,q⟩:=h;refine⟨_,Af (An (Fo (D5 (Ba K I.u200) (Ah K (qv 1) Ac) Am (Ax _)) (Fk (A3 C_is_finished I.m (Aa (qv 1) (Aa (B5 K (qv 0)) Ab)))))),?_⟩;obtain⟨hf,a,rfl,qa⟩:=id U;obtain⟨Y,er,ar,Z⟩:=M.rows;left;refine Aw qa rfl ?_;left;rw[Bl];by_cases j:x.1="row"
  ·rw[decide_eq_true j];left;refine⟨_,rfl,L.m,C,L.dx,_,_,rfl,M.ins,O.cl,O.nr,Iy L S.steps,?_⟩;left;exact⟨_,x,L.rd,Y,_,S.rows,rfl,U,j,ok,er,ar.mono λv x h=>h.1,q⟩
  ·rw[decide_eq_false j];have e:Bs S.rows x=false:=by
    unfold Bs;split
    ·simp only at j;rw[decide_eq_false j];rfl
    ·rfl
   rw[e]at q;left;exact q H (Same.refl _)
noncomputable def Cd (wd:Str)(d:Dt)(n:Int):List Str :=
 if wd="fn" then (match d with|.flat (.str z)=>[z]|_=>[])
 else if wd="rec" then (match d with|.tup [.flat (.str y),.flat (.str z)]=>[y,z]|_=>[])
 else if wd="let"/\n=1 then (match d with|.flat (.str z)=>[z]|_=>[])
 else []
def Fl (wd:Str)(d:Dt):Prop:=(wd="fn"\/wd="let" -> ∃z,d=.flat (.str z))/\(wd="rec" -> ∃y z,d=.tup [.flat (.str y),.flat (.str z)])
inductive Zmu (K:Pg)(vs:List V)(H:Hp)(Q:VK)(e9:XK):Prop
 |mk (v:V) (wd:Str) (d:Dt) (ts:List Tr) (n:Int) (_:vs=[v,.int n]) (_:TrAt K H v (.mk wd d ts)) (_:Fl wd d) (_:∀l H',Same H H'->H l=none->H' l=some (.lst ((Cd wd d n).map V.str))->Q (.ref l) H')
def Zha (K:Pg):Sp:=Zmu K
theorem Zlx:A9 ["form","number"] ["form","number"] (A5 Mg):=by walk_at "sc"
theorem Zor (F:Fun K "names_bound" "names_bound" Mg f fd)(T:Txt K mg):FnOk P w K mg base Aq 1 f fd ["form","number"] (Zha K):=by
 refine F.okq Zlx (λvs H Q E h=>?_) (λac A outer s H vs Q E Z h=>?_)
 ·obtain⟨v,wd,d,ts,n,rfl,_⟩:=h;rfl
 ·obtain⟨v,wd,d,ts,n,rfl,ht,ok,q⟩:=h;refine⟨_,Ad (Ay (Az (Ba K Z.u200) (Ah K (qv 0) Ac) Am (Ax _)) (Af (An (Bq (Aa (Ah K (qv 0) Ac) Ab)))) A2)
   (Ad (Ay (Az (Ba K Z.u200) (Ah K (qv 0) Ac) Am (Ax _)) (Af (An (D4 (Jf K) (by rfl) T.list (by right) (Aa (Ah K (qv 0) Ac) Ab)))) A2)
   (Ad (Ay (QW.qt (Ef (Az (Ba K Z.u200) (Ah K (qv 0) Ac) Am (Ax _)) (D7 (Az (Ba K Z.u200) (qv 1) Ac (Ax _))))) (Af (An (Bq (Aa (Ah K (qv 0) Ac) Ab)))) A2)
   (Af (An (Bq Ab))))),?_⟩
  cases ht with
  | @mk b pp _ nv _ vs _ Y hn ad hl ae =>
  have flat:∀z,d=.flat (.str z)->nv=.str z:=by
   intro z e;rcases hn with⟨_,h⟩|⟨_,_,_,_,_,h⟩
   ·rw[e]at h;injection h with h;exact h.symm
   ·rw[e]at h;cases h
  unfold Cd at q;left;refine Aw Y rfl ?_;left;rw[Bl];refine Be (λh=>?_) (λh=>?_)
  ·have h:wd="fn":=of_decide_eq_true h;obtain⟨z,rfl⟩:=ok.1 (.inl h);have:=flat z rfl;subst this;rw[if_pos h]at q;left;refine Aw Y rfl ?_;left;refine⟨C9,λl j=>?_⟩;exact q l _ (Same.upd j) j Ae
  have h:¬wd="fn":=λx=>h (decide_eq_true x);rw[if_neg h]at q;left;refine Aw Y rfl ?_;left;rw[Bl];refine Be (λh=>?_) (λh=>?_)
  ·have h:wd="rec":=of_decide_eq_true h;obtain⟨y,z,rfl⟩:=ok.2 h;rw[if_pos h]at q;obtain⟨a,U,rfl,qa,aa⟩:∃a U,nv=.ref a/\SqT K H a U/\U=[.str y,.str z]:=by
    rcases hn with⟨_,h⟩|⟨a,U,e,qa,_,h⟩
    ·cases h
    ·refine⟨a,U,e,qa,?_⟩;injection h with h;obtain⟨u1,u2,rfl⟩:=lz2 (vs:=U) (by first|exact h|(have:=congrArg Th h;rw[Pp]at this;exact this.symm));simp only[Qs,Vu,Ww,Dt.flat.injEq,and_true]at h;rw[h.1,h.2]
   subst aa;left;refine Aw Y rfl ?_;left;refine⟨a,_,rfl,.inr qa,λl j=>?_⟩;exact q l _ (Same.upd j) j Ae
  have h:¬wd="rec":=λx=>h (decide_eq_true x);rw[if_neg h]at q;left;refine Aw Y rfl ?_;left;rw[Bl];by_cases I:wd="let"
  ·rw[decide_eq_true I];left;by_cases O:n=1
   ·rw[decide_eq_true (by rw[O])];obtain⟨z,rfl⟩:=ok.1 (.inr I);have:=flat z rfl;subst this;rw[if_pos ⟨I,O⟩]at q;left;refine Aw Y rfl ?_;left;refine⟨C9,λl j=>?_⟩;exact q l _ (Same.upd j) j Ae
   ·rw[decide_eq_false (λh=>O (V.int.inj h))];rw[if_neg (λh=>O h.2)]at q;left;refine⟨Bm,λl j=>?_⟩;exact q l _ (Same.upd j) j Ae
  ·rw[decide_eq_false I];rw[if_neg (λh=>I h.1)]at q;left;refine⟨Bm,λl j=>?_⟩;exact q l _ (Same.upd j) j Ae
inductive Zlt (K:Pg)(C:Addr)(vs:List V)(H:Hp)(Q:VK)(e9:XK):Prop
 |mk (wd:Str) (p o e:Addr) (pl:List Nat) (ov ev:List V) (ops:List (Str×V)) (ar:List (Str×Str×V)) (HB:Hp) (kvs:List (List Au×V)) (L:Ml) (S:MS) (_:vs=[.ref L.m,.str wd,.ref p,.ref o,.ref e]) (_:MAt K HB C kvs L H S) (_:H p=some (.tup (A4 pl))) (_:SqL K H o ov) (_:Al (ThAt K H) ov ops) (_:SqL K H e ev) (_:Al (PrAt K H) ev ar) (_:S.rows.length<10000) (_:∀v H',SameM L H H'->MAt K HB C kvs L H' { S with rows:=S.rows++[⟨wd,A1 pl,ops,if wd∈WA then ar else []⟩] }->ThAt K H' v ("row",.int (S.rows.length:Nat))->Q v H')
def Ke (K:Pg)(C:Addr):Sp:=Zlt K C
theorem Zh2:A9 ["self","word","place","operands","around","kept"] ["self","word","place","operands","around"] (A5 Ko):=by walk_at "sc"
theorem viaV {t:TE}{σ:St}{H:Hp}{Q:VK}(R:V->Hp->Prop)(h2:∀x H',R x H'->Q x H')(h1:∀Q':VK,(∀x H',R x H'->Q' x H')->t σ H Q'):t σ H Q:=h1 Q h2
theorem Zl1 (F:Fun K "new_row" "Machine.new_row" Ko f fd)(T:Txt K mg)(O:Mc K C)(G_WORDS_WITH_AROUND:Eu mg "WORDS_WITH_AROUND" (.ref aw))(hwa:∀H,SqT K H aw (WA.map V.str)):FnOk P w K mg base Aq 1 f fd ["self","word","place","operands","around"] (Ke K C):=by
 refine F.okq Zh2 (λvs H Q E h=>?_) (λan A outer s H vs Q E hr h=>?_)
 ·obtain⟨wd,p,o,e,pl,ov,ev,ops,ar,HB,kvs,L,S,rfl,_⟩:=h;rfl
 ·obtain⟨wd,p,o,e,pl,ov,ev,ops,ar,HB,kvs,L,S,rfl,M,hp,ho,ae,he,ak,hz,q⟩:=h;refine⟨_,Ad (Av 5 Zh2 (Nl (Az (Ll K) (qv 1) (Ge G_WORDS_WITH_AROUND) (by rfl)) (D4 (Jf K) (by rfl) T.list (by right) (Aa (qv 4) Ab)) (Bq Ab)))
   (Ad (B2 (Cv K P5 Qe Qf C7 (B5 K (qv 0)) (Aa (Ao (Aa (qv 1) (Aa (qv 2) (Aa (D4 (Jf K) (by rfl) T.list (by right) (Aa (qv 3) Ab)) (Aa (qv 5) Ab))))) Ab)))
   (Af (An (Ao (Aa Am (Aa (Ai Eo (A6 (B7 K) (by rfl) T.len (by right) (Aa (B5 K (qv 0)) Ab)) Ac) Ab)))))),?_⟩
  have bg:=big;left;have kept:Al (PrAt K H) (if wd∈WA then ev else []) (if wd∈WA then ar else []):=by
   by_cases hw:wd∈WA
   ·rw[if_pos hw,if_pos hw];exact ak
   ·rw[if_neg hw,if_neg hw];exact .nil
  refine viaV (R:=λx H'=>∃k,x=.ref k/\H k=none/\H'=upd H k (.lst (if wd∈WA then ev else []))) ?_ (λQ' hQ=>?_)
  ·rintro _ _ ⟨k,rfl,hk,rfl⟩;have s1:Same H (upd H k (.lst (if wd∈WA then ev else []))):=Same.upd hk;have e1:upd H k (.lst (if wd∈WA then ev else [])) k=some (.lst (if wd∈WA then ev else [])):=Ae;revert s1 e1 kept;generalize (if wd∈WA then ev else [])=kv;generalize (if wd∈WA then ar else [])=ka at q ⊢;generalize upd H k (.lst kv)=H1;intro kept s1 e1;have M1:=M.new s1;obtain⟨U,er,ad,ao⟩:=M1.rows;left;refine⟨_,rfl,L.m,C,L.dx,_,_,rfl,M1.ins,O.cl,O.nr,Iy L S.steps,?_⟩;refine Ce (SqL.of er) ?_;left;refine⟨_,ov,rfl,.inl (s1.seq ho),λZ I=>?_⟩;have s2:Same H1 (upd H1 Z (.lst ov)):=Same.upd I;have e2:upd H1 Z (.lst ov) Z=some (.lst ov):=Ae;have Y:=s2 _ _ e1;revert s2 e2 Y;generalize upd H1 Z (.lst ov)=H2;intro s2 e2 Y;left;refine⟨sz4,λr hr=>?_⟩;obtain⟨H3,s3,e3,z9⟩:=Cf hr (.tup [.str wd,.ref p,.ref Z,.ref k]);rw[z9];have ac:=s2.trans s3;have j:=s1.trans ac;have M3:=M.new j;have ap:U.length=S.rows.length:=ad.1;left;refine C6 (ac _ _ er) (by lia) ?_;obtain⟨al,af,_,ai⟩:=M.rows;obtain⟨as,ag,_⟩:=M.wait;obtain⟨aq,aj,_⟩:=M.things;have nb:∀b,H b=none->¬(L.A b\/HB b≠none):=by
    intro b hb hx;rcases hx with(z|z|z)|z
    ·rw[z,af]at hb;cases hb
    ·rw[z,ag]at hb;cases hb
    ·rw[z,aj]at hb;cases hb
    ·cases h:HB b with
     |none=>exact z h
     |some ob=>rw[M.base _ _ h]at hb;cases hb
   have am:RwO K (λb=>L.A b\/HB b≠none) H3 (.ref r) (⟨wd,A1 pl,ops,ka⟩,Z,k):=⟨r,p,ov,kv,rfl,SqT.of e3,by rw[Ez];exact SqT.of (j _ _ hp),s3 _ _ e2,ae.mono (ThAt.same j.t),s3 _ _ Y,kept.mono (PrAt.same j.t),nb _ (s1.free I),nb _ hk,λz=>by rw[show Z=k from z,e1]at I;cases I⟩;have ah:SepR K (λb=>L.A b\/HB b≠none) H3 (U++[.ref r]) (S.rows++[⟨wd,A1 pl,ops,ka⟩]):=SepR.add (H:=H) (by rw[show U=al from by have h:=s1 _ _ af;rw[er]at h;cases h;rfl];exact ai) j (s1.free I) hk am;have M4:=M3.setRows (rv:=U++[.ref r]) (rs:=S.rows++[⟨wd,A1 pl,ops,ka⟩]) ((ad.mono (RwX.same ac.a)).snoc ⟨⟨r,p,Z,k,ov,kv,rfl,SqT.of e3,by rw[Ez];exact SqT.of (j _ _ hp),s3 _ _ e2,ae.mono (ThAt.same j.t),s3 _ _ Y,kept.mono (PrAt.same j.t),nb _ (s1.free I),nb _ hk⟩,r,p,Z,k,rfl,SqT.of e3,by rw[Ez];exact j _ _ hp⟩) ah;have e4:SameM L H (upd H3 L.rd (.lst (U++[.ref r]))):=(j.m L).trans (SameM.upd (.inr (.inl rfl)));have aa:upd H3 L.rd (.lst (U++[.ref r])) L.rd=some (.lst (U++[.ref r])):=Ae;revert M4 e4 aa;generalize upd H3 L.rd (.lst (U++[.ref r]))=H4;intro M4 e4 aa;left;refine⟨_,rfl,L.m,C,L.dx,_,_,rfl,M4.ins,O.cl,O.nr,Iy L S.steps,?_⟩;left;refine Cp (SqL.of aa) ?_;left;refine⟨B1,λt ht=>?_⟩;have e5:(((U++[V.ref r]).length:Nat):Int)-1=((S.rows.length:Nat):Int):=by rw[Pn,Py];lia
   rw[e5];have s5:Same H4 (upd H4 t (.tup [.str "row",.int (S.rows.length:Nat)])):=Same.upd ht;exact q _ _ (e4.trans (s5.m L)) (M4.new s5) ⟨rfl,t,rfl,SqT.of Ae⟩
  ·unfold Ir;left;refine Hd (.inr (hwa _)) rfl Zs2 ?_;rw[if_neg Pu,Ju];refine⟨_,rfl,?_⟩;refine Be (λh=>?_) (λh=>?_)
   ·have h:wd∈WA:=of_decide_eq_true h;left;refine⟨_,ev,rfl,.inl he,λk hk=>?_⟩;exact hQ _ _ ⟨k,rfl,hk,by rw[if_pos h]⟩
   ·have h:¬wd∈WA:=λx=>h (decide_eq_true x);left;refine⟨Bm,λk hk=>?_⟩;exact hQ _ _ ⟨k,rfl,hk,by rw[if_neg h]⟩
noncomputable def Bt (ns:List Str)(xs:List (Str×V)):List (Str×Str×V):=ns.zip xs
noncomputable def Hk (S:MS)(wd:Str)(d:Dt)(pl:List Nat)(n:Nat)(ar:List (Str×Str×V))(xs:List (Str×V)):MS:={ S with wait:=S.wait++[⟨pl++[n],ar++Bt (Cd wd d n) xs,false⟩] }
inductive Zme (K:Pg)(C:Addr)(vs:List V)(H:Hp)(Q:VK)(e9:XK):Prop
 |mk (p e o:Addr) (n:Nat) (pl:List Nat) (ev ov:List V) (ar:List (Str×Str×V)) (xs:List (Str×V)) (HB:Hp) (kvs:List (List Au×V)) (L:Ml) (S:MS) (v:V) (wd:Str) (d:Dt) (ts:List Tr) (_:vs=[.ref L.m,.ref p,.int (n:Nat),.ref e,.ref o]) (_:MAt K HB C kvs L H S) (_:H p=some (.tup (A4 pl))) (_:H e=some (.lst ev)) (_:Al (PrAt K H) ev ar) (_:H o=some (.lst ov)) (_:Al (ThAt K H) ov xs) (_:Cc kvs (Dn pl)=some v) (_:TrAt K H v (.mk wd d ts)) (_:Fl wd d) (_:pl.length<=2000) (_:ar.length<=9000) (_:S.wait.length<9000) (_:∀H',SameM L H H'->MAt K HB C kvs L H' (Hk S wd d pl n ar xs)->Q .non H')
def N5 (K:Pg)(C:Addr):Sp:=Zme K C
theorem Zg2:A9 ["self","place","number","around","things","names"] ["self","place","number","around","things"] (A5 K4):=by walk_at "sc"
theorem Zrk (wd:Str)(d:Dt)(n:Int):(Cd wd d n).length<=2:=by
 unfold Cd
 repeat' split
 all_goals simp
theorem Zsf (F:Fun K "go_within" "Machine.go_within" K4 f fd)(T:Txt K mg)(O:Mc K C)(C_names_bound:A8 P w K mg base 1 "names_bound" ["form","number"] (Zha K)):FnOk P w K mg base Aq 2 f fd ["self","place","number","around","things"] (N5 K C):=by
 refine F.okq Zg2 (λvs H Q E h=>?_) (λa0 A outer s H vs Q E hr h=>?_)
 ·obtain⟨p,e,o,n,pl,ev,ov,ar,xs,HB,kvs,L,S,v,wd,d,ts,rfl,_⟩:=h;rfl
 ·obtain⟨p,e,o,n,pl,ev,ov,ar,xs,HB,kvs,L,S,v,wd,d,ts,rfl,M,hp,he,ae,ho,ag,hv,ht,bk,au,ay,av,q⟩:=h;refine⟨_,Ad (Av 5 Zg2 (A3 C_names_bound hr.m (Aa (Kg hr.u1 (B5 K (qv 0)) (qv 1) (λ_ _=>rfl)) (Aa (qv 2) Ab))))
   (Af (B2 (Cv K P5 Qe Qf C7 (B5 K (qv 0)) (Aa (Ao (Aa (Ai (Lm K) (qv 1) (Ao (Aa (qv 2) Ab))) (Aa (Ai (B6 K) (qv 3) (Zms K (by rfl) T.list (by rfl) T.zip (Aa (qv 5) (Aa (qv 4) Ab)))) (Aa B9 Ab)))) Ab)))),?_⟩
  have bg:=big;have bn:=Zrk wd d n;left;refine⟨_,rfl,L.m,C,L.dx,_,_,rfl,M.ins,O.cl,O.nf,Nj L S.steps,_,rfl,L.fd,v,rfl,?_,?_⟩
  ·rw[<- hv];refine DGet.t M.frm ?_;rw[J8];exact hp
  left;refine⟨v,wd,d,ts,n,rfl,ht,bk,λl H1 s1 hl e1=>?_⟩;have M1:=M.new s1;obtain⟨wv,ew,aw⟩:=M1.wait;have as:=aw.1;left;refine⟨_,rfl,L.m,C,L.dx,_,_,rfl,M1.ins,O.cl,O.nw,G4 L S.steps,?_⟩;refine Ce (SqL.of ew) ?_;left;refine⟨C9,λp2 aj=>?_⟩;obtain⟨H2,s2,e2,z9⟩:=Cf aj (.tup [.int (n:Nat)]);rw[z9];refine Zby (s2 _ _ (s1 _ _ hp)) e2 (by unfold A4;rw[Pp,Py];lia) λp3 H3 s3 e3=>?_;have af:=s1.trans (s2.trans s3);left;refine Zjj ?_;left;refine⟨l,o,_,ov,rfl,SqL.of (s3 _ _ (s2 _ _ e1)),SqL.of (af _ _ ho),λz zs H4 ax s4 ad al ez=>?_⟩;have U:=af.trans s4;have ak:=U _ _ he;have ap:Al (PrAt K H4) zs (Bt (Cd wd d n) xs):=by
   have an:=ag.1;refine⟨by unfold Bt;rw[ad,Pp,List.length_zip,an],λj y x f1 f2=>?_⟩;obtain⟨t,u1,u2,rfl,g1,g2,g3⟩:=al j y f1;unfold Bt at f2;rw[List.getElem?_zip_eq_some]at f2;rw[Qy,f2.1]at g1;cases g1;exact⟨t,u2,rfl,SqT.of g3,ThAt.same U.t _ _ (ag.2 j _ _ g2 f2.2)⟩
  have aq:zs.length<=2:=by rw[ad,Pp];lia
  have a3:=ae.1;refine Gv ak ez (by lia) λY I=>?_;have s5:Same H4 (upd H4 Y (.lst (ev++zs))):=Same.upd I;have aa:upd H4 Y (.lst (ev++zs)) Y=some (.lst (ev++zs)):=Ae;have ao:¬L.A Y:=by
   have M4:=M.new U;obtain⟨rv,er,_⟩:=M4.rows;obtain⟨a4,ai,_⟩:=M4.wait;obtain⟨tv,et,_⟩:=M4.things;rintro(y|y|y)
   ·rw[y,er]at I;cases I
   ·rw[y,ai]at I;cases I
   ·rw[y,et]at I;cases I
  revert s5 aa;generalize upd H4 Y (.lst (ev++zs))=H5;intro s5 aa;have ah:=U.trans s5;left;refine⟨Bg,λr am=>?_⟩;obtain⟨H6,s6,e6,z9⟩:=Cf am (.tup [.ref p3,.ref Y,.bl false]);rw[z9];have Z:=ah.trans s6;have ac:=s2.trans (s3.trans (s4.trans (s5.trans s6)));left;refine C6 (ac _ _ ew) (by lia) ?_;have M6:=M.new Z;have M7:=M6.setWait (wv:=wv++[.ref r]) (ws:=S.wait++[⟨pl++[n],ar++Bt (Cd wd d n) xs,false⟩]) ((aw.mono (WtAt.same ac.a)).snoc ⟨r,p3,Y,ev++zs,rfl,SqT.of e6,?_,s6 _ _ aa,?_,ao⟩)
  ·left;exact q _ ((Z.m L).trans (SameM.upd (.inr (.inr (.inl rfl))))) M7
  ·have e9:=s6 _ _ (s5 _ _ (s4 _ _ e3));rw[e9];unfold A4;rw[Qh];rfl
  ·exact(ae.mono (PrAt.same Z.t)).append (ap.mono (PrAt.same (s5.trans s6).t))
theorem Iq (L:Ml)(n:Int):(L.fs n).lookup ("go_within":Str)=none/\(L.fs n).lookup ("is_function":Str)=none/\(L.fs n).lookup ("call":Str)=none:=⟨rfl,rfl,rfl⟩
inductive Ztk (K:Pg)(C:Addr)(vs:List V)(H:Hp)(Q:VK)(e9:XK):Prop
 |mk (o:Addr) (ov:List V) (k:Nat) (xs:List (Str×V)) (r:Rx) (pl:List Nat) (HB:Hp) (kvs:List (List Au×V)) (L:Ml) (S:MS) (v:V) (wd:Str) (d:Dt) (ts:List Tr) (_:vs=[.ref L.m,.ref o]) (_:MAt K HB C kvs L H S) (_:H o=some (.lst ov)) (_:Al (ThAt K H) ov (("row",.int (k:Nat))::xs)) (_:S.rows[k]?=some r) (_:r.pl=A1 pl) (_:Cc kvs (Dn pl)=some v) (_:TrAt K H v (.mk wd d ts)) (_:Fl wd d) (_:pl.length<=2000) (_:r.ar.length<=9000) (_:S.wait.length<9000) (_:xs.length<=1000) (_:∀H',SameM L H H'->MAt K HB C kvs L H' (Hk S wd d pl 0 r.ar (if r.wd="rec" then ("row",.int (k:Nat))::xs else xs))->Q .non H')
def Zef (K:Pg)(C:Addr):Sp:=Ztk K C
theorem Zgi:A9 ["self","operands","row"] ["self","operands"] (A5 Md):=by walk_at "sc"
theorem Zmb (F:Fun K "call" "Machine.call" Md f fd)(T:Txt K mg)(O:Mc K C)(MW:C0 Aq P w K mg base 2 C "go_within" ["self","place","number","around","things"] (N5 K C)):FnOk P w K mg base Aq 3 f fd ["self","operands"] (Zef K C):=by
 refine F.okq Zgi (λvs H Q E h=>?_) (λam A outer s H vs Q E hr h=>?_)
 ·obtain⟨o,ov,k,xs,r,pl,HB,kvs,L,S,v,wd,d,ts,rfl,_⟩:=h;rfl
 ·obtain⟨o,ov,k,xs,r,pl,HB,kvs,L,S,v,wd,d,ts,rfl,M,ho,I,aa,ai,hv,ht,bk,Z,ac,ae,al,q⟩:=h;refine⟨_,Ad (Av 2 Zgi (Ah K (B5 K (qv 0)) (Ah K (Ah K (qv 1) Ac) Ac)))
   (Af (B2 (Db (k:=2) K Aq ["self","place","number","around","things"] (qv 0) hr.m Dj (Aa (Ah K (qv 2) Ac) (Aa Ac (Aa (Ah K (qv 2) Ac) (Aa (Nl (Az (Ba K hr.u200) (Ah K (qv 2) Ac) Am (Ax _)) (qv 1) (Ej (Ff K) (qv 1) (Dr Ac) (Ew))) Ab))))))),?_⟩
  have bg:=big;obtain⟨rv,er,ar,ao⟩:=M.rows;obtain⟨u,hu⟩:∃u,rv[k]?=some u:=⟨_,Pk (by rw[ar.1];exact(Pt.mp aa).1)⟩;obtain⟨r',af,xr⟩:=ar.get hu;rw[aa]at af;cases af;obtain⟨⟨a,p',o',e,ak,ev,rfl,qa,_,_,_,he,ag,_,an⟩,a2,p,o2,e2,ea,ah,hp⟩:=xr;cases ea;obtain⟨u0,U,rfl⟩:∃u0 U,ov=u0::U:=by
   have hl:=I.1
   match ov,hl with
   |u0::U,_=>exact⟨u0,U,rfl⟩
  obtain⟨_,ax,rfl,qx⟩:=I.2 0 u0 _ rfl rfl;have ad:H p=some (.tup (A4 pl)):=by rw[hp,ai,Ez]
  left;refine⟨_,rfl,L.m,C,L.dx,_,_,rfl,M.ins,O.cl,O.nr,Iy L S.steps,?_⟩;left;refine Bd (SqL.of ho) (Ck (j:=0) rfl) ?_;left;refine Aw qx rfl ?_;refine Bd (SqL.of er) (Ck hu) ?_;left;refine⟨_,rfl,L.m,C,L.dx,_,_,rfl,M.ins,(Iq L S.steps).1,MW,?_⟩;left;refine Aw ah rfl ?_;left;refine Aw qa rfl ?_;left;unfold Ir;left;refine Aw qa rfl ?_;left;rw[Bl];by_cases hw:r.wd="rec"
  ·rw[if_pos hw]at q;rw[decide_eq_true hw];left;exact⟨p,e,o,0,pl,ev,_,r.ar,_,HB,kvs,L,S,v,wd,d,ts,rfl,M,ad,he,ag,ho,I,hv,ht,bk,Z,ac,ae,λH2 e2 M2=>by left;exact q _ e2 M2⟩
  ·rw[if_neg hw]at q;rw[decide_eq_false hw];left;refine Jj (SqL.of ho) λl hl=>?_;have ec:B8 (V.ref ax::U) (some 1) none=U:=O8 _ 1;rw[ec];obtain⟨H2,Y,e2,z9⟩:=Cf hl (.lst U);rw[z9];have aj:Al (ThAt K H2) U xs:=⟨by have:=I.1;simpa using this,λj y x f1 f2=>ThAt.same Y.t _ _ (I.2 (j+1) y x (by simpa using f1) (by simpa using f2))⟩;exact⟨p,e,l,0,pl,ev,U,r.ar,xs,HB,kvs,L,S,v,wd,d,ts,rfl,M.new Y,Y _ _ ad,Y _ _ he,ag.mono (PrAt.same Y.t),e2,aj,hv,ht.same Y,bk,Z,ac,ae,λH3 e3 M3=>by left;exact q _ ((Y.m L).trans e3) M3⟩
theorem Zqs (xs:List V)(n:Nat)(h0:0<n)(h:n<=xs.length):B8 xs (some (-(n:Int))) none=xs.drop (xs.length-n)/\B8 xs none (some (-(n:Int)))=xs.take (xs.length-n):=by
 unfold B8;have e:∀d,HT.sIx xs.length d (some (-(n:Int)))=xs.length-n:=by
  intro d;show(if (-(n:Int))<0 then ((-(n:Int))+(xs.length:Int)).toNat else min (-(n:Int)).toNat xs.length)=_;rw[if_pos (by lia)];lia
 rw[e,e,HT.sIx_none,HT.sIx_none,Ui,List.drop_zero];refine⟨?_,rfl⟩;rw[Q9 (by rw[Rw];lia)]
inductive Zjz (K:Pg)(C:Addr)(vs:List V)(H:Hp)(Q:VK)(e9:XK):Prop
 |mk (n:Nat) (th last:List (Str×V)) (HB:Hp) (kvs:List (List Au×V)) (L:Ml) (S:MS) (_:vs=[.ref L.m,.int (n:Nat)]) (_:MAt K HB C kvs L H S) (_:0<n) (_:S.things=th++last) (_:last.length=n) (_:∀(l t:Addr)(lv:List V)(H':Hp),SameM L H H'->MAt K HB C kvs (L.with t) H' { S with things:=th }->H t=none->H' l=some (.lst lv)->Al (ThAt K H') lv last->H l=none->l≠t->Q (.ref l) H')
def Zdv (K:Pg)(C:Addr):Sp:=Zjz K C
theorem Zf5:A9 ["self","many","taken"] ["self","many"] (A5 Ku):=by walk_at "sc"
theorem Ztf (F:Fun K "taken_things" "Machine.taken_things" Ku f fd)(T:Txt K mg)(O:Mc K C):FnOk P w K mg base Aq 1 f fd ["self","many"] (Zdv K C):=by
 refine F.okq Zf5 (λvs H Q E h=>?_) (λad A outer s H vs Q E hr h=>?_)
 ·obtain⟨n,th,last,HB,kvs,L,S,rfl,_⟩:=h;rfl
 ·obtain⟨n,th,last,HB,kvs,L,S,rfl,M,n0,hS,aa,q⟩:=h;refine⟨_,Ad (Av 2 Zf5 (Ej (Ff K) (B5 K (qv 0)) (Dr (Fv F5 (qv 1))) (Ew)))
   (Ad (Jc K (qv 0) (Ej (Ff K) (B5 K (qv 0)) (Ew) (Dr (Fv F5 (qv 1)))))
   (Af (An (qv 2)))),?_⟩
  obtain⟨tv,et,I⟩:=M.things;have ae:tv.length=th.length+n:=by rw[I.1,hS,Pn,aa]
  obtain⟨c1,c2⟩:=Zqs tv n n0 (by lia);have e0:tv.length-n=th.length:=by lia
  rw[e0]at c1 c2;rw[hS]at I;left;refine⟨_,rfl,L.m,C,L.dx,_,_,rfl,M.ins,O.cl,O.nt,Gf L S.steps,?_⟩;left;refine Jj (SqL.of et) λl hl=>?_;rw[c1];obtain⟨H1,s1,e1,z9⟩:=Cf hl (.lst (tv.drop th.length));rw[z9];have M1:=M.new s1;left;refine⟨_,rfl,L.m,C,L.dx,_,_,rfl,M1.ins,O.cl,O.nt,Gf L S.steps,?_⟩;left;refine Jj (SqL.of (s1 _ _ et)) λt ht=>?_;rw[c2];obtain⟨H2,s2,e2,z9⟩:=Cf ht (.lst (tv.take th.length));rw[z9];have U:=s1.trans s2;have M2:=M.new U;have Z:l≠t:=λz=>by rw[<- z,e1]at ht;cases ht
  have Y:=s1.free ht;have a1:Al (ThAt K H2) (tv.take th.length) th:=⟨by rw[Qm];lia,λj v x f1 f2=>by
   have hj:j<th.length:=(Pt.mp f2).1;rw[List.getElem?_take_of_lt hj]at f1;exact ThAt.same U.t _ _ (I.2 j v x f1 (by rw[Qd hj];exact f2))⟩
  have a2:Al (ThAt K H2) (tv.drop th.length) last:=⟨by rw[Rw];lia,λj v x f1 f2=>by
   rw[List.getElem?_drop]at f1;exact ThAt.same U.t _ _ (I.2 (th.length+j) v x f1 (by rw[Qn (by lia),Nat.add_sub_cancel_left];exact f2))⟩
  obtain⟨M3,e3⟩:=M.swap U Y e2 a1;refine⟨_,rfl,L.m,C,L.dx,_,rfl,M2.ins,O.cl,O.nt,by show 5<1000;decide,?_⟩;rw[Zl9];have ac:l≠L.m:=λz=>by rw[z,M.ins]at hl;cases hl
  left;refine q l t _ _ e3 M3 Y ((Ag ac).trans (s2 _ _ e1)) (a2.mono (ThAt.same ?_)) hl Z;exact M2.t (SameM.upd (.inl rfl))
noncomputable def D3 (wd:Str)(i j:Int):Str×V:=if wd="plus" then ("num",.int (i+j)) else if wd="minus" then ("num",.int (i-j)) else ("truth",.bl (decide (i<j)))
inductive Zkm (K:Pg)(vs:List V)(H:Hp)(Q:VK)(e9:XK):Prop
 |mk (wd:Str) (i j:Int) (_:vs=[.str wd,.int i,.int j]) (_:∀v H',Same H H'->ThAt K H' v (D3 wd i j)->Q v H')
def Zfb (K:Pg):Sp:=Zkm K
theorem Zln:A9 ["word","left","right"] ["word","left","right"] (A5 Ky):=by walk_at "sc"
theorem Ztw (F:Fun K "reckoned" "reckoned" Ky f fd)(T:Txt K mg):FnOk P w K mg base Aq 1 f fd ["word","left","right"] (Zfb K):=by
 refine F.okq Zln (λvs H Q E h=>?_) (λO A outer s H vs Q E I h=>?_)
 ·obtain⟨wd,i,j,rfl,_⟩:=h;rfl
 ·obtain⟨wd,i,j,rfl,q⟩:=h;refine⟨_,Ad (Ay (Az (Ba K I.u200) (qv 0) Am (Ax _)) (Af (An (Ao (Aa Am (Aa (Ai (B6 K) (qv 1) (qv 2)) Ab))))) A2)
   (Ad (Ay (Az (Ba K I.u200) (qv 0) Am (Ax _)) (Af (An (Ao (Aa Am (Aa (Ai Eo (qv 1) (qv 2)) Ab))))) A2)
   (Af (An (Ao (Aa Am (Aa (D5 E6 (qv 1) (qv 2) (Ax _)) Ab)))))),?_⟩
  unfold D3 at q;left;rw[Bl];refine Be (λh=>?_) (λh=>?_)
  ·have h:wd="plus":=of_decide_eq_true h;rw[if_pos h]at q;left;refine⟨B1,λp hp=>?_⟩;exact q _ _ (Same.upd hp) ⟨rfl,p,rfl,SqT.of Ae⟩
  have h:¬wd="plus":=λx=>h (decide_eq_true x);rw[if_neg h]at q;left;rw[Bl];refine Be (λh=>?_) (λh=>?_)
  ·have h:wd="minus":=of_decide_eq_true h;rw[if_pos h]at q;left;refine⟨B1,λp hp=>?_⟩;exact q _ _ (Same.upd hp) ⟨rfl,p,rfl,SqT.of Ae⟩
  have h:¬wd="minus":=λx=>h (decide_eq_true x);rw[if_neg h]at q;left;refine⟨B1,λp hp=>?_⟩;exact q _ _ (Same.upd hp) ⟨rfl,p,rfl,SqT.of Ae⟩
noncomputable def Ek:V->Int
 |.int i=>i
 |_=>0
def Zbo (x:Str×V):Prop:=x.1="num" -> ∃i,x.2=.int i
noncomputable def Fd:List Str:=["plus","minus","less"]
noncomputable def Gc (S:MS)(wd:Str)(pl:List Nat)(th:List (Str×V))(x y:Str×V):MS :=
 if wd∈Fd/\x.1="num"/\y.1="num" then { S with things:=th++[D3 wd (Ek x.2) (Ek y.2)] }
 else { S with rows:=S.rows++[⟨wd,A1 pl,[x,y],[]⟩],things:=th++[(("row":Str),V.int (S.rows.length:Nat))] }
def FormsAt (K:Pg)(H:Hp)(kvs:List (List Au×V))(sub:List Nat->Option (Str×Dt)):Prop:=∀pl wd d,sub pl=some (wd,d)->pl.length<=2000/\∃v ts,Cc kvs (Dn pl)=some v/\TrAt K H v (.mk wd d ts)
theorem FormsAt.same (h:FormsAt K H kvs sub)(e:SameT H H'):FormsAt K H' kvs sub:=λpl wd d hs=>by
 obtain⟨h1,v,ts,h2,j⟩:=h pl wd d hs;exact⟨h1,v,ts,h2,j.sameT e⟩
inductive Hg (sub:List Nat->Option (Str×Dt))(wd:Str)(d:Dt)(pl:List Nat)(ar:List (Str×Str×V))(S:MS):MS->Prop where
 |two {th:List (Str×V)} {x y:Str×V} (h:wd∈Fd\/wd="call"/\Bs S.rows x=false) (hS:S.things=th++[x,y]) (ok:Kc S.rows x) (ox:Zbo x) (oy:Zbo y):Hg sub wd d pl ar S (Gc S wd pl th x y)
 |calls {th:List (Str×V)} {k:Nat} {y:Str×V} {r:Rx} {pl':List Nat} {wd':Str} {d':Dt} (h:wd="call") (hS:S.things=th++[(("row":Str),V.int (k:Nat)),y]) (hr:S.rows[k]?=some r) (hf:r.wd∈(["fn","rec"]:List Str)) (hp:r.pl=A1 pl') (hs:sub pl'=some (wd',d')) (bk:Fl wd' d') (ha:r.ar.length<=9000):Hg sub wd d pl ar S (Hk { S with things:=th } wd' d' pl' 0 r.ar (if r.wd="rec" then [(("row":Str),V.int (k:Nat)),y] else [y]))
 |ifs {th:List (Str×V)} {b:Bool} (h:wd="if") (hS:S.things=th++[(("truth":Str),V.bl b)]) (bk:Fl wd d):Hg sub wd d pl ar S (Hk { S with things:=th } wd d pl (if b then 1 else 2) ar [])
 |ifr {th:List (Str×V)} {x:Str×V} (h:wd="if") (hS:S.things=th++[x]) (hx:¬x.1="truth"):Hg sub wd d pl ar S { S with rows:=S.rows++[⟨wd,A1 pl,[x],ar⟩],things:=th++[(("row":Str),V.int (S.rows.length:Nat))] }
 |lets {th:List (Str×V)} {x:Str×V} (h:wd="let") (hS:S.things=th++[x]) (bk:Fl wd d):Hg sub wd d pl ar S (Hk { S with things:=th } wd d pl 1 ar [x])
inductive Zn7 (K:Pg)(C:Addr)(vs:List V)(H:Hp)(Q:VK)(e9:XK):Prop
 |mk (p e:Addr) (pl:List Nat) (ev:List V) (ar:List (Str×Str×V)) (HB:Hp) (kvs:List (List Au×V)) (L:Ml) (S S2:MS) (v:V) (wd:Str) (d:Dt) (ts:List Tr) (_:vs=[.ref L.m,.ref p,.ref e]) (_:MAt K HB C kvs L H S) (_:H p=some (.tup (A4 pl))) (_:H e=some (.lst ev)) (_:Al (PrAt K H) ev ar) (_:¬L.A e) (_:Cc kvs (Dn pl)=some v) (_:TrAt K H v (.mk wd d ts)) (_:∃sub:List Nat->Option (Str×Dt),FormsAt K H kvs sub/\Hg sub wd d pl ar S S2/\S.rows.length<9000/\S.things.length<9000/\S.wait.length<9000/\pl.length<=2000/\ar.length<=9000/\∀H' t,SameM L H H'->MAt K HB C kvs (L.with t) H' S2->H t=none->Q .non H')
def Zht (K:Pg)(C:Addr):Sp:=Zn7 K C
theorem Pc:A9 ["self","place","around","word","operands"] ["self","place","around"] (A5 Lw):=by walk_at "sc"
theorem Zm0 (F:Fun K "go_further" "Machine.go_further" Lw f fd)(T:Txt K mg)(O:Mc K C)(G_PARTS_AWAITED:Eu mg "PARTS_AWAITED" (.ref ap))(hpa:Gq P w K ap pk)(hpk:∀wd,(Dk pk wd).isSome=(Bh wd).isSome/\∀ns,Bh wd=some ns->∃b,Dk pk wd=some (.ref b)/\∀H,SqT K H b (ns.map V.int))(MT:C0 Aq P w K mg base 1 C "taken_things" ["self","many"] (Zdv K C))(MR:C0 Aq P w K mg base 1 C "new_row" ["self","word","place","operands","around"] (Ke K C))(MW:C0 Aq P w K mg base 2 C "go_within" ["self","place","number","around","things"] (N5 K C))(MC:C0 Aq P w K mg base 3 C "call" ["self","operands"] (Zef K C))(MI:C0 Aq P w K mg base 2 C "is_function" ["self","thing"] (Zh9 K C))(C_are_numbers:A8 P w K mg base 1 "are_numbers" ["things"] (Zej K))(C_reckoned:A8 P w K mg base 1 "reckoned" ["word","left","right"] (Zfb K)):FnOk P w K mg base Aq 4 f fd ["self","place","around"] (Zht K C):=by
 refine F.okq Pc (λvs H Q E h=>?_) (λbx A outer s H vs Q E hr h=>?_)
 ·obtain⟨p,e,pl,ev,ar,HB,kvs,L,S,S2,v,wd,d,ts,rfl,_⟩:=h;rfl
 ·obtain⟨p,e,pl,ev,ar,HB,kvs,L,S,S2,v,wd,d,ts,rfl,M,hp,he,al,nA,hv,ht,sub,FA,bh,z1,z3,z2,a5,a4,q⟩:=h;refine⟨_,Ad (Av 3 Pc (Ah K (Kg hr.u1 (B5 K (qv 0)) (qv 1) (λ_ _=>rfl)) Ac))
   (Ad (Av 4 Pc (Db (k:=1) K Aq ["self","many"] (qv 0) hr.m Dj (Aa (A6 (B7 K) (by rfl) T.len (by right) (Aa (Jz (Zag P w K) (Ge G_PARTS_AWAITED) (qv 3) (λ_ _=>rfl)) Ab)) Ab)))
   (Af (Ay (Az (Ba K hr.u200) (qv 3) Am (Ax _)) (Af (B2 (Db (k:=2) K Aq ["self","place","number","around","things"] (qv 0) hr.m Dj (Aa (qv 1) (Aa Ac (Aa (qv 2) (Aa (qv 4) Ab))))))) (Af (Ay (QW.qt (Ef (Az (Ba K hr.u200) (qv 3) Am (Ax _)) (D7 (Az (Ba K hr.u200) (Ah K (Ah K (qv 4) Ac) Ac) Am (Ax _))))) (Af (B2 (Db (k:=2) K Aq ["self","place","number","around","things"] (qv 0) hr.m Dj (Aa (qv 1) (Aa (Nl (Bp (Ah K (Ah K (qv 4) Ac) Ac)) Ac Ac) (Aa (qv 2) (Aa (Bq Ab) Ab))))))) (Af (Ay (QW.qt (Ef (Az (Ba K hr.u200) (qv 3) Am (Ax _)) (D7 (Bp (Db (k:=2) K Aq ["self","thing"] (qv 0) hr.m Dj (Aa (Ah K (qv 4) Ac) Ab)))))) (Af (B2 (Db (k:=3) K Aq ["self","operands"] (qv 0) hr.m Dj (Aa (qv 4) Ab)))) (Af (Ay (QW.qt (Ef (Az (Ll K) (qv 3) (Ao (Aa Am (Aa Am (Aa Am Ab)))) (by rfl)) (D7 (Bp (A3 C_are_numbers hr.m (Aa (qv 4) Ab)))))) (Af (B2 (Cv K P5 Qe Qf C7 (B5 K (qv 0)) (Aa (A3 C_reckoned hr.m (Aa (qv 3) (Aa (Ah K (Ah K (qv 4) Ac) Ac) (Aa (Ah K (Ah K (qv 4) Ac) Ac) Ab)))) Ab)))) (Af (B2 (Cv K P5 Qe Qf C7 (B5 K (qv 0)) (Aa (Db (k:=1) K Aq ["self","word","place","operands","around"] (qv 0) hr.m Dj (Aa (qv 3) (Aa (qv 1) (Aa (qv 4) (Aa (qv 2) Ab))))) Ab))))))))))))),?_⟩
  have bg:=big;have bf:=ht;cases ht with
  | @mk b pp _ nv _ vs _ qb hn bw hl b3 =>
  left;refine⟨_,rfl,L.m,C,L.dx,_,_,rfl,M.ins,O.cl,O.nf,Nj L S.steps,_,rfl,L.fd,.ref b,rfl,?_,?_⟩
  ·rw[<- hv];refine DGet.t M.frm ?_;rw[J8];exact hp
  left;refine Aw qb rfl ?_;left;refine⟨_,rfl,L.m,C,L.dx,_,_,rfl,M.ins,(De L S.steps).2.2.2.2.2.1,MT,?_⟩;cases bh with
  | @lets th x br hS bk =>
   subst br;obtain⟨bt,ad,ac⟩:=(hpk "let").2 [0] (by right);left;refine⟨ap,pk,"let",.ref bt,rfl,rfl,hpa,ad,?_⟩;left;refine Dv (ac _) ?_;left;refine⟨1,th,[x],HB,kvs,L,S,rfl,M,by decide,hS,rfl,λo t ov H1 e1 M1 Y ho U aa aj=>?_⟩;have t1:=M.t e1;left;rw[decide_eq_true (Eq.refl _)];refine iteT ?_;left;refine⟨_,rfl,L.m,C,L.dx,_,_,rfl,M1.ins,(Iq (L.with t) S.steps).1,MW,?_⟩;left;refine⟨p,e,o,1,pl,ev,ov,ar,[x],HB,kvs,L.with t,_,.ref b,"let",d,ts,rfl,M1,(t1 p).1 _ hp,(M.a e1).2 _ _ nA he,al.mono (PrAt.same t1),ho,U,hv,bf.sameT t1,bk,a5,a4,z2,λH2 e2 M2=>?_⟩;left;exact q _ t (e1.trans' (L':=L.with t) e2 rfl rfl rfl (.inr Y)) M2 Y
  | @ifs th b2 a0 hS bk =>
   subst a0;obtain⟨bt,ad,ac⟩:=(hpk "if").2 [0] (by right);left;refine⟨ap,pk,"if",.ref bt,rfl,rfl,hpa,ad,?_⟩;left;refine Dv (ac _) ?_;left;refine⟨1,th,[("truth",.bl b2)],HB,kvs,L,S,rfl,M,by decide,hS,rfl,λo t ov H1 e1 M1 Y ho U aa aj=>?_⟩;have t1:=M.t e1;obtain⟨u1,us,rfl⟩:∃u1 us,ov=u1::us:=by
    have hl:=U.1
    match ov,hl with
    |u1::us,_=>exact⟨u1,us,rfl⟩
   obtain⟨_,ax,rfl,qx⟩:=U.2 0 u1 _ rfl rfl;left;rw[Bl,decide_eq_false (by right)];left;rw[Bl,decide_eq_true (Eq.refl _)];left;refine Bd (SqL.of ho) (Ck (j:=0) rfl) ?_;left;refine Aw qx rfl ?_;left;rw[Bl,decide_eq_true (Eq.refl _)];left;refine⟨_,rfl,L.m,C,L.dx,_,_,rfl,M1.ins,(Iq (L.with t) S.steps).1,MW,?_⟩;left;unfold Ir;left;refine Bd (SqL.of ho) (Ck (j:=0) rfl) ?_;left;refine Aw qx rfl ?_;have a3:∀l H2,H1 l=none->H2=upd H1 l (.lst [])->N5 K C [.ref L.m,.ref p,.int ((if b2 then 1 else 2:Nat):Nat),.ref e,.ref l] H2 (λv H'=>Q .non H') E0:=by
    intro l H2 hl bb;have s2:Same H1 H2:=by rw[bb];exact Same.upd hl
    have e2:H2 l=some (.lst []):=by rw[bb];exact Ae
    refine⟨p,e,l,(if b2 then 1 else 2),pl,ev,[],ar,[],HB,kvs,L.with t,_,.ref b,"if",d,ts,rfl,M1.new s2,s2 _ _ ((t1 p).1 _ hp),s2 _ _ ((M.a e1).2 _ _ nA he),(al.mono (PrAt.same t1)).mono (PrAt.same s2.t),e2,.nil,hv,(bf.sameT t1).same s2,bk,a5,a4,z2,λH3 e3 M3=>?_⟩;exact q _ t (e1.trans' (L':=L.with t) ((s2.m _).trans e3) rfl rfl rfl (.inr Y)) M3 Y
   refine⟨b2,rfl,?_⟩;cases b2 with
   |true =>
    rw[if_pos rfl];left;refine⟨Bm,λl hl=>?_⟩;exact a3 l _ hl rfl
   |false =>
    rw[if_neg Pu];left;refine⟨Bm,λl hl=>?_⟩;exact a3 l _ hl rfl
  | @ifr th x a0 hS bq =>
   subst a0;obtain⟨bt,ad,ac⟩:=(hpk "if").2 [0] (by right);left;refine⟨ap,pk,"if",.ref bt,rfl,rfl,hpa,ad,?_⟩;left;refine Dv (ac _) ?_;left;refine⟨1,th,[x],HB,kvs,L,S,rfl,M,by decide,hS,rfl,λo t ov H1 e1 M1 Y ho U aa aj=>?_⟩;have t1:=M.t e1;have am:=(t1 p).1 _ hp;have an:=(M.a e1).2 _ _ nA he;have ag:Al (PrAt K H1) ev ar:=al.mono (PrAt.same t1);obtain⟨u1,us,rfl⟩:∃u1 us,ov=u1::us:=by
    have hl:=U.1
    match ov,hl with
    |u1::us,_=>exact⟨u1,us,rfl⟩
   obtain⟨_,ax,rfl,qx⟩:=U.2 0 u1 _ rfl rfl;left;rw[Bl,decide_eq_false (by right)];left;rw[Bl,decide_eq_true (Eq.refl _)];left;refine Bd (SqL.of ho) (Ck (j:=0) rfl) ?_;left;refine Aw qx rfl ?_;left;rw[Bl,decide_eq_false bq];left;rw[Bl,decide_eq_false (by right)];left;refine⟨Bg,λp2 h2=>?_⟩;refine Hd (.inr (SqT.of Ae)) rfl rfl ?_;have s3:Same H1 (upd H1 p2 (.tup [.str "plus",.str "minus",.str "less"])):=Same.upd h2;rw[if_neg Pu,show E8 (.str "if") [.str "plus",.str "minus",.str "less"]=decide (("if":Str)∈(["plus","minus","less"]:List Str)) from Ju (ws:=["plus","minus","less"]),decide_eq_false (by right)];revert s3;generalize upd H1 p2 (.tup [.str "plus",.str "minus",.str "less"])=H3;intro I;have M3:=M1.new I;obtain⟨tv,et,ah⟩:=M3.things;have a6:tv.length=th.length:=ah.1;have as:th.length+1=S.things.length:=by rw[hS,Pn];rfl
   have af:=I _ _ ho;refine⟨false,rfl,?_⟩;refine iteF ?_;left;refine⟨_,rfl,L.m,C,L.dx,_,_,rfl,M3.ins,O.cl,O.nt,Gf (L.with t) S.steps,?_⟩;refine Ce (SqL.of et) ?_;left;refine⟨_,rfl,L.m,C,L.dx,_,_,rfl,M3.ins,(De (L.with t) S.steps).2.1,MR,?_⟩;left;refine⟨"if",p,o,e,pl,_,ev,[x],ar,HB,kvs,L.with t,_,rfl,M3,I _ _ am,SqL.of af,U.mono (ThAt.same I.t),SqL.of (I _ _ an),ag.mono (PrAt.same I.t),by show S.rows.length<10000;lia,λv4 H4 e4 M4 t4=>?_⟩;rw[if_pos (by right)]at M4;obtain⟨ak,ai,ae⟩:=M4.things;have aq:ak.length=th.length:=ae.1;left;refine C6 ai (by lia) ?_;have M5:=M4.setThings (ae.snoc t4);left;refine q _ t (e1.trans' (L':=L.with t) ((I.m _).trans (e4.trans (SameM.upd (.inr (.inr (.inr rfl)))))) rfl rfl rfl (.inr Y)) M5 Y
  | @calls th k y r a7 a8 d' bo hS aw hf be hs bk a9 =>
   subst bo;obtain⟨bt,ad,ac⟩:=(hpk "call").2 [1,0] (by right);left;refine⟨ap,pk,"call",.ref bt,rfl,rfl,hpa,ad,?_⟩;left;refine Dv (ac _) ?_;left;refine⟨2,th,[("row",.int (k:Nat)),y],HB,kvs,L,S,rfl,M,by decide,hS,rfl,λo t ov H1 e1 M1 Y ho U aa aj=>?_⟩;have t1:=M.t e1;have au:Bs S.rows ("row",.int (k:Nat))=true:=by
    show(decide (("row":Str)="row") && (match S.rows[((k:Nat):Int).toNat]? with|some r=>decide (r.wd∈(["fn","rec"]:List Str))|none=>false))=true;rw[Q3,aw];simp only[decide_eq_true hf,decide_true,Bool.and_self]
   have bn:Kc S.rows ("row",.int (k:Nat)):=λ_=>⟨k,rfl,(Pt.mp aw).1⟩;obtain⟨u1,us,rfl⟩:∃u1 us,ov=u1::us:=by
    have hl:=U.1
    match ov,hl with
    |u1::us,_=>exact⟨u1,us,rfl⟩
   have bp:=U.2 0 u1 _ rfl rfl;left;rw[Bl,decide_eq_false (by right)];left;rw[Bl,decide_eq_false (by right)];left;rw[Bl,decide_eq_true (Eq.refl _)];left;refine⟨_,rfl,L.m,C,L.dx,_,_,rfl,M1.ins,(Iq (L.with t) S.steps).2.1,MI,?_⟩;left;refine Bd (SqL.of ho) (Ck (j:=0) rfl) ?_;left;refine⟨_,("row",.int (k:Nat)),HB,kvs,L.with t,_,rfl,M1,bp,bn,λH2 s2=>?_⟩;rw[show Bs ({ S with things:=th }:MS).rows ("row",.int (k:Nat))=true from au];refine⟨true,rfl,?_⟩;refine iteT ?_;left;have M2:=M1.new s2;obtain⟨ba,v',bj,bi,bv⟩:=(FA.same t1).same s2.t a7 a8 d' hs;refine⟨_,rfl,L.m,C,L.dx,_,_,rfl,M2.ins,(Iq (L.with t) S.steps).2.2,MC,?_⟩;left;refine⟨o,_,k,[y],r,a7,HB,kvs,L.with t,_,v',a8,d',bj,rfl,M2,s2 _ _ ho,U.mono (ThAt.same s2.t),aw,be,bi,bv,bk,ba,a9,z2,by show 1<=1000;decide,λH3 e3 M3=>?_⟩;left;exact q _ t (e1.trans' (L':=L.with t) ((s2.m _).trans e3) rfl rfl rfl (.inr Y)) M3 Y
  | @two th x y av hS ok ox oy =>
  have bu:Bh wd=some [1,0]/\¬wd="let"/\¬wd="if"/\¬wd∈WA:=by
   rcases av with h|⟨rfl,_⟩
   ·unfold Fd at h;simp only[Po,Px,or_false]at h;rcases h with rfl|rfl|rfl <;> exact⟨by right,by right,by right,by right⟩
   ·exact⟨by right,by right,by right,by right⟩
  obtain⟨pw,w1,w2,w4⟩:=bu;obtain⟨bt,ad,ac⟩:=(hpk wd).2 _ pw;left;refine⟨ap,pk,wd,.ref bt,rfl,rfl,hpa,ad,?_⟩;left;refine Dv (ac _) ?_;left;refine⟨2,th,[x,y],HB,kvs,L,S,rfl,M,by decide,hS,rfl,λo t ov H1 e1 M1 Y ho U aa aj=>?_⟩;have t1:=M.t e1;have am:=(t1 p).1 _ hp;have an:=(M.a e1).2 _ _ nA he;have ag:Al (PrAt K H1) ev ar:=al.mono (PrAt.same t1);have b0:¬(L.with t).A o:=by
   obtain⟨rv,er,_⟩:=M.rows;obtain⟨wv,ew,_⟩:=M.wait;rintro(z|z|z)
   ·rw[z]at aa;rw[show(L.with t).rd=L.rd from rfl,er]at aa;cases aa
   ·rw[z]at aa;rw[show(L.with t).wd=L.wd from rfl,ew]at aa;cases aa
   ·exact aj z
  have hx:∃ax ay,ov=[.ref ax,.ref ay]/\SqT K H1 ax [.str x.1,x.2]/\SqT K H1 ay [.str y.1,y.2]:=by
   have hl:=U.1;obtain⟨u1,u2,rfl⟩:=lz2 (vs:=ov) hl;obtain⟨_,ax,e3,q3⟩:=U.2 0 u1 x rfl rfl;obtain⟨_,ay,e4,q4⟩:=U.2 1 u2 y rfl rfl;exact⟨ax,ay,by rw[e3,e4],q3,q4⟩
  obtain⟨ax,ay,rfl,qx,qy⟩:=hx;left;rw[Bl,decide_eq_false w1];left;rw[Bl,decide_eq_false w2];left;rw[Bl];by_cases w3:wd="call"
  ·have au:Bs S.rows x=false:=by
    rcases av with h|h
    ·rw[w3]at h;exact absurd h (by right)
    ·exact h.2
   rw[decide_eq_true w3];left;refine⟨_,rfl,L.m,C,L.dx,_,_,rfl,M1.ins,(Iq (L.with t) S.steps).2.1,MI,?_⟩;left;refine Bd (SqL.of ho) rfl ?_;left;refine⟨_,x,HB,kvs,L.with t,_,rfl,M1,⟨(U.2 0 _ x rfl rfl).1,ax,rfl,qx⟩,ok,λH2 s2=>?_⟩;rw[show Bs ({ S with things:=th }:MS).rows x=false from au];refine⟨false,rfl,?_⟩;refine iteF ?_;left;refine⟨Bg,λp2 h2=>?_⟩;refine Hd (.inr (SqT.of Ae)) rfl rfl ?_;have s3:Same H2 (upd H2 p2 (.tup [.str "plus",.str "minus",.str "less"])):=Same.upd h2;rw[if_neg Pu,show E8 (.str wd) [.str "plus",.str "minus",.str "less"]=decide (wd∈(["plus","minus","less"]:List Str)) from Ju (ws:=["plus","minus","less"]),decide_eq_false (by rw[w3];right)];revert s3;generalize upd H2 p2 (.tup [.str "plus",.str "minus",.str "less"])=H3;intro s3;have I:=s2.trans s3;have M3:=M1.new I;obtain⟨tv,et,ah⟩:=M3.things;have a6:tv.length=th.length:=ah.1;have as:th.length+2=S.things.length:=by rw[hS,Pn];rfl
   have af:=I _ _ ho;have ef:Gc S wd pl th x y={ S with rows:=S.rows++[⟨wd,A1 pl,[x,y],[]⟩],things:=th++[(("row":Str),V.int (S.rows.length:Nat))] }:=by
    unfold Gc;rw[if_neg λh=>absurd h.1 (by rw[w3];right)]
   rw[ef]at q;refine⟨false,rfl,?_⟩;refine iteF ?_;left;refine⟨_,rfl,L.m,C,L.dx,_,_,rfl,M3.ins,O.cl,O.nt,Gf (L.with t) S.steps,?_⟩;refine Ce (SqL.of et) ?_;left;refine⟨_,rfl,L.m,C,L.dx,_,_,rfl,M3.ins,(De (L.with t) S.steps).2.1,MR,?_⟩;left;refine⟨wd,p,o,e,pl,_,ev,[x,y],ar,HB,kvs,L.with t,_,rfl,M3,I _ _ am,SqL.of af,U.mono (ThAt.same I.t),SqL.of (I _ _ an),ag.mono (PrAt.same I.t),by show S.rows.length<10000;lia,λv4 H4 e4 M4 t4=>?_⟩;rw[if_neg w4]at M4;obtain⟨ak,ai,ae⟩:=M4.things;have aq:ak.length=th.length:=ae.1;left;refine C6 ai (by lia) ?_;have M5:=M4.setThings (ae.snoc t4);left;refine q _ t (e1.trans' (L':=L.with t) ((I.m _).trans (e4.trans (SameM.upd (.inr (.inr (.inr rfl)))))) rfl rfl rfl (.inr Y)) M5 Y
  have ao:wd∈(["plus","minus","less"]:List Str):=by
   rcases av with h|h
   ·exact h
   ·exact absurd h.1 w3
  rw[decide_eq_false w3];left;refine⟨Bg,λp2 h2=>?_⟩;refine Hd (.inr (SqT.of Ae)) rfl rfl ?_;have s2:Same H1 (upd H1 p2 (.tup [.str "plus",.str "minus",.str "less"])):=Same.upd h2;rw[if_neg Pu,show E8 (.str wd) [.str "plus",.str "minus",.str "less"]=decide (wd∈(["plus","minus","less"]:List Str)) from Ju (ws:=["plus","minus","less"]),decide_eq_true ao];revert s2;generalize upd H1 p2 (.tup [.str "plus",.str "minus",.str "less"])=H2;intro s2;left;refine⟨o,_,[x,y],rfl,s2 _ _ ho,U.mono (ThAt.same s2.t),by show 2<=1000;decide,λH3 s3=>?_⟩;have I:=s2.trans s3;have M3:=M1.new I;obtain⟨tv,et,ah⟩:=M3.things;have a6:tv.length=th.length:=ah.1;have as:th.length+2=S.things.length:=by rw[hS,Pn];rfl
  have af:=I _ _ ho;by_cases Z:x.1="num"/\y.1="num"
  ·have en:Jt [x,y]=true:=by
    unfold Jt;rw[Ro,Ro,List.all_nil,decide_eq_true Z.1,decide_eq_true Z.2];rfl
   rw[en];obtain⟨i,ei⟩:=ox Z.1;obtain⟨j,ej⟩:=oy Z.2;rw[ei]at qx;rw[ej]at qy;have ef:Gc S wd pl th x y={ S with things:=th++[D3 wd i j] }:=by
    unfold Gc;rw[if_pos ⟨ao,Z⟩,ei,ej];rfl
   rw[ef]at q;refine⟨true,rfl,?_⟩;refine iteT ?_;left;refine⟨_,rfl,L.m,C,L.dx,_,_,rfl,M3.ins,O.cl,O.nt,Gf (L.with t) S.steps,?_⟩;refine Ce (SqL.of et) ?_;left;refine Bd (SqL.of af) rfl ?_;left;refine Aw (I.tup qx) rfl ?_;left;refine Bd (SqL.of af) rfl ?_;left;refine Aw (I.tup qy) rfl ?_;left;refine⟨wd,i,j,rfl,λv4 H4 s4 t4=>?_⟩;have M4:=M3.new s4;left;refine C6 (s4 _ _ et) (by lia) ?_;have M5:=M4.setThings ((ah.mono (ThAt.same s4.t)).snoc t4);left;refine q _ t (e1.trans' (L':=L.with t) (((I.trans s4).m _).trans (SameM.upd (.inr (.inr (.inr rfl))))) rfl rfl rfl (.inr Y)) M5 Y
  ·have en:Jt [x,y]=false:=by
    unfold Jt;rw[Ro,Ro,List.all_nil,Bool.and_true,<- Bool.not_eq_true,Ry,decide_eq_true_iff,decide_eq_true_iff];exact Z
   rw[en];have ef:Gc S wd pl th x y={ S with rows:=S.rows++[⟨wd,A1 pl,[x,y],[]⟩],things:=th++[(("row":Str),V.int (S.rows.length:Nat))] }:=by
    unfold Gc;rw[if_neg λh=>Z h.2]
   rw[ef]at q;refine⟨false,rfl,?_⟩;refine iteF ?_;left;refine⟨_,rfl,L.m,C,L.dx,_,_,rfl,M3.ins,O.cl,O.nt,Gf (L.with t) S.steps,?_⟩;refine Ce (SqL.of et) ?_;left;refine⟨_,rfl,L.m,C,L.dx,_,_,rfl,M3.ins,(De (L.with t) S.steps).2.1,MR,?_⟩;left;refine⟨wd,p,o,e,pl,_,ev,[x,y],ar,HB,kvs,L.with t,_,rfl,M3,I _ _ am,SqL.of af,U.mono (ThAt.same I.t),SqL.of (I _ _ an),ag.mono (PrAt.same I.t),by show S.rows.length<10000;lia,λv4 H4 e4 M4 t4=>?_⟩;rw[if_neg w4]at M4;obtain⟨ak,ai,ae⟩:=M4.things;have aq:ak.length=th.length:=ae.1;left;refine C6 ai (by lia) ?_;have M5:=M4.setThings (ae.snoc t4);left;refine q _ t (e1.trans' (L':=L.with t) ((I.m _).trans (e4.trans (SameM.upd (.inr (.inr (.inr rfl)))))) rfl rfl rfl (.inr Y)) M5 Y
theorem Zjd (F:FnOk P w K mg base Aq k f fd ps sp):FnOk P w K mg base CX k f fd ps sp:=⟨F.len,λA outer s H j O vs Q E U Y I Z hs=>Te (F.run A outer s H j O vs Q E U Y I Z hs) λr s' h=>by
 cases r with
 |ok f=>cases f <;> exact h
 |error e=>exact Ql h⟩
theorem Zrc (F1:FnOk P w K mg base CX k f fd ps sp1)(F2:FnOk P w K mg base CX k f fd ps sp2):FnOk P w K mg base CX k f fd ps (λvs H Q E=>sp1 vs H Q E\/sp2 vs H Q E) :=
 ⟨λvs H Q E h=>h.elim (F1.len vs H Q E) (F2.len vs H Q E),λA outer s H j I vs Q E O U F Y hs=>hs.elim (F1.run A outer s H j I vs Q E O U F Y) (F2.run A outer s H j I vs Q E O U F Y)⟩
inductive Zkh (K:Pg)(C TL:Addr)(vs:List V)(H:Hp)(e9:VK)(E:XK):Prop
 |mk (n:Int) (HB:Hp) (kvs:List (List Au×V)) (L:Ml) (S:MS) (_:vs=[.ref L.m,.int n]) (_:MAt K HB C kvs L H S) (_:500<S.steps+n) (_:∀H',SameM L H H'->E (.ref TL) none H')
def Zet (K:Pg)(C TL:Addr):Sp:=Zkh K C TL
theorem Znj (F:Fun K "make_steps" "Machine.make_steps" Jg f fd)(T:Txt K mg)(O:Mc K C)(G_MOST_STEPS:Eu mg "MOST_STEPS" (.int 500))(R_TooLong:Oc K N_TooLong)(G_TooLong:mg "TooLong"=some (.ref N_TooLong)):FnOk P w K mg base (Bo P w) 1 f fd ["self","many"] (Zet K C N_TooLong):=by
 refine F.okx Zf4 (λvs H Q E h=>?_) (λaa A outer s H vs Q E hr h=>?_)
 ·obtain⟨n,HB,kvs,L,S,rfl,_⟩:=h;rfl
 ·obtain⟨n,HB,kvs,L,S,rfl,M,Y,q⟩:=h;refine⟨_,Ad (Zeu K (qv 0) (qv 1) Zhl)
   (Af (Ay (Az Ig (B5 K (qv 0)) (Ge G_MOST_STEPS) (Ax _)) (Af (Zof rfl R_TooLong G_TooLong (Aa Am Ab) (λ_ _ _ _ _ _ _ I x Z Y he=>Znk I x Z Y he) rfl)) A2)),?_⟩
  left;refine⟨_,rfl,L.m,C,L.dx,_,_,rfl,M.ins,O.cl,O.ns,Ik L S.steps,_,rfl,?_⟩;refine⟨_,_,rfl,rfl,L.dx,_,M.ins,by show 5<1000;decide,?_⟩;rw[Zgu];have U:=M.setSteps (S.steps+n);have j:SameM L H (upd H L.m (.ins C L.dx (L.fs (S.steps+n)))):=SameM.upd (.inl rfl);revert U j;generalize upd H L.m (.ins C L.dx (L.fs (S.steps+n)))=H1;intro U j;left;refine⟨_,rfl,L.m,C,L.dx,_,_,rfl,U.ins,O.cl,O.ns,Ik L (S.steps+n),?_⟩;left;rw[decide_eq_true (by lia)];left;exact⟨C9,q _ j⟩
noncomputable def Cj (S:MS)(wd:Str)(nv:V)(pl:List Nat)(ar:List (Str×Str×V)):(Str×V)×MS :=
 if wd∈(["num","truth"]:List Str) then ((wd,nv),S)
 else match (match nv with|.str z=>if wd="name" then C1 ar z else none|_=>none) with
  |some th=>(th,S)
  |none=>(("row",.int (S.rows.length:Nat)),{ S with rows:=S.rows++[⟨wd,A1 pl,[],if wd∈WA then ar else []⟩] })
inductive Zoj (K:Pg)(C:Addr)(vs:List V)(H:Hp)(Q:VK)(e9:XK):Prop
 |mk (wd:Str) (nv:V) (p e:Addr) (pl:List Nat) (ev:List V) (ar:List (Str×Str×V)) (HB:Hp) (kvs:List (List Au×V)) (L:Ml) (S:MS) (_:vs=[.ref L.m,.str wd,nv,.ref p,.ref e]) (_:MAt K HB C kvs L H S) (_:H p=some (.tup (A4 pl))) (_:SqL K H e ev) (_:Al (PrAt K H) ev ar) (_:S.rows.length<10000) (_:(wd∈(["num","truth"]:List Str)->C2 nv=true)) (_:(wd="name" -> ∃z,nv=.str z)) (_:∀v H',SameM L H H'->MAt K HB C kvs L H' (Cj S wd nv pl ar).2->ThAt K H' v (Cj S wd nv pl ar).1->Q v H')
def Zak (K:Pg)(C:Addr):Sp:=Zoj K C
theorem Zev:A9 ["self","word","note","place","around","bound"] ["self","word","note","place","around"] (A5 Kb):=by walk_at "sc"
theorem Zk5 (F:Fun K "thing_of_leaf" "Machine.thing_of_leaf" Kb f fd)(T:Txt K mg)(O:Mc K C)(MR:C0 Aq P w K mg base 1 C "new_row" ["self","word","place","operands","around"] (Ke K C)):FnOk P w K mg base Aq 2 f fd ["self","word","note","place","around"] (Zak K C):=by
 refine F.okq Zev (λvs H Q E h=>?_) (λae A outer s H vs Q E Y h=>?_)
 ·obtain⟨wd,nv,p,e,pl,ev,ar,HB,kvs,L,S,rfl,_⟩:=h;rfl
 ·obtain⟨wd,nv,p,e,pl,ev,ar,HB,kvs,L,S,rfl,M,hp,he,aa,hz,hf,ac,q⟩:=h;refine⟨_,Ad (Ay (Az (Ll K) (qv 1) (Ao (Aa Am (Aa Am Ab))) (by rfl)) (Af (An (Ao (Aa (qv 1) (Aa (qv 2) Ab))))) A2)
   (Ad (Av 5 Zev (D4 (Zfd K Y.u200 rfl) (by rfl) T.dict (by right) (Aa (qv 4) Ab)))
   (Ad (Ay (QW.qt (Ef (Az (Ba K Y.u200) (qv 1) Am (Ax _)) (D7 (L0 (Zrp Y.u1 (qv 2) (qv 5)))))) (Af (An (Kg Y.u1 (qv 5) (qv 2) (λ_ _=>rfl)))) A2)
   (Af (An (Db (k:=1) K Aq ["self","word","place","operands","around"] (qv 0) Y.m Dj (Aa (qv 1) (Aa (qv 3) (Aa (Bq Ab) (Aa (qv 4) Ab))))))))),?_⟩
  have bg:=big;unfold Cj at q;left;refine⟨B1,λp1 h1=>?_⟩;refine Hd (.inr (SqT.of Ae)) rfl rfl ?_;have I:Same H (upd H p1 (.tup [.str "num",.str "truth"])):=Same.upd h1;rw[if_neg Pu,show E8 (.str wd) [.str "num",.str "truth"]=decide (wd∈(["num","truth"]:List Str)) from Ju (ws:=["num","truth"])];revert I;generalize upd H p1 (.tup [.str "num",.str "truth"])=H1;intro I;left;refine Be (λh=>?_) (λh=>?_)
  ·have h:wd∈(["num","truth"]:List Str):=of_decide_eq_true h;rw[if_pos h]at q;left;refine⟨B1,λp2 h2=>?_⟩;have Z:=I.put (o:=.tup [.str wd,nv]) h2;exact q _ _ (Z.m L) (M.new Z) ⟨hf h,p2,rfl,SqT.of Ae⟩
  have h:¬wd∈(["num","truth"]:List Str):=λx=>h (decide_eq_true x);rw[if_neg h]at q;left;obtain⟨bk,ad,look⟩:=Zs4 (K:=K) (H:=H1) ev ar (aa.mono (PrAt.same I.t));refine⟨e,ev,rfl,I.seq he,.inl ⟨bk,ad,λd hd=>?_⟩⟩;obtain⟨H2,Z,e2,z9⟩:=Cf hd (.dK (Ca [] bk));rw[z9];have j:=I.trans Z;have M2:=M.new j;have row:(match nv with|.str z=>if wd="name" then C1 ar z else none|_=>none)=none->∀l,H2 l=none->Ke K C [.ref L.m,.str wd,.ref p,.ref l,.ref e] (upd H2 l (.lst [])) Q E0:=by
   intro hn l U;rw[hn]at q;have s3:=j.put (o:=.lst []) U;refine⟨wd,p,l,e,pl,[],ev,[],ar,HB,kvs,L,S,rfl,M.new s3,s3 _ _ hp,SqL.of Ae,.nil,s3.seq he,aa.mono (PrAt.same s3.t),hz,λv H' e' M' t'=>q v H' ((s3.m L).trans e') M' t'⟩
  left;by_cases hw:wd="name"
  ·subst hw;obtain⟨z,rfl⟩:=ac rfl;rw[decide_eq_true (Eq.refl _)];refine iteT ?_;refine⟨_,rfl,_,rfl,d,_,rfl,DGet.k (k:=Sum.inr z) e2,?_⟩;rw[O2];rcases look z with⟨l1,l2⟩|⟨u,th,l1,l2,t⟩
   ·rw[l1];refine⟨false,rfl,?_⟩;refine iteF ?_;left;refine⟨_,rfl,L.m,C,L.dx,_,_,rfl,M2.ins,(De L S.steps).2.1,MR,?_⟩;left;refine⟨Bm,λl U=>?_⟩;left;exact row (by simp[l2]) l U
   ·rw[l1];refine⟨true,rfl,?_⟩;refine iteT ?_;left;refine⟨_,rfl,_,rfl,d,u,rfl,?_,?_⟩
    ·rw[<- l1,<- O2];exact DGet.k (k:=Sum.inr z) e2
    ·have e:(match V.str z with|.str z=>if ("name":Str)="name" then C1 ar z else none|_=>none)=some th:=by simp[l2]
     rw[e]at q;exact q _ _ (j.m L) M2 (ThAt.same Z.t _ _ t)
  ·rw[decide_eq_false (λh=>hw (V.str.inj h))];left;refine⟨_,rfl,L.m,C,L.dx,_,_,rfl,M2.ins,(De L S.steps).2.1,MR,?_⟩;left;refine⟨Bm,λl U=>?_⟩;left;refine row ?_ l U;cases nv <;> simp[hw]
noncomputable def Dg:Dt->V
 |.flat v=>v
 |_=>.non
noncomputable def Fe (S:MS)(wd:Str)(d:Dt)(pl:List Nat)(ar:List (Str×Str×V)):MS :=
 let S1:=if wd="gap" then S else { S with steps:=S.steps+1 }
 match Bh wd with
 |some ns=>{ S1 with wait:=(S1.wait++[⟨pl,ar,true⟩])++ns.map λn=>⟨pl++[n.toNat],ar,false⟩ }
 |none=>{ (Cj S1 wd (Dg d) pl ar).2 with things:=(Cj S1 wd (Dg d) pl ar).2.things++[(Cj S1 wd (Dg d) pl ar).1] }
def Mp (wd:Str)(d:Dt):Prop:=(wd∈(["num","truth"]:List Str)->∃v,d=.flat v)/\(wd="name" -> ∃z,d=.flat (.str z))
inductive Zs6 (K:Pg)(C:Addr)(vs:List V)(H:Hp)(Q:VK)(e9:XK):Prop
 |mk (p e:Addr) (pl:List Nat) (ev:List V) (ar:List (Str×Str×V)) (HB:Hp) (kvs:List (List Au×V)) (L:Ml) (S:MS) (v:V) (wd:Str) (d:Dt) (ts:List Tr) (_:vs=[.ref L.m,.ref p,.ref e]) (_:MAt K HB C kvs L H S) (_:H p=some (.tup (A4 pl))) (_:H e=some (.lst ev)) (_:Al (PrAt K H) ev ar) (_:¬L.A e) (_:Cc kvs (Dn pl)=some v) (_:TrAt K H v (.mk wd d ts)) (_:Mp wd d) (_:pl.length<=2000) (_:S.rows.length<9000) (_:S.wait.length<9000) (_:S.things.length<9000) (_:(wd≠"gap" -> S.steps+1<=500)) (_:∀H',SameM L H H'->MAt K HB C kvs L H' (Fe S wd d pl ar)->Q .non H')
def Zfw (K:Pg)(C:Addr):Sp:=Zs6 K C
theorem Zen:(["number","around","place"]:List Str).Nodup:=by right
theorem sc_Machine_come_to:A9 ["self","place","around","word","note"] ["self","place","around"] (A5 Jp):=by walk_at "sc"
theorem Ztg (h:Bh wd=some ns):ns.length<=2/\∀n∈ns,0<=n:=by
 unfold Bh at h;split at h
 ·cases h;exact⟨by decide,by decide⟩
 split at h
 ·cases h;exact⟨by decide,by decide⟩
 ·cases h
theorem Zu2 (h:IsN K H nv d)(hn:Mp wd d):Cj S wd nv pl ar=Cj S wd (Dg d) pl ar:=by
 rcases h with⟨_,rfl⟩|⟨a,vs,rfl,_,_,rfl⟩
 ·rfl
 ·have h1:¬wd∈(["num","truth"]:List Str):=λx=>by obtain⟨v,e⟩:=hn.1 x;cases e
  unfold Cj;rw[if_neg h1,if_neg h1];rfl
theorem Zpw (S:MS)(wd:Str)(nv:V)(pl:List Nat)(ar:List (Str×Str×V)):(Cj S wd nv pl ar).2.things=S.things:=by
 unfold Cj;split
 ·rfl
 split <;> rfl
theorem Zrw (F:Fun K "come_to" "Machine.come_to" Jp f fd)(T:Txt K mg)(O:Mc K C)(G_PARTS_AWAITED:Eu mg "PARTS_AWAITED" (.ref ap))(hpa:Gq P w K ap pk)(hpk:∀wd,(Dk pk wd).isSome=(Bh wd).isSome/\∀ns,Bh wd=some ns->∃b,Dk pk wd=some (.ref b)/\∀H,SqT K H b (ns.map V.int))(MS_:C0 Aq P w K mg base 1 C "make_steps" ["self","many"] (O1 K C))(MLf:C0 Aq P w K mg base 2 C "thing_of_leaf" ["self","word","note","place","around"] (Zak K C)):FnOk P w K mg base Aq 3 f fd ["self","place","around"] (Zfw K C):=by
 refine F.okq sc_Machine_come_to (λvs H Q E h=>?_) (λbv A outer s H vs Q E hr h=>?_)
 ·obtain⟨p,e,pl,ev,ar,HB,kvs,L,S,v,wd,d,ts,rfl,_⟩:=h;rfl
 ·obtain⟨p,e,pl,ev,ar,HB,kvs,L,S,v,wd,d,ts,rfl,M,hp,he,a7,nA,hv,ht,aj,bo,z1,z2,z3,z4,q⟩:=h;refine⟨_,Ad (Fs (Ej (Ff K) (Kg hr.u1 (B5 K (qv 0)) (qv 1) (λ_ _=>rfl)) (Ew) (Dr Ac)) (Ep K (n:=2) rfl (Ci (Bc (i:=3) sc_Machine_come_to.nd rfl (Or.inl rfl)) (Ci (Bc (i:=4) sc_Machine_come_to.nd rfl (Or.inl rfl)) (Ei)))))
   (Ad (Ay (Az (Dy K hr.u200) (qv 3) Am (Ax _)) (Af (B2 (Db (k:=1) K Aq ["self","many"] (qv 0) hr.m Dj (Aa Ac Ab)))) A2)
   (Af (Ay (Az (Zbu P w K) (qv 3) (Ge G_PARTS_AWAITED) (by rfl)) (Ad (B2 (Cv K P5 Qe Qf C7 (B5 K (qv 0)) (Aa (Ao (Aa (qv 1) (Aa (qv 2) (Aa B9 Ab)))) Ab)))
   (Af (B2 (Cv K P5 V6 V7 Os (B5 K (qv 0)) (Aa (Lk (N:=["number","around","place"]) (σ0:=Ed 1 [2,1]) rfl (Fz rfl (by right) (by right) (by right)) (E9 K (Jz (Zag P w K) (Ge G_PARTS_AWAITED) (qv 3) (λ_ _=>rfl))) (Fy rfl (by rfl)) (λ_ _ _ _=>Bc (i:=0) Zen rfl (Or.inl rfl)) (λ_ _ _ _=>Ip) (λ_ _ _ _=>Ao (Aa (Ai (Lm K) (qv 2) (Ao (Aa (qv 0) Ab))) (Aa (qv 1) (Aa B9 Ab))))) Ab))))) (Af (B2 (Cv K P5 Qe Qf C7 (B5 K (qv 0)) (Aa (Db (k:=2) K Aq ["self","word","note","place","around"] (qv 0) hr.m Dj (Aa (qv 3) (Aa (qv 4) (Aa (qv 1) (Aa (qv 2) Ab))))) Ab))))))),?_⟩
  have bg:=big;cases ht with
  | @mk b pp _ nv _ vs _ qb hn bu hl bw =>
  left;refine⟨_,rfl,L.m,C,L.dx,_,_,rfl,M.ins,O.cl,O.nf,Nj L S.steps,_,rfl,L.fd,.ref b,rfl,?_,?_⟩
  ·rw[<- hv];refine DGet.t M.frm ?_;rw[J8];exact hp
  left;refine .inr (.inr ⟨b,_,rfl,qb,by show ¬(HT.sIx 3 0 none=0/\HT.sIx 3 3 (some 2)=3);decide,λp1 h1=>?_⟩);rw[show B8 [V.str wd,nv,.ref pp] none (some 2)=[V.str wd,nv] from rfl];have s1:Same H (upd H p1 (.tup [.str wd,nv])):=Same.upd h1;have e1:upd H p1 (.tup [.str wd,nv]) p1=some (.tup [.str wd,nv]):=Ae;have ah:=s1 _ _ hp;have ao:=s1 _ _ he;have M1:=M.new s1;have ai:IsN K (upd H p1 (.tup [.str wd,nv])) nv d:=hn.same s1.t;revert s1 e1 ah ao M1 ai;generalize upd H p1 (.tup [.str wd,nv])=H1;intro s1 e1 ah ao M1 ai;refine Dz (SqT.of e1) rfl ?_;refine s_gcons ?_;refine s_gname ?_;refine s_gcons ?_;refine s_gname ?_;refine s_gnil ?_;with_reducible refine s_seq ?_;obtain⟨S1,ae⟩:∃S1,S1=(if wd="gap" then S else { S with steps:=S.steps+1 }):=⟨_,rfl⟩;refine via (t:=Cr _ _ _) (R:=λH2=>SameM L H1 H2/\MAt K HB C kvs L H2 S1) ?_ (λY hY=>?_)
  ·rintro H2 ⟨m2,M2⟩;have a2:=M1.a m2;have t2:=M1.t m2;have ak:=(t2 p).1 _ ah;have ag:=a2.2 _ _ nA ao;have U:Al (PrAt K H2) ev ar:=a7.mono (PrAt.same (s1.t.trans t2));have ay:SameM L H H2:=(s1.m L).trans m2;have am:IsN K H2 nv d:=ai.same t2;obtain⟨y1,y2,y3⟩:S1.rows=S.rows/\S1.wait=S.wait/\S1.things=S.things:=by
    rw[ae];split <;> exact⟨rfl,rfl,rfl⟩
   have q:∀H',SameM L H H'->MAt K HB C kvs L H' (match Bh wd with
    |some ns=>{ S1 with wait:=(S1.wait++[⟨pl,ar,true⟩])++ns.map λn=>⟨pl++[n.toNat],ar,false⟩ }
    |none=>{ (Cj S1 wd (Dg d) pl ar).2 with things:=(Cj S1 wd (Dg d) pl ar).2.things++[(Cj S1 wd (Dg d) pl ar).1] })->Q .non H':=by
    intro H' e' M';refine q H' e' ?_;unfold Fe;rw[<- ae];exact M'
   left;refine⟨wd,ap,pk,rfl,rfl,hpa,?_⟩;rw[(hpk wd).1];cases ad:Bh wd with
   |none =>
    rw[ad]at q;left;refine iteF ?_;left;obtain⟨tv,et,bx⟩:=M2.things;refine⟨_,rfl,L.m,C,L.dx,_,_,rfl,M2.ins,O.cl,O.nt,Gf L S1.steps,?_⟩;refine Ce (SqL.of et) ?_;left;refine⟨_,rfl,L.m,C,L.dx,_,_,rfl,M2.ins,(De L S1.steps).2.2.1,MLf,?_⟩;left;refine⟨wd,nv,p,e,pl,ev,ar,HB,kvs,L,S1,rfl,M2,ak,SqL.of ag,U,by rw[y1];lia,(λx=>by
     obtain⟨v,rfl⟩:=aj.1 x;rcases am with⟨h,_⟩|⟨a,vs,_,_,_,h⟩
     ·exact h
     ·cases h),(λx=>by
     obtain⟨z,rfl⟩:=aj.2 x;rcases am with⟨_,h⟩|⟨a,vs,_,_,_,h⟩
     ·injection h with h;exact⟨z,h.symm⟩
     ·cases h),λv H3 e3 M3 t3=>?_⟩
    rw[Zu2 am aj]at M3 t3;obtain⟨a5,bf,as⟩:=M3.things;have br:a5.length=S.things.length:=by rw[as.1,Zpw,y3]
    left;refine C6 bf (by lia) ?_;have M4:=M3.setThings (as.snoc t3);left;exact q _ (ay.trans (e3.trans (SameM.upd (.inr (.inr (.inr rfl)))))) M4
   |some ns =>
    rw[ad]at q;obtain⟨nl,nn⟩:=Ztg ad;obtain⟨bt,a8,au⟩:=(hpk wd).2 ns ad;left;refine iteT ?_;left;obtain⟨wv,ew,aw⟩:=M2.wait;have bq:wv.length=S.wait.length:=by rw[aw.1,y2]
    refine⟨_,rfl,L.m,C,L.dx,_,_,rfl,M2.ins,O.cl,O.nw,G4 L S1.steps,?_⟩;refine Ce (SqL.of ew) ?_;left;refine⟨Bg,λr bj=>?_⟩;obtain⟨H3,s3,e3,z9⟩:=Cf bj (.tup [.ref p,.ref e,.bl true]);rw[z9];left;refine C6 (s3 _ _ ew) (by lia) ?_;have M3:=M2.new s3;have M4:=M3.setWait (wv:=wv++[.ref r]) (ws:=S1.wait++[⟨pl,ar,true⟩]) ((aw.mono (WtAt.same s3.a)).snoc ⟨r,p,e,ev,rfl,SqT.of e3,s3 _ _ ak,s3 _ _ ag,U.mono (PrAt.same s3.t),nA⟩);have Z:SameM L H3 (upd H3 L.wd (.lst (wv++[.ref r]))):=SameM.upd (.inr (.inr (.inl rfl)));have I:upd H3 L.wd (.lst (wv++[.ref r])) L.wd=some (.lst (wv++[.ref r])):=Ae;revert M4 Z I;generalize upd H3 L.wd (.lst (wv++[.ref r]))=H4;intro M4 Z I;have t4:=M3.t Z;have be:=(t4 p).1 _ (s3 _ _ ak);have aq:=(M3.a Z).2 _ _ nA (s3 _ _ ag);have av:Al (PrAt K H4) ev ar:=U.mono (PrAt.same (s3.t.trans t4));have a3:SameM L H H4:=ay.trans ((s3.m L).trans Z);left;refine⟨_,rfl,L.m,C,L.dx,_,_,rfl,M4.ins,O.cl,O.nw,G4 L S1.steps,?_⟩;refine Ce (SqL.of I) ?_;left;refine⟨ap,pk,wd,.ref bt,rfl,rfl,hpa,a8,.inr (.inl ⟨bt,rfl,⟨_,au _⟩,λD hD=>?_⟩)⟩;obtain⟨b0,a4,_⟩:=M4.rows;obtain⟨bp,a6,_⟩:=M4.things;have nD:¬L.A D:=by
     rintro(z|z|z)
     ·rw[z,a4]at hD;cases hD
     ·rw[z,I]at hD;cases hD
     ·rw[z,a6]at hD;cases hD
    refine Zps (K:=K) (a:=bt) (xs:=ns.map V.int) (Pv:=λi ys aa H'=>∃kv,aa=[kv,some (.ref e),some (.ref p)]/\Al (WtAt K (λb=>L.A b\/b=D) H') ys ((ns.take i).map λn=>⟨pl++[n.toNat],ar,false⟩)/\Same H4 H') ⟨none,rfl,.nil,Same.upd hD⟩ (λi ys aa H' _ _=>au _) ?_ ?_
    ·rintro i x ys aa H5 hx ac ⟨kv,rfl,j,s5⟩;rw[Qy]at hx;obtain⟨n,al,rfl⟩:=Rs.mp hx;have bn:i<ns.length:=(Pt.mp al).1;have n0:=nn n (Qo al);obtain⟨k,rfl⟩:∃k:Nat,n=(k:Int):=⟨n.toNat,by lia⟩;have bb:ys.length<=2:=by rw[j.1,Pp,Qm];lia
     left;refine⟨C9,λp6 h6=>?_⟩;obtain⟨H6,s6,e6,z9⟩:=Cf h6 (.tup [.int (k:Nat)]);rw[z9];refine Zby (s6 _ _ (s5 _ _ be)) e6 (by unfold A4;rw[Pp,Py];lia) λp7 H7 s7 e7=>?_;left;refine⟨Bg,λp8 h8=>?_⟩;obtain⟨H8,s8,e8,z9⟩:=Cf h8 (.tup [.ref p7,.ref e,.bl false]);rw[z9];have af:=s6.trans (s7.trans s8);have an:=s5.trans af;refine⟨_,af _ _ ac,by lia,_,Ae,?_⟩;have bi:=af _ _ ac;have sA:SameA (λb=>L.A b\/b=D) H8 (upd H8 D (.lst (ys++[.ref p8]))):=SameA.set bi (.inr rfl);have bh:e≠D:=λz=>by rw[<- z,aq]at hD;cases hD
     ·refine⟨_,rfl,?_,an.over hD⟩;rw[R6,al,U5,Qh,We];refine(j.mono λv x h=>WtAt.same sA v x (WtAt.same af.a v x h)).snoc (WtAt.same sA _ _ ⟨p8,p7,e,ev,rfl,SqT.of e8,?_,an _ _ aq,av.mono (PrAt.same an.t),λh=>h.elim nA bh⟩);have e9:=s8 _ _ e7;show H8 p7=some (.tup (A4 (pl++[((k:Nat):Int).toNat])));rw[show A4 (pl++[((k:Nat):Int).toNat])=A4 pl++[.int ((k:Nat):Int)] by unfold A4;rw[Qh];simp];exact e9
    ·rintro ys aa H5 ac ⟨kv,rfl,j,s5⟩;rw[Pp,T8]at j;have j:=j.mono (WtAt.mono (B:=L.A) λb hb _=>.inl hb);left;have bb:ys.length<=2:=by rw[j.1,Pp];lia
     refine⟨L.wd,D,_,ys,rfl,rfl,s5 _ _ I,ac,by rw[Pn,Py];lia,?_⟩;have M5:=M4.new s5;obtain⟨a9,ax,ba⟩:=M5.wait;have a0:a9=wv++[.ref r]:=by rw[s5 _ _ I]at ax;cases ax;rfl
     subst a0;have M6:=M5.setWait (ba.append j);left;exact q _ (a3.trans ((s5.m L).trans (SameM.upd (.inr (.inr (.inl rfl)))))) M6
  ·left;by_cases hg:wd="gap"
   ·rw[decide_eq_true (by rw[hg])];left;exact hY _ ⟨SameM.refl _ _,by rw[ae,if_pos hg];exact M1⟩
   ·rw[decide_eq_false (λh=>hg (V.str.inj h))];left;refine⟨_,rfl,L.m,C,L.dx,_,_,rfl,M1.ins,(De L S.steps).1,MS_,?_⟩;left;refine⟨1,HB,kvs,L,S,rfl,M1,z4 hg,λH2 e2 M2=>?_⟩;left;exact hY _ ⟨e2,by rw[ae,if_neg hg];exact M2⟩
inductive Ztv (K:Pg)(C TL:Addr)(vs:List V)(H:Hp)(e9:VK)(E:XK):Prop
 |mk (p e:Addr) (pl:List Nat) (ev:List V) (ar:List (Str×Str×V)) (HB:Hp) (kvs:List (List Au×V)) (L:Ml) (S:MS) (v:V) (wd:Str) (d:Dt) (ts:List Tr) (_:vs=[.ref L.m,.ref p,.ref e]) (_:MAt K HB C kvs L H S) (_:H p=some (.tup (A4 pl))) (_:H e=some (.lst ev)) (_:Al (PrAt K H) ev ar) (_:¬L.A e) (_:Cc kvs (Dn pl)=some v) (_:TrAt K H v (.mk wd d ts)) (_:wd≠"gap") (_:500<S.steps+1) (_:∀H',SameM L H H'->E (.ref TL) none H')
def Zhd (K:Pg)(C TL:Addr):Sp:=Ztv K C TL
theorem Zso (F:Fun K "come_to" "Machine.come_to" Jp f fd)(T:Txt K mg)(O:Mc K C)(G_PARTS_AWAITED:Eu mg "PARTS_AWAITED" (.ref ap))(hpa:Gq P w K ap pk)(hpk:∀wd,(Dk pk wd).isSome=(Bh wd).isSome/\∀ns,Bh wd=some ns->∃b,Dk pk wd=some (.ref b)/\∀H,SqT K H b (ns.map V.int))(MS_:C0 (Bo P w) P w K mg base 1 C "make_steps" ["self","many"] (Zet K C TL))(MLf:C0 Aq P w K mg base 2 C "thing_of_leaf" ["self","word","note","place","around"] (Zak K C)):FnOk P w K mg base (Bo P w) 3 f fd ["self","place","around"] (Zhd K C TL):=by
 refine F.okx sc_Machine_come_to (λvs H Q E h=>?_) (λaa A outer s H vs Q E hr h=>?_)
 ·obtain⟨p,e,pl,ev,ar,HB,kvs,L,S,v,wd,d,ts,rfl,_⟩:=h;rfl
 ·obtain⟨p,e,pl,ev,ar,HB,kvs,L,S,v,wd,d,ts,rfl,M,hp,he,ad,nA,hv,ht,hg,h5,q⟩:=h;refine⟨_,Ad (Fs (Ej (Ff K) (Kg hr.u1 (B5 K (qv 0)) (qv 1) (λ_ _=>rfl)) (Ew) (Dr Ac)) (Ep K (n:=2) rfl (Ci (Bc (i:=3) sc_Machine_come_to.nd rfl (Or.inl rfl)) (Ci (Bc (i:=4) sc_Machine_come_to.nd rfl (Or.inl rfl)) (Ei)))))
   (Ad (Ay (Az (Dy K hr.u200) (qv 3) Am (Ax _)) (Af (B2 (Db (k:=1) K (Bo P w) ["self","many"] (qv 0) hr.m (Gy (λ_ _ _ h=>h)) (Aa Ac Ab)))) A2)
   (Af (Ay (Az (Zbu P w K) (qv 3) (Ge G_PARTS_AWAITED) (by rfl)) (Ad (B2 (Cv K P5 Qe Qf C7 (B5 K (qv 0)) (Aa (Ao (Aa (qv 1) (Aa (qv 2) (Aa B9 Ab)))) Ab)))
   (Af (B2 (Cv K P5 V6 V7 Os (B5 K (qv 0)) (Aa (Lk (N:=["number","around","place"]) (σ0:=Ed 1 [2,1]) rfl (Fz rfl (by right) (by right) (by right)) (E9 K (Jz (Zag P w K) (Ge G_PARTS_AWAITED) (qv 3) (λ_ _=>rfl))) (Fy rfl (by rfl)) (λ_ _ _ _=>Bc (i:=0) Zen rfl (Or.inl rfl)) (λ_ _ _ _=>Ip) (λ_ _ _ _=>Ao (Aa (Ai (Lm K) (qv 2) (Ao (Aa (qv 0) Ab))) (Aa (qv 1) (Aa B9 Ab))))) Ab))))) (Af (B2 (Cv K P5 Qe Qf C7 (B5 K (qv 0)) (Aa (Db (k:=2) K Aq ["self","word","note","place","around"] (qv 0) hr.m Dj (Aa (qv 3) (Aa (qv 4) (Aa (qv 1) (Aa (qv 2) Ab))))) Ab))))))),?_⟩
  have bg:=big;cases ht with
  | @mk b pp _ j _ vs _ qb hn ac hl ae =>
  left;refine⟨_,rfl,L.m,C,L.dx,_,_,rfl,M.ins,O.cl,O.nf,Nj L S.steps,_,rfl,L.fd,.ref b,rfl,?_,?_⟩
  ·rw[<- hv];refine DGet.t M.frm ?_;rw[J8];exact hp
  left;refine .inr (.inr ⟨b,_,rfl,qb,by show ¬(HT.sIx 3 0 none=0/\HT.sIx 3 3 (some 2)=3);decide,λp1 h1=>?_⟩);rw[show B8 [V.str wd,j,.ref pp] none (some 2)=[V.str wd,j] from rfl];have I:Same H (upd H p1 (.tup [.str wd,j])):=Same.upd h1;have e1:upd H p1 (.tup [.str wd,j]) p1=some (.tup [.str wd,j]):=Ae;have U:=I _ _ hp;have Y:=I _ _ he;have M1:=M.new I;have Z:IsN K (upd H p1 (.tup [.str wd,j])) j d:=hn.same I.t;revert I e1 U Y M1 Z;generalize upd H p1 (.tup [.str wd,j])=H1;intro I e1 U Y M1 Z;refine Dz (SqT.of e1) rfl ?_;refine s_gcons ?_;refine s_gname ?_;refine s_gcons ?_;refine s_gname ?_;refine s_gnil ?_;with_reducible refine s_seq ?_
  left;rw[decide_eq_false (λh=>hg (V.str.inj h))];left;refine⟨_,rfl,L.m,C,L.dx,_,_,rfl,M1.ins,(De L S.steps).1,MS_,?_⟩;left;exact⟨1,HB,kvs,L,S,rfl,M1,h5,λH2 e2=>q _ ((I.m L).trans e2)⟩
inductive Dm (sub:List Nat->Option (Str×Dt)):MS->MS->Prop where
 |come {S:MS} {w:List Wt} {x:Wt} {wd:Str} {d:Dt} (hw:S.wait=w++[x]) (hc:x.came=false) (hs:sub x.pl=some (wd,d)) (hn:Mp wd d) (h5:wd≠"gap" -> S.steps+1<=500):Dm sub S (Fe { S with wait:=w } wd d x.pl x.ar)
 |further {S S2:MS} {w:List Wt} {x:Wt} {wd:Str} {d:Dt} (hw:S.wait=w++[x]) (hc:x.came=true) (hs:sub x.pl=some (wd,d)) (hf:Hg sub wd d x.pl x.ar { S with wait:=w } S2) (hr:x.ar.length<=9000):Dm sub S S2
structure En (S:MS):Prop where
 r:S.rows.length<9000
 w:S.wait.length<9000
 t:S.things.length<9000
inductive RunM (sub:List Nat->Option (Str×Dt)):Nat->MS->MS->Prop where
 |nil {S:MS} (h:S.wait=[]):RunM sub 0 S S
 |cons {n:Nat} {S S1 S2:MS} (hs:En S) (h1:Dm sub S S1) (h2:RunM sub n S1 S2):RunM sub (n+1) S S2
inductive RunL (sub:List Nat->Option (Str×Dt)):Nat->MS->Prop where
 |last {S:MS} {w:List Wt} {x:Wt} {wd:Str} {d:Dt} (hs:En S) (hw:S.wait=w++[x]) (hc:x.came=false) (hsub:sub x.pl=some (wd,d)) (hg:wd≠"gap") (h5:500<S.steps+1):RunL sub 0 S
 |cons {n:Nat} {S S1:MS} (hs:En S) (h1:Dm sub S S1) (h2:RunL sub n S1):RunL sub (n+1) S
inductive RunX (sub:List Nat->Option (Str×Dt)):Nat->MS->Option MS->Prop where
 |nil {S:MS} (h:S.wait=[]):RunX sub 0 S (some S)
 |last {S:MS} {w:List Wt} {x:Wt} {wd:Str} {d:Dt} (hs:En S) (hw:S.wait=w++[x]) (hc:x.came=false) (hsub:sub x.pl=some (wd,d)) (hg:wd≠"gap") (h5:500<S.steps+1):RunX sub 0 S none
 |cons {n:Nat} {S S1:MS} {o:Option MS} (hs:En S) (h1:Dm sub S S1) (h2:RunX sub n S1 o):RunX sub (n+1) S o
theorem RunM.x (h:RunM sub n S S'):RunX sub n S (some S'):=by
 induction h with
 |nil h=>exact .nil h
 |cons a b _ j=>exact .cons a b j
theorem RunL.x (h:RunL sub n S):RunX sub n S none:=by
 induction h with
 |last a b c d e f=>exact .last a b c d e f
 |cons a b _ j=>exact .cons a b j
inductive Zr5 (K:Pg)(C TL:Addr)(vs:List V)(H:Hp)(Q:VK)(E:XK):Prop
 |mk (HB:Hp) (kvs:List (List Au×V)) (L:Ml) (S:MS) (sub:List Nat->Option (Str×Dt)) (n:Nat) (o:Option MS) (_:vs=[.ref L.m]) (_:MAt K HB C kvs L H S) (_:FormsAt K H kvs sub) (_:RunX sub n S o) (_:(∀S',o=some S'->∃(th:List (Str×V))(x:Str×V),S'.things=th++[x]/\∀v H' t,SameM L H H'->MAt K HB C kvs (L.with t) H' { S' with things:=th }->ThAt K H' v x->Q v H')) (_:(o=none->∀H',Same HB H'->E (.ref TL) none H'))
def Zcn (K:Pg)(C TL:Addr):Sp:=Zr5 K C TL
theorem sc_Machine_thing_at_the_end:A9 ["self","place","around","parts_came"] ["self"] (A5 J4):=by walk_at "sc"
theorem Zrz (F:Fun K "thing_at_the_end" "Machine.thing_at_the_end" J4 f fd)(T:Txt K mg)(O:Mc K C)(MC:C0 (Bo P w) P w K mg base 3 C "come_to" ["self","place","around"] (λvs H Q E=>Zfw K C vs H Q E\/Zhd K C TL vs H Q E))(MG:C0 Aq P w K mg base 4 C "go_further" ["self","place","around"] (Zht K C)):FnOk P w K mg base (Bo P w) 5 f fd ["self"] (Zcn K C TL):=by
 refine F.okx sc_Machine_thing_at_the_end (λvs H Q E h=>?_) (λa9 A outer s H vs Q E hr h=>?_)
 ·obtain⟨HB,kvs,L,S,sub,n,oo,rfl,_⟩:=h;rfl
 ·obtain⟨HB,kvs,L,S,sub,n,oo,rfl,M,FA,R,qS,qN⟩:=h;refine⟨_,Ad (Zf0 PassesOwn.leaving (M9 K (B5 K (qv 0)) (by intro _;rfl)) (Ad (Fs (Ls K P5 Tq Ts Kp (B5 K (qv 0))) (Ep K (n:=3) rfl (Ci (Bc (i:=1) sc_Machine_thing_at_the_end.nd rfl (Or.inl rfl)) (Ci (Bc (i:=2) sc_Machine_thing_at_the_end.nd rfl (Or.inl rfl)) (Ci (Bc (i:=3) sc_Machine_thing_at_the_end.nd rfl (Or.inl rfl)) (Ei))))))
   (Af (Ay (M9 K (qv 3) (by intro _;rfl)) (Af (B2 (Db (k:=4) K Aq ["self","place","around"] (qv 0) hr.m Dj (Aa (qv 1) (Aa (qv 2) Ab))))) (Af (B2 (Db (k:=3) K (Bo P w) ["self","place","around"] (qv 0) hr.m (Gy (λ_ _ _ h=>h)) (Aa (qv 1) (Aa (qv 2) Ab)))))))))
   (Af (An (Ls K P5 Tq Ts Kp (B5 K (qv 0))))),?_⟩
  have bg:=big;left;refine⟨λm ao H'=>eX5 λv1 v2 v3 S1 t=>ao=[some (.ref L.m),v1,v2,v3]/\MAt K HB C kvs (L.with t) H' S1/\RunX sub m S1 oo/\SameM L H H'/\(t=L.td\/H t=none),⟨n,none,none,none,S,L.td,rfl,M,R,SameM.refl _ _,.inl rfl⟩,?_⟩;rintro m ao H1 ⟨v1,v2,v3,S1,t,rfl,M1,R1,e1,ht⟩;obtain⟨wv,ew,aw⟩:=M1.wait;have ap:=FA.same (M.t e1);left;refine⟨_,rfl,L.m,C,L.dx,_,_,rfl,M1.ins,O.cl,O.nw,G4 (L.with t) S1.steps,?_⟩;refine Zhf (SqL.of ew) ?_;cases R1 with
  |nil hw =>
   have as:wv=[]:=Sc (by rw[aw.1,hw];rfl);subst as;refine iteF ?_;left;obtain⟨tv,et,ah⟩:=M1.things;obtain⟨th,x,hx,q⟩:=qS _ rfl;rw[hx]at ah;obtain⟨ax,v,a8,x',rfl,ad,a3,hv⟩:=ah.last (by intro z;rw[z]at ah;have:=ah.1;simp at this);obtain⟨rfl,e2⟩:=Sj ad rfl;cases e2;refine⟨_,rfl,L.m,C,L.dx,_,_,rfl,M1.ins,O.cl,O.nt,Gf (L.with t) S1.steps,?_⟩;refine Ce (SqL.of et) ?_;refine Je et ?_;have M2:=M1.setThings a3;have e2:SameM (L.with t) H1 (upd H1 (L.with t).td (.lst ax)):=SameM.upd (.inr (.inr (.inr rfl)));refine q v _ t (e1.trans' (L':=L.with t) e2 rfl rfl rfl ht) M2 (ThAt.same (M1.t e2) _ _ hv)
  | @last _ w0 xw wd d hs hw hc Z hg h5 =>
   rw[hw]at aw;obtain⟨ac,v,av,a5,rfl,ad,am,al⟩:=aw.last (by intro z;rw[z]at aw;have:=aw.1;simp at this);obtain⟨rfl,e2⟩:=Sj ad rfl;cases e2;have an:(!(ac++[v]).isEmpty)=true:=by simp
   rw[an];refine iteT ?_;refine⟨λak H2=>∃m2,m2<0/\eX5 λv1 v2 v3 S1 t=>ak=[some (.ref L.m),v1,v2,v3]/\MAt K HB C kvs (L.with t) H2 S1/\RunX sub m2 S1 none/\SameM L H H2/\(t=L.td\/H t=none),λ_ _ h=>h,?_⟩;left;refine⟨_,rfl,L.m,C,L.dx,_,_,rfl,M1.ins,O.cl,O.nw,G4 (L.with t) S1.steps,?_⟩;refine Ce (SqL.of ew) ?_;refine Je ew ?_;have M2:=M1.setWait am;have j:SameM (L.with t) H1 (upd H1 (L.with t).wd (.lst ac)):=SameM.upd (.inr (.inr (.inl rfl)));have aa:=WtAt.same (M1.a j) _ _ al;have I:=ap.same (M1.t j);revert M2 j aa I;generalize upd H1 (L.with t).wd (.lst ac)=H2;intro M2 j aa I;obtain⟨a,p,e,ev,rfl,qa,hp,he,aj,nA⟩:=aa;have af:SameM L H H2:=e1.trans' (L':=L.with t) j rfl rfl rfl ht;left;refine Dz qa rfl ?_;left;refine⟨xw.came,rfl,?_⟩;rw[hc];refine iteF ?_;left;obtain⟨ag,vv,ts,Y,ae⟩:=I _ _ _ Z;refine⟨_,rfl,L.m,C,L.dx,_,_,rfl,M2.ins,(De (L.with t) S1.steps).2.2.2.1,MC,?_⟩;left;exact .inr ⟨p,e,xw.pl,ev,xw.ar,HB,kvs,L.with t,_,vv,wd,d,ts,rfl,M2,hp,he,aj,nA,Y,ae,hg,h5,λH3 e3=>qN rfl _ (M2.outer e3)⟩
  | @cons m' _ S2 _ hs h1 h2 =>
   have au:∃w x,S1.wait=w++[x]:=by
    cases h1 with
    |come hw=>exact⟨_,_,hw⟩
    |further hw=>exact⟨_,_,hw⟩
   obtain⟨wl,xw,ai⟩:=au;rw[ai]at aw;obtain⟨ac,v,av,a5,rfl,ad,am,al⟩:=aw.last (by intro z;rw[z]at aw;have:=aw.1;simp at this);obtain⟨rfl,e2⟩:=Sj ad rfl;cases e2;have an:(!(ac++[v]).isEmpty)=true:=by simp
   rw[an];refine iteT ?_;refine⟨λak H2=>∃m2,m2<m'+1/\eX5 λv1 v2 v3 S1 t=>ak=[some (.ref L.m),v1,v2,v3]/\MAt K HB C kvs (L.with t) H2 S1/\RunX sub m2 S1 oo/\SameM L H H2/\(t=L.td\/H t=none),λ_ _ h=>h,?_⟩;left;refine⟨_,rfl,L.m,C,L.dx,_,_,rfl,M1.ins,O.cl,O.nw,G4 (L.with t) S1.steps,?_⟩;refine Ce (SqL.of ew) ?_;refine Je ew ?_;have M2:=M1.setWait am;have j:SameM (L.with t) H1 (upd H1 (L.with t).wd (.lst ac)):=SameM.upd (.inr (.inr (.inl rfl)));have aa:=WtAt.same (M1.a j) _ _ al;have I:=ap.same (M1.t j);revert M2 j aa I;generalize upd H1 (L.with t).wd (.lst ac)=H2;intro M2 j aa I;obtain⟨a,p,e,ev,rfl,qa,hp,he,aj,nA⟩:=aa;have af:SameM L H H2:=e1.trans' (L':=L.with t) j rfl rfl rfl ht;left;refine Dz qa rfl ?_;left;have aq:wl.length<9000:=by have:=hs.w;rw[ai,Pn]at this;lia
   refine⟨xw.came,rfl,?_⟩;cases h1 with
   | @come w2 x2 wd d hw hc Z hn h5 =>
    rw[ai]at hw;obtain⟨rfl,e2⟩:=Sj hw rfl;cases e2;rw[hc];refine iteF ?_;left;obtain⟨ag,vv,ts,Y,ae⟩:=I _ _ _ Z;refine⟨_,rfl,L.m,C,L.dx,_,_,rfl,M2.ins,(De (L.with t) S1.steps).2.2.2.1,MC,?_⟩;left;refine .inl ⟨p,e,xw.pl,ev,xw.ar,HB,kvs,L.with t,_,vv,wd,d,ts,rfl,M2,hp,he,aj,nA,Y,ae,hn,ag,hs.r,aq,hs.t,h5,λH3 e3 M3=>?_⟩;left;exact⟨m',by lia,_,_,_,_,t,rfl,M3,h2,af.trans' (L':=L.with t) e3 rfl rfl rfl ht,ht⟩
   | @further _ w2 x2 wd d hw hc Z hf ay =>
    rw[ai]at hw;obtain⟨rfl,e2⟩:=Sj hw rfl;cases e2;rw[hc];refine iteT ?_;left;obtain⟨ag,vv,ts,Y,ae⟩:=I _ _ _ Z;refine⟨_,rfl,L.m,C,L.dx,_,_,rfl,M2.ins,(De (L.with t) S1.steps).2.2.2.2.1,MG,?_⟩;left;refine⟨p,e,xw.pl,ev,xw.ar,HB,kvs,L.with t,_,_,vv,wd,d,ts,rfl,M2,hp,he,aj,nA,Y,ae,sub,I,hf,hs.r,hs.t,aq,ag,ay,λH3 t3 e3 M3 U=>?_⟩;left;refine⟨m',by lia,_,_,_,_,t3,rfl,M3,h2,af.trans' (L':=L.with t) e3 rfl rfl rfl ht,?_⟩;by_cases z:t3=L.td
    ·exact .inl z
    ·refine .inr ?_;cases hH:H t3 with
     |none=>rfl
     |some o =>
      exfalso;obtain⟨a6,a0,_⟩:=M2.rows;have n1:t3≠L.m:=λy=>by rw[y,show H2 L.m=_ from M2.ins]at U;cases U
      have n2:¬L.A t3:=by
       rintro(y|y|y)
       ·rw[y,show H2 L.rd=_ from a0]at U;cases U
       ·obtain⟨a7,a4,_⟩:=M2.wait;rw[y,show H2 L.wd=_ from a4]at U;cases U
       ·exact z y
      rw[af _ _ n1 n2 hH]at U;cases U
inductive Jtof (K:Pg)(C:Addr)(vs:List V)(H:Hp)(Q:VK)(e9:XK):Prop
 |mk (p e:Addr) (pl:List Nat) (ev:List V) (ar:List (Str×Str×V)) (HB:Hp) (kvs:List (List Au×V)) (L:Ml) (S S':MS) (sub:List Nat->Option (Str×Dt)) (n:Nat) (th:List (Str×V)) (x:Str×V) (_:vs=[.ref L.m,.ref p,.ref e]) (_:MAt K HB C kvs L H S) (_:H p=some (.tup (A4 pl))) (_:H e=some (.lst ev)) (_:Al (PrAt K H) ev ar) (_:¬L.A e) (_:FormsAt K H kvs sub) (_:S.wait.length<9000) (_:RunM sub n { S with wait:=S.wait++[⟨pl,ar,false⟩] } S') (_:S'.things=th++[x]) (_:∀v H' t,SameM L H H'->MAt K HB C kvs (L.with t) H' { S' with things:=th }->ThAt K H' v x->Q v H')
def Zfq (K:Pg)(C:Addr):Sp:=Jtof K C
inductive Zpc (K:Pg)(C TL:Addr)(vs:List V)(H:Hp)(e9:VK)(E:XK):Prop
 |mk (p e:Addr) (pl:List Nat) (ev:List V) (ar:List (Str×Str×V)) (HB:Hp) (kvs:List (List Au×V)) (L:Ml) (S:MS) (sub:List Nat->Option (Str×Dt)) (n:Nat) (_:vs=[.ref L.m,.ref p,.ref e]) (_:MAt K HB C kvs L H S) (_:H p=some (.tup (A4 pl))) (_:H e=some (.lst ev)) (_:Al (PrAt K H) ev ar) (_:¬L.A e) (_:FormsAt K H kvs sub) (_:S.wait.length<9000) (_:RunL sub n { S with wait:=S.wait++[⟨pl,ar,false⟩] }) (_:∀H',Same HB H'->E (.ref TL) none H')
def Zeh (K:Pg)(C TL:Addr):Sp:=Zpc K C TL
inductive Zqp (K:Pg)(C TL:Addr)(vs:List V)(H:Hp)(Q:VK)(E:XK):Prop
 |mk (p e:Addr) (pl:List Nat) (ev:List V) (ar:List (Str×Str×V)) (HB:Hp) (kvs:List (List Au×V)) (L:Ml) (S:MS) (sub:List Nat->Option (Str×Dt)) (n:Nat) (oo:Option MS) (_:vs=[.ref L.m,.ref p,.ref e]) (_:MAt K HB C kvs L H S) (_:H p=some (.tup (A4 pl))) (_:H e=some (.lst ev)) (_:Al (PrAt K H) ev ar) (_:¬L.A e) (_:FormsAt K H kvs sub) (_:S.wait.length<9000) (_:RunX sub n { S with wait:=S.wait++[⟨pl,ar,false⟩] } oo) (_:(∀S',oo=some S'->∃(th:List (Str×V))(x:Str×V),S'.things=th++[x]/\∀v H' t,SameM L H H'->MAt K HB C kvs (L.with t) H' { S' with things:=th }->ThAt K H' v x->Q v H')) (_:(oo=none->∀H',Same HB H'->E (.ref TL) none H'))
def Za9 (K:Pg)(C TL:Addr):Sp:=Zqp K C TL
theorem Zkx:A9 ["self","place","around"] ["self","place","around"] (A5 Kv):=by walk_at "sc"
theorem Zit (F:Fun K "thing_of_form" "Machine.thing_of_form" Kv f fd)(T:Txt K mg)(O:Mc K C)(ME:C0 (Bo P w) P w K mg base 5 C "thing_at_the_end" ["self"] (Zcn K C TL)):FnOk P w K mg base (Bo P w) 6 f fd ["self","place","around"] (Za9 K C TL):=by
 refine F.okx Zkx (λvs H Q E h=>?_) (λae A outer s H vs Q E hr h=>?_)
 ·obtain⟨p,e,pl,ev,ar,HB,kvs,L,S,sub,n,oo,rfl,_⟩:=h;rfl
 ·obtain⟨p,e,pl,ev,ar,HB,kvs,L,S,sub,n,oo,rfl,M,hp,he,ac,nA,FA,af,R,qS,qN⟩:=h;refine⟨_,Ad (B2 (Cv K P5 Qe Qf C7 (B5 K (qv 0)) (Aa (Ao (Aa (qv 1) (Aa (qv 2) (Aa B9 Ab)))) Ab)))
   (Af (An (Zgo (k:=5) K (Bo P w) ["self"] (qv 0) hr.m (Gy (λ_ _ _ h=>h))))),?_⟩
  have bg:=big;obtain⟨U,ew,aw⟩:=M.wait;have ad:=aw.1;left;refine⟨_,rfl,L.m,C,L.dx,_,_,rfl,M.ins,O.cl,O.nw,G4 L S.steps,?_⟩;refine Ce (SqL.of ew) ?_;left;refine⟨Bg,λr Z=>?_⟩;obtain⟨H1,j,e1,z9⟩:=Cf Z (.tup [.ref p,.ref e,.bl false]);rw[z9];left;refine C6 (j _ _ ew) (by lia) ?_;have M1:=M.new j;have M2:=M1.setWait (wv:=U++[.ref r]) (ws:=S.wait++[⟨pl,ar,false⟩]) ((aw.mono (WtAt.same j.a)).snoc ⟨r,p,e,ev,rfl,SqT.of e1,j _ _ hp,j _ _ he,ac.mono (PrAt.same j.t),nA⟩);have aa:SameM L H1 (upd H1 L.wd (.lst (U++[.ref r]))):=SameM.upd (.inr (.inr (.inl rfl)));have I:SameM L H (upd H1 L.wd (.lst (U++[.ref r]))):=(j.m L).trans aa;have Y:=FA.same (M.t I);left;refine⟨_,rfl,L.m,C,L.dx,_,_,rfl,M2.ins,(De L S.steps).2.2.2.2.2.2.1,ME,?_⟩;left;exact⟨HB,kvs,L,_,sub,n,oo,rfl,M2,Y,R,λS' z=>let ⟨th,x,hx,q⟩:=qS S' z;⟨th,x,hx,λv H' t e' M' t'=>q v H' t (I.trans e') M' t'⟩,qN⟩
theorem Zrn (F:FnOk P w K mg base (Bo P w) k f fd ["self","place","around"] (Za9 K C TL)):FnOk P w K mg base (Bo P w) k f fd ["self","place","around"] (λvs H Q E=>Zfq K C vs H Q E\/Zeh K C TL vs H Q E):=F.imp λvs H Q E h=>by
 rcases h with h|h
 ·obtain⟨p,e,pl,ev,ar,HB,kvs,L,S,S',sub,n,th,x,rfl,M,hp,Y,j,O,U,I,R,Z,q⟩:=h;exact⟨p,e,pl,ev,ar,HB,kvs,L,S,sub,n,_,rfl,M,hp,Y,j,O,U,I,R.x,λS2 z=>by cases z;exact⟨th,x,Z,q⟩,λz=>nomatch z⟩
 ·obtain⟨p,e,pl,ev,ar,HB,kvs,L,S,sub,n,rfl,M,hp,Y,j,O,U,I,R,q⟩:=h;exact⟨p,e,pl,ev,ar,HB,kvs,L,S,sub,n,_,rfl,M,hp,Y,j,O,U,I,R.x,λS2 z=>(nomatch z),λ_=>q⟩
inductive Jtop (K:Pg)(C:Addr)(vs:List V)(H:Hp)(Q:VK)(e9:XK):Prop
 |mk (p o e:Addr) (pl:List Nat) (ov ev:List V) (ops:List (Str×V)) (ar:List (Str×Str×V)) (HB:Hp) (kvs:List (List Au×V)) (L:Ml) (S S':MS) (sub:List Nat->Option (Str×Dt)) (n:Nat) (th:List (Str×V)) (x:Str×V) (_:vs=[.ref L.m,.ref p,.ref o,.ref e]) (_:MAt K HB C kvs L H S) (_:H p=some (.tup (A4 pl))) (_:H o=some (.lst ov)) (_:Al (ThAt K H) ov ops) (_:H e=some (.lst ev)) (_:Al (PrAt K H) ev ar) (_:¬L.A e) (_:FormsAt K H kvs sub) (_:S.wait.length<9000) (_:S.things.length+ops.length<9000) (_:RunM sub n { S with things:=S.things++ops,wait:=S.wait++[⟨pl,ar,true⟩] } S') (_:S'.things=th++[x]) (_:∀v H' t,SameM L H H'->MAt K HB C kvs (L.with t) H' { S' with things:=th }->ThAt K H' v x->Q v H')
def Zhw (K:Pg)(C:Addr):Sp:=Jtop K C
inductive Zts (K:Pg)(C TL:Addr)(vs:List V)(H:Hp)(e9:VK)(E:XK):Prop
 |mk (p o e:Addr) (pl:List Nat) (ov ev:List V) (ops:List (Str×V)) (ar:List (Str×Str×V)) (HB:Hp) (kvs:List (List Au×V)) (L:Ml) (S:MS) (sub:List Nat->Option (Str×Dt)) (n:Nat) (_:vs=[.ref L.m,.ref p,.ref o,.ref e]) (_:MAt K HB C kvs L H S) (_:H p=some (.tup (A4 pl))) (_:H o=some (.lst ov)) (_:Al (ThAt K H) ov ops) (_:H e=some (.lst ev)) (_:Al (PrAt K H) ev ar) (_:¬L.A e) (_:FormsAt K H kvs sub) (_:S.wait.length<9000) (_:S.things.length+ops.length<9000) (_:RunL sub n { S with things:=S.things++ops,wait:=S.wait++[⟨pl,ar,true⟩] }) (_:∀H',Same HB H'->E (.ref TL) none H')
def Zer (K:Pg)(C TL:Addr):Sp:=Zts K C TL
inductive Zoy (K:Pg)(C TL:Addr)(vs:List V)(H:Hp)(Q:VK)(E:XK):Prop
 |mk (p o e:Addr) (pl:List Nat) (ov ev:List V) (ops:List (Str×V)) (ar:List (Str×Str×V)) (HB:Hp) (kvs:List (List Au×V)) (L:Ml) (S:MS) (sub:List Nat->Option (Str×Dt)) (n:Nat) (oo:Option MS) (_:vs=[.ref L.m,.ref p,.ref o,.ref e]) (_:MAt K HB C kvs L H S) (_:H p=some (.tup (A4 pl))) (_:H o=some (.lst ov)) (_:Al (ThAt K H) ov ops) (_:H e=some (.lst ev)) (_:Al (PrAt K H) ev ar) (_:¬L.A e) (_:FormsAt K H kvs sub) (_:S.wait.length<9000) (_:S.things.length+ops.length<9000) (_:RunX sub n { S with things:=S.things++ops,wait:=S.wait++[⟨pl,ar,true⟩] } oo) (_:(∀S',oo=some S'->∃(th:List (Str×V))(x:Str×V),S'.things=th++[x]/\∀v H' t,SameM L H H'->MAt K HB C kvs (L.with t) H' { S' with things:=th }->ThAt K H' v x->Q v H')) (_:(oo=none->∀H',Same HB H'->E (.ref TL) none H'))
def Zga (K:Pg)(C TL:Addr):Sp:=Zoy K C TL
theorem Zol:A9 ["self","place","operands","around"] ["self","place","operands","around"] (A5 Ki):=by walk_at "sc"
theorem Zu3 (F:Fun K "thing_of_parts" "Machine.thing_of_parts" Ki f fd)(T:Txt K mg)(O:Mc K C)(ME:C0 (Bo P w) P w K mg base 5 C "thing_at_the_end" ["self"] (Zcn K C TL)):FnOk P w K mg base (Bo P w) 6 f fd ["self","place","operands","around"] (Zga K C TL):=by
 refine F.okx Zol (λvs H Q E h=>?_) (λak A outer s H vs Q E hr h=>?_)
 ·obtain⟨p,o,e,pl,ov,ev,ops,ar,HB,kvs,L,S,sub,n,oo,rfl,_⟩:=h;rfl
 ·obtain⟨p,o,e,pl,ov,ev,ops,ar,HB,kvs,L,S,sub,n,oo,rfl,M,hp,ho,Z,he,ai,nA,FA,an,am,R,qS,qN⟩:=h;refine⟨_,Ad (B2 (Cv K P5 V6 V7 Os (B5 K (qv 0)) (Aa (qv 2) Ab)))
   (Ad (B2 (Cv K P5 Qe Qf C7 (B5 K (qv 0)) (Aa (Ao (Aa (qv 1) (Aa (qv 3) (Aa B9 Ab)))) Ab)))
   (Af (An (Zgo (k:=5) K (Bo P w) ["self"] (qv 0) hr.m (Gy (λ_ _ _ h=>h)))))),?_⟩
  have bg:=big;obtain⟨tv,et,Y⟩:=M.things;have aj:=Y.1;have al:=Z.1;left;refine⟨_,rfl,L.m,C,L.dx,_,_,rfl,M.ins,O.cl,O.nt,Gf L S.steps,?_⟩;refine Ce (SqL.of et) ?_;left;refine⟨L.td,o,_,ov,rfl,rfl,et,ho,by lia,?_⟩;have M0:=M.setThings (Y.append Z);have U:SameM L H (upd H L.td (.lst (tv++ov))):=SameM.upd (.inr (.inr (.inr rfl)));revert M0 U;generalize upd H L.td (.lst (tv++ov))=H0;intro M0 U;have t0:=M.t U;have ae:=(t0 p).1 _ hp;have ah:=(M.a U).2 _ _ nA he;have aa:Al (PrAt K H0) ev ar:=ai.mono (PrAt.same t0);obtain⟨wv,ew,aw⟩:=M0.wait;have ad:=aw.1;left;refine⟨_,rfl,L.m,C,L.dx,_,_,rfl,M0.ins,O.cl,O.nw,G4 L S.steps,?_⟩;refine Ce (SqL.of ew) ?_;left;refine⟨Bg,λr af=>?_⟩;obtain⟨H1,j,e1,z9⟩:=Cf af (.tup [.ref p,.ref e,.bl true]);rw[z9];left;refine C6 (j _ _ ew) (by rw[ad];show S.wait.length+1<=_;lia) ?_;have M1:=M0.new j;have M2:=M1.setWait (wv:=wv++[.ref r]) (ws:=S.wait++[⟨pl,ar,true⟩]) ((aw.mono (WtAt.same j.a)).snoc ⟨r,p,e,ev,rfl,SqT.of e1,j _ _ ae,j _ _ ah,aa.mono (PrAt.same j.t),nA⟩);have ag:SameM L H1 (upd H1 L.wd (.lst (wv++[.ref r]))):=SameM.upd (.inr (.inr (.inl rfl)));have I:SameM L H (upd H1 L.wd (.lst (wv++[.ref r]))):=U.trans ((j.m L).trans ag);have ac:=FA.same (M.t I);left;refine⟨_,rfl,L.m,C,L.dx,_,_,rfl,M2.ins,(De L S.steps).2.2.2.2.2.2.1,ME,?_⟩;left;exact⟨HB,kvs,L,_,sub,n,oo,rfl,M2,ac,R,λS' z=>let ⟨th,x,hx,q⟩:=qS S' z;⟨th,x,hx,λv H' t e' M' t'=>q v H' t (I.trans e') M' t'⟩,qN⟩
theorem Zut (F:FnOk P w K mg base (Bo P w) k f fd ["self","place","operands","around"] (Zga K C TL)):FnOk P w K mg base (Bo P w) k f fd ["self","place","operands","around"] (λvs H Q E=>Zhw K C vs H Q E\/Zer K C TL vs H Q E):=F.imp λvs H Q E h=>by
 rcases h with h|h
 ·obtain⟨p,o,e,pl,ov,ev,ops,ar,HB,kvs,L,S,S',sub,n,th,x,rfl,M,hp,ho,U,he,j,Y,Z,O,I,R,hx,q⟩:=h;exact⟨p,o,e,pl,ov,ev,ops,ar,HB,kvs,L,S,sub,n,_,rfl,M,hp,ho,U,he,j,Y,Z,O,I,R.x,λS2 z=>by cases z;exact⟨th,x,hx,q⟩,λz=>nomatch z⟩
 ·obtain⟨p,o,e,pl,ov,ev,ops,ar,HB,kvs,L,S,sub,n,rfl,M,hp,ho,U,he,j,Y,Z,O,I,R,q⟩:=h;exact⟨p,o,e,pl,ov,ev,ops,ar,HB,kvs,L,S,sub,n,_,rfl,M,hp,ho,U,he,j,Y,Z,O,I,R.x,λS2 z=>(nomatch z),λ_=>q⟩
noncomputable def Bu (t:Tr)(pl:List Nat):Option (Str×Dt):=(Cu (walk [] t) pl).map λu=>(u.wd,Ft u)
theorem Kt (ha:H a=some (.ins C dx fs))(o:HO):SameT H (upd H a o):=λb=>⟨λxs h=>by
 have:b≠a:=λz=>by rw[z,ha]at h;cases h
 rw[Ag this];exact h,λo u h=>by
 have:b≠a:=λz=>by rw[z,ha]at h;cases h
 rw[Ag this];exact h⟩
inductive Zjq (K:Pg)(C:Addr)(vs:List V)(H:Hp)(Q:VK)(e9:XK):Prop
 |mk (m dx:Addr) (HB:Hp) (tv:V) (t:Tr) (n:Int) (_:vs=[.ref m,tv,.int n]) (_:n<=500) (_:HB m=none) (_:HB dx=none) (_:dx≠m) (_:H=upd (upd HB dx (.own m)) m (.ins C dx [])) (_:TrAt K HB tv t) (_:t.size<=2000) (_:∀H' L kvs,L.m=m->MAt K HB C kvs L H' ⟨[],[],[],n⟩->FormsAt K H' kvs (Bu t)->Q .non H')
def Nd (K:Pg)(C:Addr):Sp:=Zjq K C
theorem Zmz:A9 ["self","tree","steps"] ["self","tree","steps"] (A5 Lf):=by walk_at "sc"
theorem Mf (h:tv σ H λy H1=>ta σ H1 λx H2=>eX4 λa C dx fs=>x=.ref a/\H2 a=some (.ins C dx fs)/\Cls K C/\NoAttr K C f/\fs.length<1000/\D.nx σ (upd H2 a (.ins C dx (Aj f y fs)))):Ng K ta tv f D σ H:=h
theorem Zkj (F:Fun K "__init__" "Machine.__init__" Lf f fd)(T:Txt K mg)(O:Mc K C)(C_placed_forms:A8 P w K mg base 1 "placed_forms" ["tree"] (Zgq K))(MS_:C0 Aq P w K mg base 1 C "make_steps" ["self","many"] (O1 K C)):FnOk P w K mg base Aq 2 f fd ["self","tree","steps"] (Nd K C):=by
 refine F.okq Zmz (λvs H Q E h=>?_) (λce A outer s H vs Q E hr h=>?_)
 ·obtain⟨m,dx,HB,tv,t,n,rfl,_⟩:=h;rfl
 ·obtain⟨m,dx,HB,tv,t,n,rfl,cg,bm,bd,b8,hH,ht,hz,q⟩:=h;refine⟨_,Ad (Jc K (qv 0) (D4 (Zfd K hr.u200 rfl) (by rfl) T.dict (by right) (Aa (A3 C_placed_forms hr.m (Aa (qv 1) Ab)) Ab)))
   (Ad (Jc K (qv 0) (Bq Ab))
   (Ad (Jc K (qv 0) (Bq Ab))
   (Ad (Jc K (qv 0) (Bq Ab))
   (Ad (Jc K (qv 0) Ac)
   (Af (B2 (Db (k:=1) K Aq ["self","many"] (qv 0) hr.m Dj (Aa (qv 2) Ab)))))))),?_⟩
  have bg:=big;have sB:Same HB H:=by
   rw[hH];exact(Same.upd bd).trans (Same.upd (by rw[Ag (Ps b8)];exact bm))
  have im:H m=some (.ins C dx []):=by rw[hH];exact Ae
  clear hH;left;refine Mf ?_;left;refine⟨tv,t,rfl,ht.same sB,hz,λp rows H1 s1 cb e1 bu=>?_⟩;left;obtain⟨kvs,bv,look⟩:=Zq8 (K:=K) (H:=H1) rows _ bu;refine⟨p,rows,rfl,SqL.of e1,.inr ⟨kvs,bv,λfd a5=>?_⟩⟩;have s2:Same H1 (upd H1 fd (.dT (Ca [] kvs))):=Same.upd a5;have e2:upd H1 fd (.dT (Ca [] kvs)) fd=some (.dT (Ca [] kvs)):=Ae;have ag:=s1.trans s2;have FA:FormsAt K (upd H1 fd (.dT (Ca [] kvs))) (Ca [] kvs) (Bu t):=by
   intro pl wd d hs;unfold Bu at hs;obtain⟨u,hu,e⟩:=Rs.mp hs;cases e;rcases look pl with⟨_,l2⟩|⟨v,u',l1,l2,tr⟩
   ·rw[hu]at l2;cases l2
   ·rw[hu]at l2;cases l2;have hm:=Zbm [] t _ (Zo4 hu);simp only[Vi,Vx]at hm;refine⟨by lia,v,u.ps,by rw[O2];exact l1,?_⟩;rw[<- Ze3];exact tr.same s2
  have Z:fd≠m:=λz=>by rw[z,s1 _ _ im]at a5;cases a5
  revert ag e2 FA;generalize upd H1 fd (.dT (Ca [] kvs))=H2;intro e2 ag FA;generalize hkv:Ca [] kvs=kv at *
  have b3:=sB.trans ag;have bb:=ag _ _ im;refine⟨_,rfl,m,C,dx,_,rfl,bb,O.cl,O.nf,by show 0<1000;decide,?_⟩;have ay:=FA.same (Kt bb (.ins C dx (Aj "forms" (.ref fd) [])));have al:Same HB (upd H2 m (.ins C dx (Aj "forms" (.ref fd) []))):=b3.over bm;have ak:upd H2 m (.ins C dx (Aj "forms" (.ref fd) [])) m=some (.ins C dx (Aj "forms" (.ref fd) [])):=Ae;have ad:upd H2 m (.ins C dx (Aj "forms" (.ref fd) [])) fd=some (.dT kv):=(Ag Z).trans e2;revert ay al ak ad;generalize upd H2 m (.ins C dx (Aj "forms" (.ref fd) []))=H3;intro ay al ak ad;left;refine Mf ?_;left;refine⟨Bm,λrd I=>?_⟩;have s4:Same H3 (upd H3 rd (.lst [])):=Same.upd I;have au:upd H3 rd (.lst []) rd=some (.lst []):=Ae;have ac:rd≠m:=λz=>by rw[z,ak]at I;cases I
  have cc:fd≠rd:=λz=>by rw[<- z,ad]at I;cases I
  have br:HB rd=none:=al.free I;revert s4 au;generalize upd H3 rd (.lst [])=H4;intro s4 au;have bh:=ay.same s4.t;have b0:=al.trans s4;have bf:=s4 _ _ ak;have bp:=s4 _ _ ad;refine⟨_,rfl,m,C,dx,_,rfl,bf,O.cl,O.nr,by show 1<1000;decide,?_⟩;have ax:=bh.same (Kt bf (.ins C dx (Aj "rows" (.ref rd) (Aj "forms" (.ref fd) []))));have ah:Same HB (upd H4 m (.ins C dx (Aj "rows" (.ref rd) (Aj "forms" (.ref fd) [])))):=b0.over bm;have aa:upd H4 m (.ins C dx (Aj "rows" (.ref rd) (Aj "forms" (.ref fd) []))) m=some (.ins C dx (Aj "rows" (.ref rd) (Aj "forms" (.ref fd) []))):=Ae;have a3:upd H4 m (.ins C dx (Aj "rows" (.ref rd) (Aj "forms" (.ref fd) []))) fd=some (.dT kv):=(Ag Z).trans bp;have aj:upd H4 m (.ins C dx (Aj "rows" (.ref rd) (Aj "forms" (.ref fd) []))) rd=some (.lst []):=(Ag ac).trans au;revert ax ah aa a3 aj;generalize upd H4 m (.ins C dx (Aj "rows" (.ref rd) (Aj "forms" (.ref fd) [])))=H5;intro ax ah aa a3 aj;left;refine Mf ?_;left;refine⟨Bm,λwd U=>?_⟩;have s6:Same H5 (upd H5 wd (.lst [])):=Same.upd U;have ap:upd H5 wd (.lst []) wd=some (.lst []):=Ae;have aq:wd≠m:=λz=>by rw[z,aa]at U;cases U
  have b5:rd≠wd:=λz=>by rw[<- z,aj]at U;cases U
  have bw:HB wd=none:=ah.free U;revert s6 ap;generalize upd H5 wd (.lst [])=H6;intro s6 ap;have ca:=ax.same s6.t;have bq:=ah.trans s6;have be:=s6 _ _ aa;have bj:=s6 _ _ a3;have bo:=s6 _ _ aj;refine⟨_,rfl,m,C,dx,_,rfl,be,O.cl,O.nw,by show 2<1000;decide,?_⟩;have a7:=ca.same (Kt be (.ins C dx (Aj "waiting" (.ref wd) (Aj "rows" (.ref rd) (Aj "forms" (.ref fd) [])))));have am:Same HB (upd H6 m (.ins C dx (Aj "waiting" (.ref wd) (Aj "rows" (.ref rd) (Aj "forms" (.ref fd) []))))):=bq.over bm;have af:upd H6 m (.ins C dx (Aj "waiting" (.ref wd) (Aj "rows" (.ref rd) (Aj "forms" (.ref fd) [])))) m=some (.ins C dx (Aj "waiting" (.ref wd) (Aj "rows" (.ref rd) (Aj "forms" (.ref fd) [])))):=Ae;have a4:upd H6 m (.ins C dx (Aj "waiting" (.ref wd) (Aj "rows" (.ref rd) (Aj "forms" (.ref fd) [])))) fd=some (.dT kv):=(Ag Z).trans bj;have an:upd H6 m (.ins C dx (Aj "waiting" (.ref wd) (Aj "rows" (.ref rd) (Aj "forms" (.ref fd) [])))) rd=some (.lst []):=(Ag ac).trans bo;have ae:upd H6 m (.ins C dx (Aj "waiting" (.ref wd) (Aj "rows" (.ref rd) (Aj "forms" (.ref fd) [])))) wd=some (.lst []):=(Ag aq).trans ap;revert a7 am af a4 an ae;generalize upd H6 m (.ins C dx (Aj "waiting" (.ref wd) (Aj "rows" (.ref rd) (Aj "forms" (.ref fd) []))))=H7;intro a7 am af a4 an ae;left;refine Mf ?_;left;refine⟨Bm,λtd j=>?_⟩;have s8:Same H7 (upd H7 td (.lst [])):=Same.upd j;have a0:upd H7 td (.lst []) td=some (.lst []):=Ae;have ba:td≠m:=λz=>by rw[z,af]at j;cases j
  have bx:rd≠td:=λz=>by rw[<- z,an]at j;cases j
  have b7:wd≠td:=λz=>by rw[<- z,ae]at j;cases j
  have bt:HB td=none:=am.free j;revert s8 a0;generalize upd H7 td (.lst [])=H8;intro s8 a0;have b9:=a7.same s8.t;have b4:=am.trans s8;have a9:=s8 _ _ af;have bi:=s8 _ _ a4;have b6:=s8 _ _ an;have bn:=s8 _ _ ae;refine⟨_,rfl,m,C,dx,_,rfl,a9,O.cl,O.nt,by show 3<1000;decide,?_⟩;have ao:=b9.same (Kt a9 (.ins C dx (Aj "things" (.ref td) (Aj "waiting" (.ref wd) (Aj "rows" (.ref rd) (Aj "forms" (.ref fd) []))))));have a6:Same HB (upd H8 m (.ins C dx (Aj "things" (.ref td) (Aj "waiting" (.ref wd) (Aj "rows" (.ref rd) (Aj "forms" (.ref fd) [])))))):=b4.over bm;have ai:upd H8 m (.ins C dx (Aj "things" (.ref td) (Aj "waiting" (.ref wd) (Aj "rows" (.ref rd) (Aj "forms" (.ref fd) []))))) m=some (.ins C dx (Aj "things" (.ref td) (Aj "waiting" (.ref wd) (Aj "rows" (.ref rd) (Aj "forms" (.ref fd) []))))):=Ae;have a8:upd H8 m (.ins C dx (Aj "things" (.ref td) (Aj "waiting" (.ref wd) (Aj "rows" (.ref rd) (Aj "forms" (.ref fd) []))))) fd=some (.dT kv):=(Ag Z).trans bi;have aw:upd H8 m (.ins C dx (Aj "things" (.ref td) (Aj "waiting" (.ref wd) (Aj "rows" (.ref rd) (Aj "forms" (.ref fd) []))))) rd=some (.lst []):=(Ag ac).trans b6;have av:upd H8 m (.ins C dx (Aj "things" (.ref td) (Aj "waiting" (.ref wd) (Aj "rows" (.ref rd) (Aj "forms" (.ref fd) []))))) wd=some (.lst []):=(Ag aq).trans bn;have as:upd H8 m (.ins C dx (Aj "things" (.ref td) (Aj "waiting" (.ref wd) (Aj "rows" (.ref rd) (Aj "forms" (.ref fd) []))))) td=some (.lst []):=(Ag ba).trans a0;revert ao a6 ai a8 aw av as;generalize upd H8 m (.ins C dx (Aj "things" (.ref td) (Aj "waiting" (.ref wd) (Aj "rows" (.ref rd) (Aj "forms" (.ref fd) [])))))=H9;intro ao a6 ai a8 aw av as;left;refine Mf ?_;left;refine⟨m,C,dx,_,rfl,ai,O.cl,O.ns,by show 4<1000;decide,?_⟩;obtain⟨L,hL⟩:∃L:Ml,L=⟨m,dx,fd,rd,wd,td⟩:=⟨_,rfl⟩;have M:MAt K HB C kv L (upd H9 m (.ins C dx (L.fs 0))) ⟨[],[],[],0⟩:=by
   subst hL;exact⟨a6.over bm,bm,br,bw,bt,Ae,(Ag Z).trans a8,b5,bx,b7,⟨[],(Ag ac).trans aw,.nil,SepR.nil⟩,⟨[],(Ag aq).trans av,.nil⟩,⟨[],(Ag ba).trans as,.nil⟩⟩
  have Y:=ao.same (Kt ai (.ins C dx (L.fs 0)));rw[show Aj "steps" (.int 0) (Aj "things" (.ref td) (Aj "waiting" (.ref wd) (Aj "rows" (.ref rd) (Aj "forms" (.ref fd) []))))=L.fs 0 by subst hL;rfl];revert M Y;generalize upd H9 m (.ins C dx (L.fs 0))=cf;intro M Y;have hm:L.m=m:=by rw[hL]
  left;refine⟨_,rfl,m,C,L.dx,_,_,rfl,(by rw[<- hm];exact M.ins),(De L 0).1,MS_,?_⟩;left;refine⟨n,HB,kv,L,_,by rw[hm],M,by show(0:Int)+n<=500;lia,λH' e' M'=>?_⟩;left;have M':MAt K HB C kv L H' ⟨[],[],[],(0:Int)+n⟩:=M';rw[Int.zero_add]at M';exact q H' L kv hm M' (Y.same (M.t e'))
inductive Zo9 (K:Pg)(TL:Addr)(vs:List V)(H:Hp)(Q:VK)(E:XK):Prop
 |mk (tv:V) (t:Tr) (n:Nat) (oo:Option MS) (_:vs=[tv]) (_:TrAt K H tv t) (_:t.size<=2000) (_:RunX (Bu t) n ⟨[],[⟨[],[],false⟩],[],0⟩ oo) (_:(∀S',oo=some S'->∃x,S'.things=[x]/\∀(r rd:Addr)(av:V)(rv:List V)(H':Hp),Same H H'->SqT K H' r [av,.ref rd,.int S'.steps]->ThAt K H' av x->H' rd=some (.lst rv)->Al (RwX K (λb=>b=rd\/H b≠none) H') rv S'.rows->SepR K (λb=>b=rd\/H b≠none) H' rv S'.rows->H rd=none->Q (.ref r) H')) (_:(oo=none->∀H',Same H H'->E (.ref TL) none H'))
def Zdt (K:Pg)(TL:Addr):Sp:=Zo9 K TL
theorem Zca:A9 ["tree","machine","answer"] ["tree"] (A5 L7):=by walk_at "sc"
theorem Zq7 (F:Fun K "run" "run" L7 f fd)(T:Txt K mg)(O:Mc K C)(MK_Machine:Og Aq P w K mg base 2 "Machine" C ["self","tree","steps"] (Nd K C))(MF:C0 (Bo P w) P w K mg base 6 C "thing_of_form" ["self","place","around"] (Za9 K C TL)):FnOk P w K mg base (Bo P w) 7 f fd ["tree"] (Zdt K TL):=by
 refine F.okx Zca (λvs H Q E h=>?_) (λag A outer s H vs Q E hr h=>?_)
 ·obtain⟨tv,t,n,oo,rfl,_⟩:=h;rfl
 ·obtain⟨tv,t,n,oo,rfl,ht,hz,R,hx,q⟩:=h;refine⟨_,Ad (Av 1 Zca (Zfu MK_Machine hr.m Dj (Aa (qv 0) (Aa Ac Ab))))
   (Ad (Av 2 Zca (Db (k:=6) K (Bo P w) ["self","place","around"] (qv 1) hr.m (Gy (λ_ _ _ h=>h)) (Aa (Ao Ab) (Aa (Bq Ab) Ab))))
   (Af (An (Ao (Aa (qv 2) (Aa (B5 K (qv 1)) (Aa (B5 K (qv 1)) Ab))))))),?_⟩
  left;refine⟨tv,rfl,?_⟩;intro m dx h1 h2 h3;refine⟨m,dx,H,tv,t,0,rfl,by decide,h1,h2,h3,rfl,ht,hz,λH1 L kvs hm M FA=>⟨rfl,?_⟩⟩;subst hm;left;refine⟨_,rfl,L.m,C,L.dx,_,_,rfl,M.ins,(De L 0).2.2.2.2.2.2.2,MF,?_⟩;left;refine⟨Bm,λp hp=>?_⟩;obtain⟨H2,s2,e2,z9⟩:=Cf hp (.tup []);rw[z9];left;refine⟨Bm,λe j=>?_⟩;obtain⟨H3,s3,e3,z9⟩:=Cf j (.lst []);rw[z9];have U:=s2.trans s3;have M3:=M.new U;have M2:=M.new s2;have nA:¬L.A e:=by
   obtain⟨rv,er,_⟩:=M2.rows;obtain⟨wv,ew,_⟩:=M2.wait;obtain⟨af,et,_⟩:=M2.things;rintro(z|z|z)
   ·rw[z,er]at j;cases j
   ·rw[z,ew]at j;cases j
   ·rw[z,et]at j;cases j
  left;refine⟨p,e,[],[],[],H,kvs,L,_,Bu t,n,oo,rfl,M3,s3 _ _ e2,e3,.nil,nA,FA.same U.t,by show 0<9000;decide,R,λZ hS=>?_,λhn H' s'=>q hn H' s'⟩;obtain⟨x,aa,hx⟩:=hx Z hS;refine⟨[],x,aa,λav H4 t4 e4 I ad=>?_⟩;have sH:Same H H4:=I.base;obtain⟨rv,er,ar,ae⟩:=I.rows;left;refine⟨_,rfl,L.m,C,L.dx,_,_,rfl,I.ins,O.cl,O.nr,Iy (L.with t4) Z.steps,?_⟩;left;refine⟨_,rfl,L.m,C,L.dx,_,_,rfl,I.ins,O.cl,O.ns,Ik (L.with t4) Z.steps,?_⟩;left;refine⟨Bg,λr ac=>?_⟩;have Y:Same H4 (upd H4 r (.tup [av,.ref L.rd,.int Z.steps])):=Same.upd ac;refine hx r L.rd av rv _ (sH.trans Y) (SqT.of Ae) (ThAt.same Y.t _ _ ad) (Y _ _ er) ((ar.mono (RwX.mono λb hb _=>?_)).mono (RwX.same Y.a)) ((ae.mono λb hb _=>?_).same Y.a) I.nr
  all_goals rcases hb with z|z
  all_goals first|exact .inl (.inl z)|exact .inr z
end
noncomputable abbrev Ar:=List (Str×Str×V)
noncomputable def A7 (wd:Str):Int:=if wd="gap" then 0 else 1
noncomputable def Cs (l:List Int):List Nat:=l.map Int.toNat
theorem F3 (pl:List Nat):Cs (A1 pl)=pl:=by
 unfold Cs A1;rw[List.map_map];exact(List.map_congr_left λ_ _=>by simp).trans (List.map_id _)
noncomputable def Br:List Str:=["plus","minus","less","call"]
noncomputable def Cb (wd:Str)(pl:List Nat)(rs:List Rx)(x y:Str×V):(Str×V)×List Rx :=
 if wd∈Fd/\x.1="num"/\y.1="num" then (D3 wd (Ek x.2) (Ek y.2),rs) else ((("row":Str),.int (rs.length:Nat)),rs++[⟨wd,A1 pl,[x,y],[]⟩])
noncomputable def Ie (sub:List Nat->Option (Str×Dt))(rs:List Rx)(x y:Str×V):Option (List Nat×Ar):=match x.2 with
 |.int k=>(rs[k.toNat]?).bind λr=>(sub (Cs r.pl)).map λf=>(Cs r.pl++[0],r.ar++Bt (Cd f.1 f.2 0) (if r.wd="rec" then [x,y] else [y]))
 |_=>none
noncomputable def Bv (wd:Str)(d:Dt)(pl:List Nat)(ar:Ar)(rs:List Rx):(Str×V)×List Rx:=((Cj ⟨rs,[],[],0⟩ wd (Dg d) pl ar).1,(Cj ⟨rs,[],[],0⟩ wd (Dg d) pl ar).2.rows)
noncomputable abbrev Er:=(Str×V)×List Rx×Int
noncomputable def ev (sub:List Nat->Option (Str×Dt))(B:Int):Nat->List Nat->Ar->List Rx->Int->Option Er
 |0,_,_,_,_=>none
 |n+1,pl,ar,rs,st=>(sub pl).bind λf =>
  if B<st+A7 f.1 then none
  else if f.1∈Br then (ev sub B n (pl++[0]) ar rs (st+1)).bind λa=>(ev sub B n (pl++[1]) ar a.2.1 a.2.2).bind λb =>
   if f.1="call"/\Bs b.2.1 a.1=true then (Ie sub b.2.1 a.1 b.1).bind λc=>ev sub B n c.1 c.2 b.2.1 b.2.2
   else some ((Cb f.1 pl b.2.1 a.1 b.1).1,(Cb f.1 pl b.2.1 a.1 b.1).2,b.2.2)
  else if f.1="let" then (ev sub B n (pl++[0]) ar rs (st+1)).bind λa=>ev sub B n (pl++[1]) (ar++Bt (Cd f.1 f.2 1) [a.1]) a.2.1 a.2.2
  else if f.1="if" then (ev sub B n (pl++[0]) ar rs (st+1)).bind λa =>
   if a.1.1="truth" then ev sub B n (pl++[if a.1.2=.bl true then 1 else 2]) ar a.2.1 a.2.2
   else some ((("row":Str),.int (a.2.1.length:Nat)),a.2.1++[⟨f.1,A1 pl,[a.1],ar⟩],a.2.2)
  else some ((Bv f.1 f.2 pl ar rs).1,(Bv f.1 f.2 pl ar rs).2,st+A7 f.1)
def TOk (n:Nat)(x:Str×V):Prop:=(x.1="num" /\ ∃i,x.2=.int i)\/(x.1="truth" /\ ∃b,x.2=.bl b)\/(x.1="row" /\ ∃k:Nat,x.2=.int (k:Nat)/\k<n)
def AOk (n:Nat)(ar:Ar):Prop:=∀y∈ar,TOk n y.2
theorem TOk.up (h:TOk n x)(e:n<=m):TOk m x:=by
 rcases h with h|h|⟨h,k,h1,h2⟩
 ·exact .inl h
 ·exact .inr (.inl h)
 ·exact .inr (.inr ⟨h,k,h1,by lia⟩)
theorem AOk.up (h:AOk n ar)(e:n<=m):AOk m ar:=λy j=>(h y j).up e
def RsOk (sub:List Nat->Option (Str×Dt))(rs:List Rx)(st:Int):Prop:=∀(k:Nat)(r:Rx),rs[k]?=some r->AOk rs.length r.ar/\(r.pl.length<=5000/\r.ops.length<=2/\(r.ar.length:Int)<=2*st)/\(r.wd∈(["fn","rec"]:List Str)->(r.ar.length:Int)+2<=2*st/\r.pl=A1 (Cs r.pl)/\∃d,sub (Cs r.pl)=some (r.wd,d))
structure SubOk (sub:List Nat->Option (Str×Dt)):Prop where
 ln:∀{pl:List Nat}{x:Str×Dt},sub pl=some x->pl.length<=5000
 nt:∀{pl:List Nat}{wd:Str}{d:Dt},sub pl=some (wd,d)->(wd="num" -> ∃i,d=.flat (.int i))/\(wd="truth" -> ∃b,d=.flat (.bl b))/\(wd="name" -> ∃z,d=.flat (.str z))/\Fl wd d
 p0:∀{pl:List Nat}{wd:Str}{d:Dt},sub pl=some (wd,d)->wd∈(["plus","minus","less","call","let","if","fn","rec"]:List Str)->∃x,sub (pl++[0])=some x
 p1:∀{pl:List Nat}{wd:Str}{d:Dt},sub pl=some (wd,d)->wd∈(["plus","minus","less","call","let","if"]:List Str)->∃x,sub (pl++[1])=some x
 p2:∀{pl:List Nat}{wd:Str}{d:Dt},sub pl=some (wd,d)->wd="if" -> ∃x,sub (pl++[2])=some x
structure EOk (sub:List Nat->Option (Str×Dt))(ar:Ar)(rs:List Rx)(st:Int):Prop where
 a:AOk rs.length ar
 l:(ar.length:Int)<=2*st
 r:RsOk sub rs st
 z:0<=st
theorem RsOk.up (h:RsOk sub rs st)(e:st<=st'):RsOk sub rs st':=λk r I=>by
 obtain⟨h1,j,h2⟩:=h k r I;refine⟨h1,⟨j.1,j.2.1,by have:=j.2.2;lia⟩,λF=>?_⟩;obtain⟨U,O⟩:=h2 F;exact⟨by lia,O⟩
theorem RsOk.snoc (h:RsOk sub rs st)(h1:AOk rs.length r.ar)(h0:r.pl.length<=5000/\r.ops.length<=2/\(r.ar.length:Int)<=2*st)(h2:r.wd∈(["fn","rec"]:List Str)->(r.ar.length:Int)+2<=2*st/\r.pl=A1 (Cs r.pl)/\∃d,sub (Cs r.pl)=some (r.wd,d)):RsOk sub (rs++[r]) st:=λk x j=>by
 have O:(rs++[r]).length=rs.length+1:=by simp
 rw[O];by_cases e:k<rs.length
 ·rw[Qd e]at j;obtain⟨F,I⟩:=h k x j;exact⟨F.up (by lia),I⟩
 ·rw[Qn (by lia)]at j;have:k-rs.length=0:=by
   by_cases z:k-rs.length=0
   ·exact z
   ·rw[List.getElem?_eq_none (by simp;lia)]at j;cases j
  rw[this]at j;cases j;exact⟨h1.up (by lia),h0,h2⟩
structure Told (sub:List Nat->Option (Str×Dt))(B:Int)(rs:List Rx)(st:Int)(o:Er):Prop where
 s:st<=o.2.2
 b:o.2.2<=B
 t:TOk o.2.1.length o.1
 r:RsOk sub o.2.1 o.2.2
 l:rs.length<=o.2.1.length
 m:(o.2.1.length:Int)<=rs.length+4*(o.2.2-st)+1
 p:∃more,o.2.1=rs++more
theorem Ztb (h:C1 ar z=some y):∃s,(s,y)∈ar:=by
 unfold C1 at h;obtain⟨x,j,rfl⟩:=Rs.mp h;exact⟨x.1,Wm.mp (List.mem_of_find?_eq_some j)⟩
theorem Zqy (h:y∈Bt ns xs):y.2∈xs:=(Vf (show(y.1,y.2)∈List.zip ns xs from h)).2
theorem AOk.zip (h:AOk n ar)(hx:∀x∈xs,TOk n x):AOk n (ar++Bt ns xs):=λy j=>by
 rcases Rl.mp j with j|j
 ·exact h y j
 ·exact hx _ (Zqy j)
theorem Zio (ns:List Str)(xs:List (Str×V)):(Bt ns xs).length<=xs.length:=by unfold Bt;rw[List.length_zip];lia
theorem Ks (n:Nat):TOk (n+1) (("row":Str),.int (n:Nat)):=.inr (.inr ⟨rfl,n,rfl,by lia⟩)
theorem EOk.up (h:EOk sub ar rs st):EOk sub ar rs (st+1):=⟨h.a,by have:=h.l;lia,h.r.up (by lia),by have:=h.z;lia⟩
theorem EOk.on (h:EOk sub ar rs st)(t:Told sub B rs st o):EOk sub ar o.2.1 o.2.2:=⟨h.a.up t.l,by have:=h.l;have:=t.s;lia,t.r,by have:=h.z;have:=t.s;lia⟩
theorem EOk.put (h:EOk sub ar rs st)(hx:TOk rs.length x)(hl:(ar.length:Int)+1<=2*st)(ns:List Str):EOk sub (ar++Bt ns [x]) rs st :=
 ⟨h.a.zip (λy j=>by rw[Qw.mp j];exact hx),by have:=Zio ns [x];rw[Pn];rw[Py]at this;lia,h.r,h.z⟩
theorem Ha (h:Bs rs x=true)(hx:TOk rs.length x):∃(k:Nat)(r:Rx),x=(("row":Str),V.int (k:Nat))/\rs[k]?=some r/\r.wd∈(["fn","rec"]:List Str):=by
 obtain⟨w,v⟩:=x;unfold Bs at h;split at h
 ·rename_i O k e;injection e with e1 e2;subst e1 e2;rw[Ry]at h;obtain⟨h1,h2⟩:=h;have h1:=of_decide_eq_true h1;subst h1;rcases hx with⟨z,_⟩|⟨z,_⟩|⟨_,j,e,I⟩
  ·exact absurd (show("row":Str)="num" from z) (by right)
  ·exact absurd (show("row":Str)="truth" from z) (by right)
  ·have e:V.int k=.int (j:Nat):=e;injection e with e;subst e;rw[Q3]at h2;have F:rs[j]?=some rs[j]:=Pk I;rw[F]at h2;exact⟨j,_,rfl,F,of_decide_eq_true h2⟩
 ·cases h
theorem Go {sub:List Nat->Option (Str×Dt)}{rs:List Rx}{st:Int}{k:Nat}{r:Rx}{y:Str×V}(hr:rs[k]?=some r)(hf:r.wd∈(["fn","rec"]:List Str))(R:RsOk sub rs st):∃d,sub (Cs r.pl)=some (r.wd,d)/\r.pl=A1 (Cs r.pl)/\Ie sub rs (("row":Str),V.int (k:Nat)) y=some (Cs r.pl++[0],r.ar++Bt (Cd r.wd d 0) (if r.wd="rec" then [(("row":Str),V.int (k:Nat)),y] else [y])):=by
 obtain⟨_,_,h2⟩:=R k r hr;obtain⟨_,F,d,j⟩:=h2 hf;refine⟨d,j,F,?_⟩;show(rs[((k:Nat):Int).toNat]?).bind _=_;rw[Q3,hr,Pr,j];rfl
theorem G0 {sub:List Nat->Option (Str×Dt)}{ar:Ar}{rs:List Rx}{st:Int}{k:Nat}{r:Rx}{y:Str×V}{d:Dt}(E:EOk sub ar rs st)(hr:rs[k]?=some r)(hf:r.wd∈(["fn","rec"]:List Str))(hy:TOk rs.length y):EOk sub (r.ar++Bt (Cd r.wd d 0) (if r.wd="rec" then [(("row":Str),V.int (k:Nat)),y] else [y])) rs st:=by
 obtain⟨h1,_,h2⟩:=E.r k r hr;obtain⟨I,_⟩:=h2 hf;have F:TOk rs.length (("row":Str),V.int (k:Nat)):=.inr (.inr ⟨rfl,k,rfl,(Pt.mp hr).1⟩);refine⟨h1.zip λx j=>?_,?_,E.r,E.z⟩
 ·split at j
  ·simp only[Po,Px,or_false]at j;rcases j with rfl|rfl
   ·exact F
   ·exact hy
  ·rw[Qw.mp j];exact hy
 ·rw[Pn];have:(Bt (Cd r.wd d 0) (if r.wd="rec" then [(("row":Str),V.int (k:Nat)),y] else [y])).length<=2:=by
   refine Qg (Zio _ _) ?_;split <;> simp
  lia
theorem Zip (hb:st<=B)(hw:wd∈Br)(hp:pl.length<=5000)(h0:0<=st)(R:RsOk sub rs st)(hx:TOk rs.length x)(hy:TOk rs.length y):Told sub B rs st ((Cb wd pl rs x y).1,(Cb wd pl rs x y).2,st):=by
 unfold Cb;by_cases h:wd∈Fd/\x.1="num"/\y.1="num"
 ·rw[if_pos h];refine⟨Qu _,hb,?_,R,Pj _,by show((rs.length:Nat):Int)<=rs.length+4*(st-st)+1;lia,[],by simp⟩;show TOk rs.length (D3 wd _ _);unfold D3;split
  ·exact .inl ⟨rfl,_,rfl⟩
  split
  ·exact .inl ⟨rfl,_,rfl⟩
  ·exact .inr (.inl ⟨rfl,_,rfl⟩)
 ·rw[if_neg h];have F:(rs++[(⟨wd,A1 pl,[x,y],[]⟩:Rx)]).length=rs.length+1:=by simp
  refine⟨Qu _,hb,by show TOk (rs++_).length _;rw[F];exact Ks _,R.snoc (λy hy=>nomatch hy) ⟨by show(A1 pl).length<=5000;unfold A1;rw[Pp];exact hp,by show 2<=2;lia,by show(0:Int)<=2*st;lia⟩ (λj=>?_),by show rs.length<=(rs++_).length;rw[F];lia,by show(((rs++_).length:Nat):Int)<=rs.length+4*(st-st)+1;rw[F];lia,_,rfl⟩;exfalso;have j:wd∈(["fn","rec"]:List Str):=j;simp only[Po,Px,or_false]at j;rcases j with rfl|rfl <;> revert hw <;> right
theorem Znw (S:SubOk sub)(hs:sub pl=some (wd,d))(E:EOk sub ar rs st)(hb:st+A7 wd<=B):Told sub B rs st ((Bv wd d pl ar rs).1,(Bv wd d pl ar rs).2,st+A7 wd):=by
 have aa:0<=A7 wd/\A7 wd<=1:=by unfold A7;split <;> decide
 obtain⟨n1,n2,n3,_⟩:=S.nt hs;have j:∀t:Str×V,Bv wd d pl ar rs=(t,rs)->TOk rs.length t->Told sub B rs st ((Bv wd d pl ar rs).1,(Bv wd d pl ar rs).2,st+A7 wd):=λt e ht=>by
  rw[e];exact⟨by show st<=st+A7 wd;lia,hb,ht,E.r.up (by show st<=st+A7 wd;lia),Pj _,by show((rs.length:Nat):Int)<=rs.length+4*(st+A7 wd-st)+1;lia,[],by simp⟩
 by_cases h1:wd∈(["num","truth"]:List Str)
 ·refine j (wd,Dg d) (by unfold Bv Cj;rw[if_pos h1]) ?_;simp only[Po,Px,or_false]at h1;rcases h1 with h|h
  ·obtain⟨i,rfl⟩:=n1 h;exact .inl ⟨h,i,rfl⟩
  ·obtain⟨i,rfl⟩:=n2 h;exact .inr (.inl ⟨h,i,rfl⟩)
 by_cases h2:∃z y,wd="name"/\d=.flat (.str z)/\C1 ar z=some y
 ·obtain⟨z,y,e1,e2,Y⟩:=h2;obtain⟨s,hm⟩:=Ztb Y;refine j y ?_ (E.a _ hm);subst e2;unfold Bv Cj;rw[if_neg h1];simp only[Dg,if_pos e1,Y]
 ·have e:Bv wd d pl ar rs=((("row":Str),V.int (rs.length:Nat)),rs++[⟨wd,A1 pl,[],if wd∈WA then ar else []⟩]):=by
   unfold Bv Cj;rw[if_neg h1];split
   ·rename_i th U;exfalso;revert U;cases hd:Dg d with
    |str z =>
     by_cases I:wd="name"
     ·obtain⟨Z,rfl⟩:=n3 I;have hd:V.str Z=.str z:=hd;injection hd with hd;subst hd;simp only[if_pos I];intro F;exact h2 ⟨Z,th,I,rfl,F⟩
     ·simp[I]
    |_=>simp
   ·rfl
  have F:(rs++[(⟨wd,A1 pl,[],if wd∈WA then ar else []⟩:Rx)]).length=rs.length+1:=by simp
  rw[e];refine⟨by show st<=st+A7 wd;lia,hb,by show TOk (rs++_).length _;rw[F];exact Ks _,(E.r.up (by show st<=st+A7 wd;lia)).snoc ?_ ⟨by show(A1 pl).length<=5000;unfold A1;rw[Pp];exact S.ln hs,by show 0<=2;lia,?_⟩ (λO=>?_),by show rs.length<=(rs++_).length;rw[F];lia,by show(((rs++_).length:Nat):Int)<=rs.length+4*(st+A7 wd-st)+1;rw[F];lia,_,rfl⟩
  ·show AOk rs.length (if wd∈WA then ar else []);split
   ·exact E.a
   ·exact λy hy=>nomatch hy
  ·show(((if wd∈WA then ar else []).length:Nat):Int)<=2*(st+A7 wd);have:=E.l;have:=E.z;split
   ·lia
   ·simp;lia
  ·have O:wd∈(["fn","rec"]:List Str):=O;have ac:A7 wd=1:=by
    simp only[Po,Px,or_false]at O;unfold A7;rw[if_neg];rcases O with rfl|rfl <;> right
   refine⟨?_,by show A1 pl=A1 (Cs (A1 pl));rw[F3],d,by show sub (Cs (A1 pl))=_;rw[F3];exact hs⟩;show(((if wd∈WA then ar else []).length:Nat):Int)+2<=2*(st+A7 wd);have:=E.l;split
   ·lia
   ·have:=E.z;simp;lia
theorem Ds (h:wd∈Br\/wd="let"\/wd="if"):A7 wd=1:=by
 unfold A7;rw[if_neg];intro e;subst e;revert h;right
theorem Told.trans (h:Told sub B rs st a)(h':Told sub B a.2.1 a.2.2 o):st<=o.2.2/\rs.length<=o.2.1.length/\(o.2.1.length:Int)<=rs.length+4*(o.2.2-st)+2:=by
 have:=h.s;have:=h'.s;have:=h.l;have:=h'.l;have:=h.m;have:=h'.m;exact⟨by lia,by lia,by lia⟩
theorem Told.more {sub:List Nat->Option (Str×Dt)}{B:Int}{rs:List Rx}{st:Int}{a:Er}(h:Told sub B rs st a){l:List Rx}(h':∃more,l=a.2.1++more):∃more,l=rs++more:=by
 obtain⟨m1,F⟩:=h.p;obtain⟨m2,j⟩:=h';exact⟨m1++m2,by rw[j,F,P8]⟩
theorem B0 (S:SubOk sub):∀(n:Nat)(pl:List Nat)(ar:Ar)(rs:List Rx)(st:Int)(o:Er),EOk sub ar rs st->ev sub B n pl ar rs st=some o->Told sub B rs st o
 |0,_,_,_,_,_,_,h=>by rw[ev]at h;cases h
 |n+1,pl,ar,rs,st,o,E,h=>by
  have F:=B0 (B:=B) S n;rw[ev]at h;cases hs:sub pl with
  |none=>rw[hs]at h;cases h
  |some f =>
  obtain⟨wd,d⟩:=f;rw[hs]at h;simp only[Pr]at h;by_cases h1:B<st+A7 wd
  ·rw[if_pos h1]at h;cases h
  rw[if_neg h1]at h;by_cases h2:wd∈Br
  ·rw[if_pos h2]at h;have Z:=Ds (.inl h2);obtain⟨a,U,h⟩:=Pw.mp h;obtain⟨b,hb,h⟩:=Pw.mp h;have ta:=F _ _ _ _ _ E.up U;have tb:=F _ _ _ _ _ (E.up.on ta) hb;have Eb:=(E.up.on ta).on tb;obtain⟨q1,q2,q3⟩:=ta.trans tb;by_cases j:wd="call"/\Bs b.2.1 a.1=true
   ·rw[if_pos j]at h;obtain⟨k,r,ex,hr,I⟩:=Ha j.2 (ta.t.up tb.l);obtain⟨d',_,_,hc⟩:=Go (y:=b.1) hr I tb.r;rw[ex,hc,Pr]at h;have tc:=F _ _ _ _ _ (G0 Eb hr I tb.t) h;have:=tc.s;have:=tc.l;have:=tc.m;exact⟨by lia,tc.b,tc.t,tc.r,by lia,by lia,ta.more (tb.more tc.p)⟩
   ·rw[if_neg j]at h;cases h;have O:=Zip (B:=B) (pl:=pl) tb.b h2 (S.ln hs) Eb.z tb.r (ta.t.up tb.l) tb.t;have m1:b.2.1.length<=(Cb wd pl b.2.1 a.1 b.1).2.length:=O.l;have m2:(((Cb wd pl b.2.1 a.1 b.1).2.length:Nat):Int)<=b.2.1.length+4*(b.2.2-b.2.2)+1:=O.m;exact⟨by show st<=b.2.2;lia,O.b,O.t,O.r,by show rs.length<=(Cb wd pl b.2.1 a.1 b.1).2.length;lia,by show(((Cb wd pl b.2.1 a.1 b.1).2.length:Nat):Int)<=rs.length+4*(b.2.2-st)+1;lia,ta.more (tb.more O.p)⟩
  rw[if_neg h2]at h;by_cases Z:wd="let"
  ·rw[if_pos Z]at h;have j:=Ds (.inr (.inl Z));obtain⟨a,U,h⟩:=Pw.mp h;have ta:=F _ _ _ _ _ E.up U;have Y:=E.up.on ta;have tb:=F _ _ _ _ _ (Y.put ta.t (by have:=E.l;have:=ta.s;lia) _) h;obtain⟨q1,q2,q3⟩:=ta.trans tb;exact⟨by lia,tb.b,tb.t,tb.r,q2,by lia,ta.more tb.p⟩
  rw[if_neg Z]at h;by_cases j:wd="if"
  ·rw[if_pos j]at h;have h5:=Ds (.inr (.inr j));obtain⟨a,U,h⟩:=Pw.mp h;have ta:=F _ _ _ _ _ E.up U;have Y:=E.up.on ta;by_cases h6:a.1.1="truth"
   ·rw[if_pos h6]at h;have tb:=F _ _ _ _ _ Y h;obtain⟨q1,q2,q3⟩:=ta.trans tb;exact⟨by lia,tb.b,tb.t,tb.r,q2,by lia,ta.more tb.p⟩
   ·rw[if_neg h6]at h;cases h;have hl:(a.2.1++[(⟨wd,A1 pl,[a.1],ar⟩:Rx)]).length=a.2.1.length+1:=by simp
    have:=ta.s;have:=ta.l;have:=ta.m;refine⟨by show st<=a.2.2;lia,ta.b,by show TOk (a.2.1++_).length _;rw[hl];exact Ks _,ta.r.snoc Y.a ⟨by show(A1 pl).length<=5000;unfold A1;rw[Pp];exact S.ln hs,by show 1<=2;lia,Y.l⟩ (λI=>?_),by show rs.length<=(a.2.1++_).length;rw[hl];lia,by show(((a.2.1++_).length:Nat):Int)<=rs.length+4*(a.2.2-st)+1;rw[hl];lia,ta.more ⟨_,rfl⟩⟩;exfalso;have I:wd∈(["fn","rec"]:List Str):=I;subst j;revert I;right
  rw[if_neg j]at h;cases h;exact Znw S hs E (by lia)
theorem Zi0 (S:SubOk sub)(E:EOk sub ar rs st)(hs:sub pl=some (wd,d))(h:ev sub B n pl ar rs st=some o):st+A7 wd<=o.2.2:=by
 cases n with
 |zero=>rw[ev]at h;cases h
 |succ n =>
  rw[ev,hs]at h;simp only[Pr]at h;by_cases h1:B<st+A7 wd
  ·rw[if_pos h1]at h;cases h
  rw[if_neg h1]at h;have aa:A7 wd<=1:=by unfold A7;split <;> decide
  by_cases h2:wd∈Br
  ·rw[if_pos h2]at h;obtain⟨a,F,h⟩:=Pw.mp h;obtain⟨b,Z,h⟩:=Pw.mp h;have ta:=B0 S n _ _ _ _ _ E.up F;have tb:=B0 S n _ _ _ _ _ (E.up.on ta) Z;have:=ta.s;have:=tb.s;by_cases j:wd="call"/\Bs b.2.1 a.1=true
   ·rw[if_pos j]at h;obtain⟨k,r,ex,Y,U⟩:=Ha j.2 (ta.t.up tb.l);obtain⟨d',_,_,hc⟩:=Go (y:=b.1) Y U tb.r;rw[ex,hc,Pr]at h;have tc:=B0 S n _ _ _ _ _ (G0 ((E.up.on ta).on tb) Y U tb.t) h;have:=tc.s;lia
   ·rw[if_neg j]at h;cases h;show st+A7 wd<=b.2.2;lia
  rw[if_neg h2]at h;by_cases O:wd="let"
  ·rw[if_pos O]at h;obtain⟨a,F,h⟩:=Pw.mp h;have ta:=B0 S n _ _ _ _ _ E.up F;have tb:=B0 S n _ _ _ _ _ ((E.up.on ta).put ta.t (by have:=E.l;have:=ta.s;lia) _) h;have:=ta.s;have:=tb.s;lia
  rw[if_neg O]at h;by_cases j:wd="if"
  ·rw[if_pos j]at h;obtain⟨a,F,h⟩:=Pw.mp h;have ta:=B0 S n _ _ _ _ _ E.up F;have:=ta.s;by_cases I:a.1.1="truth"
   ·rw[if_pos I]at h;have tb:=B0 S n _ _ _ _ _ (E.up.on ta) h;have:=tb.s;lia
   ·rw[if_neg I]at h;cases h;show st+A7 wd<=a.2.2;lia
  rw[if_neg j]at h;cases h;exact Qu _
theorem Zaw (h:wd∈Br):Bh wd=some [1,0]/\wd≠"gap":=⟨by unfold Bh;exact if_pos h,λe=>by subst e;revert h;right⟩
theorem Zuo {wd:Str}(h:wd="let"\/wd="if"):Bh wd=some [0]/\wd≠"gap":=by rcases h with rfl|rfl <;> exact⟨by right,by right⟩
theorem Zc6 (h1:¬wd∈Br)(h2:¬wd="let")(h3:¬wd="if"):Bh wd=none:=by
 unfold Bh;unfold Br at h1;rw[if_neg h1,if_neg];simp only[Po,Px,or_false,not_or];exact⟨h3,h2⟩
theorem Zow (h:wd∈Br):Fe ⟨rs,w,th,st⟩ wd d pl ar=⟨rs,(w++[⟨pl,ar,true⟩]++[⟨pl++[1],ar,false⟩])++[⟨pl++[0],ar,false⟩],th,st+1⟩:=by
 obtain⟨h1,h2⟩:=Zaw h;unfold Fe;simp only[h1,if_neg h2];simp
theorem Zlk {wd:Str}{d:Dt}{pl:List Nat}{ar:Ar}{rs:List Rx}{w:List Wt}{th:List (Str×V)}{st:Int}(h:wd="let"\/wd="if"):Fe ⟨rs,w,th,st⟩ wd d pl ar=⟨rs,(w++[⟨pl,ar,true⟩])++[⟨pl++[0],ar,false⟩],th,st+1⟩:=by
 obtain⟨h1,h2⟩:=Zuo h;unfold Fe;simp only[h1,if_neg h2];simp
theorem Zj2 (S:MS)(wd:Str)(d:Dt)(pl:List Nat)(ar:Ar):Cj S wd (Dg d) pl ar=((Bv wd d pl ar S.rows).1,{ S with rows:=(Bv wd d pl ar S.rows).2 }):=by
 unfold Bv Cj;by_cases h1:wd∈(["num","truth"]:List Str)
 ·simp only[if_pos h1]
 ·simp only[if_neg h1];split <;> rfl
theorem Zoq (h:Bh wd=none):Fe ⟨rs,w,th,st⟩ wd d pl ar=⟨(Bv wd d pl ar rs).2,w,th++[(Bv wd d pl ar rs).1],st+A7 wd⟩:=by
 unfold Fe;simp only[h,Zj2];by_cases g:wd="gap"
 ·simp only[if_pos g,A7,Q6]
 ·simp only[if_neg g,A7]
theorem TOk.row (h:TOk rs.length x):Kc rs x:=λe=>by
 rcases h with⟨h,_⟩|⟨h,_⟩|⟨_,k,h1,h2⟩
 ·rw[e]at h;exact absurd h (by right)
 ·rw[e]at h;exact absurd h (by right)
 ·exact⟨k,h1,h2⟩
theorem TOk.num (h:TOk n x):Zbo x:=λe=>by
 rcases h with⟨_,h⟩|⟨h,_⟩|⟨h,_⟩
 ·exact h
 ·rw[e]at h;exact absurd h (by right)
 ·rw[e]at h;exact absurd h (by right)
structure Sm (rs:List Rx)(w:List Wt)(th:List (Str×V))(st:Int):Prop where
 r:(rs.length:Int)+4*(500-st)<=5000
 w:(w.length:Int)+3*(500-st)<=5000
 t:(th.length:Int)+2*(500-st)<=5000
 s:st<=500
theorem Sm.small {rs:List Rx}{w:List Wt}{th:List (Str×V)}{st:Int}(h:Sm rs w th st)(x:Wt):En ⟨rs,w++[x],th,st⟩:=by
 have:=h.r;have:=h.w;have:=h.t;have:=h.s;exact⟨by show rs.length<9000;lia,by show(w++[x]).length<9000;rw[Pn,Py];lia,by show th.length<9000;lia⟩
def Goes (sub:List Nat->Option (Str×Dt))(S S':MS):Prop:=∀m r,RunX sub m S' r->∃m',RunX sub m' S r
theorem Goes.step (hs:En S)(h:Dm sub S S'):Goes sub S S':=λm r R=>⟨m+1,.cons hs h R⟩
theorem Goes.trans (h:Goes sub S S')(h':Goes sub S' S2):Goes sub S S2:=λm r R=>by
 obtain⟨m1,j⟩:=h' m r R;exact h m1 r j
theorem SubOk.note (S:SubOk sub)(h:sub pl=some (wd,d)):Mp wd d:=by
 obtain⟨n1,n2,F,_⟩:=S.nt h;refine⟨λj=>?_,F⟩;simp only[Po,Px,or_false]at j;rcases j with e|e
 ·obtain⟨i,rfl⟩:=n1 e;exact⟨_,rfl⟩
 ·obtain⟨i,rfl⟩:=n2 e;exact⟨_,rfl⟩
theorem Zhz:Gc ⟨rs,w,th++[x]++[y],st⟩ wd pl th x y=⟨(Cb wd pl rs x y).2,w,th++[(Cb wd pl rs x y).1],st⟩:=by
 unfold Gc Cb;split <;> rfl
theorem Ou (S:SubOk sub):∀(n:Nat)(pl:List Nat)(ar:Ar)(rs:List Rx)(st:Int),EOk sub ar rs st->501<=st+n->(sub pl).isSome=true->∀(w:List Wt)(th:List (Str×V)),Sm rs w th st ->
  (∀o,ev sub 500 n pl ar rs st=some o->Goes sub ⟨rs,w++[⟨pl,ar,false⟩],th,st⟩ ⟨o.2.1,w,th++[o.1],o.2.2⟩)/\(ev sub 500 n pl ar rs st=none->∃m,RunX sub m ⟨rs,w++[⟨pl,ar,false⟩],th,st⟩ none)
 |0,_,_,_,st,E,hn,_,w,th,Z=>by have:=Z.s;lia
 |n+1,pl,ar,rs,st,E,hn,hp,w,th,Z=>by
  have ih:=Ou S n;obtain⟨⟨wd,d⟩,hs⟩:=Sf.mp hp;have ae:0<=A7 wd/\A7 wd<=1/\(A7 wd=1->wd≠"gap")/\(wd≠"gap" -> A7 wd=1):=by
   unfold A7;by_cases g:wd="gap"
   ·rw[if_pos g];exact⟨by lia,by lia,λh=>by lia,λh=>absurd g h⟩
   ·rw[if_neg g];exact⟨by lia,by lia,λ_=>g,λ_=>rfl⟩
  have z1:=Z.r;have z2:=Z.w;have z3:=Z.t;have z4:=Z.s;rw[ev,hs,Pr];by_cases h1:(500:Int)<st+A7 wd
  ·simp only[if_pos h1];refine⟨(λo h=>by cases h),λ_=>⟨0,.last (Z.small _) rfl rfl hs (ae.2.2.1 (by lia)) (by show(500:Int)<st+1;lia)⟩⟩
  simp only[if_neg h1];have cm:Dm sub ⟨rs,w++[⟨pl,ar,false⟩],th,st⟩ (Fe ⟨rs,w,th,st⟩ wd d pl ar):=.come (S:=⟨rs,w++[⟨pl,ar,false⟩],th,st⟩) rfl rfl hs (S.note hs) (λg=>by show st+1<=500;have:=ae.2.2.2 g;lia);have Y:=Goes.step (Z.small _) cm;by_cases h2:wd∈Br
  ·simp only[if_pos h2];have e1:=Ds (.inl h2);rw[Zow h2]at Y;have m0:wd∈(["plus","minus","less","call","let","if","fn","rec"]:List Str)/\wd∈(["plus","minus","less","call","let","if"]:List Str):=by
    unfold Br at h2;simp only[Po,Px,or_false]at h2;rcases h2 with rfl|rfl|rfl|rfl <;> exact⟨by right,by right⟩
   obtain⟨p0,ad⟩:=S.p0 hs m0.1;obtain⟨p1,aa⟩:=S.p1 hs m0.2;have Za:Sm rs (w++[⟨pl,ar,true⟩]++[⟨pl++[1],ar,false⟩]) th (st+1):=⟨by lia,by rw[Pn,Pn,Py,Py];lia,by lia,by lia⟩;obtain⟨ga,na⟩:=ih (pl++[0]) ar rs (st+1) E.up (by lia) (by rw[ad];rfl) _ _ Za;cases O:ev sub 500 n (pl++[0]) ar rs (st+1) with
   |none =>
    refine⟨(λo h=>by cases h),λ_=>?_⟩;obtain⟨m,R⟩:=na O;exact Y m _ R
   |some a =>
   have ta:=B0 S n _ _ _ _ _ E.up O;have Ea:=E.up.on ta;have q1:=ta.s;have q2:=ta.m;have q3:=ta.b;have g1:=Y.trans (ga a O);have Zb:Sm a.2.1 (w++[⟨pl,ar,true⟩]) (th++[a.1]) a.2.2:=⟨by lia,by rw[Pn,Py];lia,by rw[Pn,Py];lia,q3⟩;obtain⟨gb,nb⟩:=ih (pl++[1]) ar a.2.1 a.2.2 Ea (by lia) (by rw[aa];rfl) _ _ Zb;rw[Pr];cases hb:ev sub 500 n (pl++[1]) ar a.2.1 a.2.2 with
   |none =>
    refine⟨(λo h=>by cases h),λ_=>?_⟩;obtain⟨m,R⟩:=nb hb;exact g1 m _ R
   |some b =>
   have tb:=B0 S n _ _ _ _ _ Ea hb;have Eb:=Ea.on tb;have r1:=tb.s;have r2:=tb.m;have r3:=tb.b;have g2:=g1.trans (gb b hb);have F:En ⟨b.2.1,w++[⟨pl,ar,true⟩],th++[a.1]++[b.1],b.2.2⟩:=⟨by show b.2.1.length<9000;lia,by show(w++[_]).length<9000;rw[Pn,Py];lia,by show(th++[a.1]++[b.1]).length<9000;rw[Pn,Pn,Py,Py];lia⟩;have I:ar.length<=9000:=by have:=E.l;lia
   rw[Pr];have tx:=ta.t.up tb.l;by_cases h4:wd="call"/\Bs b.2.1 a.1=true
   ·rw[if_pos h4];obtain⟨k,r,ex,hr,hf⟩:=Ha h4.2 tx;obtain⟨d',ac,aj,hc⟩:=Go (y:=b.1) hr hf tb.r;have am:=((tb.r k r hr).2.2 hf).1;have j:Dm sub ⟨b.2.1,w++[⟨pl,ar,true⟩],th++[a.1]++[b.1],b.2.2⟩ _:=.further (S:=⟨b.2.1,w++[⟨pl,ar,true⟩],th++[a.1]++[b.1],b.2.2⟩) rfl rfl hs (.calls (k:=k) (y:=b.1) (th:=th) h4.1 (by show th++[a.1]++[b.1]=_;rw[ex,P8];rfl) hr hf aj ac (S.nt ac).2.2.2 (by lia)) I;have g3:=g2.trans (Goes.step F j);rw[ex,hc,Pr];have Ec:=G0 (d:=d') Eb hr hf tb.t;have al:r.wd∈(["plus","minus","less","call","let","if","fn","rec"]:List Str):=by
     simp only[Po,Px,or_false]at hf ⊢;rcases hf with h|h
     ·exact .inr (.inr (.inr (.inr (.inr (.inr (.inl h))))))
     ·exact .inr (.inr (.inr (.inr (.inr (.inr (.inr h))))))
    obtain⟨pc,ak⟩:=S.p0 ac al;obtain⟨gc,nc⟩:=ih _ _ b.2.1 b.2.2 Ec (by lia) (by rw[ak];rfl) w th ⟨by lia,by lia,by lia,r3⟩;refine⟨λo h=>g3.trans (gc o h),λh=>?_⟩;obtain⟨m,R⟩:=nc h;exact g3 m _ R
   ·rw[if_neg h4];refine⟨λo h=>?_,(λh=>by cases h)⟩;cases h;have ag:wd∈Fd\/wd="call"/\Bs b.2.1 a.1=false:=by
     by_cases hc:wd="call"
     ·exact .inr ⟨hc,by cases hq:Bs b.2.1 a.1 with|false=>rfl|true=>exact absurd ⟨hc,hq⟩ h4⟩
     ·refine .inl ?_;unfold Br at h2;unfold Fd;simp only[Po,Px,or_false]at h2 ⊢;rcases h2 with h|h|h|h
      ·exact .inl h
      ·exact .inr (.inl h)
      ·exact .inr (.inr h)
      ·exact absurd h hc
    have j:Dm sub ⟨b.2.1,w++[⟨pl,ar,true⟩],th++[a.1]++[b.1],b.2.2⟩ _:=.further (S:=⟨b.2.1,w++[⟨pl,ar,true⟩],th++[a.1]++[b.1],b.2.2⟩) rfl rfl hs (.two (x:=a.1) (y:=b.1) (th:=th) ag (by show th++[a.1]++[b.1]=_;rw[P8];rfl) tx.row tx.num tb.t.num) I;rw[Zhz]at j;exact g2.trans (Goes.step F j)
  simp only[if_neg h2];by_cases h3:wd="let"\/wd="if"
  ·have e1:=Ds (.inr h3);rw[Zlk h3]at Y;have m0:wd∈(["plus","minus","less","call","let","if","fn","rec"]:List Str)/\wd∈(["plus","minus","less","call","let","if"]:List Str):=by rcases h3 with rfl|rfl <;> exact⟨by right,by right⟩
   obtain⟨p0,ad⟩:=S.p0 hs m0.1;obtain⟨p1,aa⟩:=S.p1 hs m0.2;have Za:Sm rs (w++[⟨pl,ar,true⟩]) th (st+1):=⟨by lia,by rw[Pn,Py];lia,by lia,by lia⟩;obtain⟨ga,na⟩:=ih (pl++[0]) ar rs (st+1) E.up (by lia) (by rw[ad];rfl) _ _ Za;have I:ar.length<=9000:=by have:=E.l;lia
   by_cases h5:wd="let"
   ·simp only[if_pos h5];cases O:ev sub 500 n (pl++[0]) ar rs (st+1) with
    |none =>
     refine⟨(λo h=>by cases h),λ_=>?_⟩;obtain⟨m,R⟩:=na O;exact Y m _ R
    |some a =>
    have ta:=B0 S n _ _ _ _ _ E.up O;have Ea:=E.up.on ta;have q1:=ta.s;have q2:=ta.m;have q3:=ta.b;have g1:=Y.trans (ga a O);have F:En ⟨a.2.1,w++[⟨pl,ar,true⟩],th++[a.1],a.2.2⟩:=⟨by show a.2.1.length<9000;lia,by show(w++[_]).length<9000;rw[Pn,Py];lia,by show(th++[a.1]).length<9000;rw[Pn,Py];lia⟩;have j:Dm sub ⟨a.2.1,w++[⟨pl,ar,true⟩],th++[a.1],a.2.2⟩ _:=.further (S:=⟨a.2.1,w++[⟨pl,ar,true⟩],th++[a.1],a.2.2⟩) rfl rfl hs (.lets (x:=a.1) (th:=th) h5 rfl (S.nt hs).2.2.2) I;have g3:=g1.trans (Goes.step F j);rw[Pr];have Ec:=Ea.put ta.t (by have:=E.l;lia) (Cd wd d 1);obtain⟨gc,nc⟩:=ih (pl++[1]) _ a.2.1 a.2.2 Ec (by lia) (by rw[aa];rfl) w th ⟨by lia,by lia,by lia,q3⟩;refine⟨λo h=>g3.trans (gc o h),λh=>?_⟩;obtain⟨m,R⟩:=nc h;exact g3 m _ R
   ·have h6:wd="if":=by rcases h3 with h|h;exact absurd h h5;exact h
    simp only[if_neg h5,if_pos h6];obtain⟨p2,ah⟩:=S.p2 hs h6;cases O:ev sub 500 n (pl++[0]) ar rs (st+1) with
    |none =>
     refine⟨(λo h=>by cases h),λ_=>?_⟩;obtain⟨m,R⟩:=na O;exact Y m _ R
    |some a =>
    have ta:=B0 S n _ _ _ _ _ E.up O;have Ea:=E.up.on ta;have q1:=ta.s;have q2:=ta.m;have q3:=ta.b;have g1:=Y.trans (ga a O);have F:En ⟨a.2.1,w++[⟨pl,ar,true⟩],th++[a.1],a.2.2⟩:=⟨by show a.2.1.length<9000;lia,by show(w++[_]).length<9000;rw[Pn,Py];lia,by show(th++[a.1]).length<9000;rw[Pn,Py];lia⟩;rw[Pr];by_cases h7:a.1.1="truth"
    ·rw[if_pos h7];obtain⟨U,af⟩:∃U,a.1=(("truth":Str),V.bl U):=by
      rcases ta.t with⟨h,_⟩|⟨_,U,h⟩|⟨h,_⟩
      ·rw[h7]at h;exact absurd h (by right)
      ·exact⟨U,by rw[<- h7,<- h]⟩
      ·rw[h7]at h;exact absurd h (by right)
     have eb:(if a.1.2=V.bl true then 1 else 2)=(if U=true then 1 else 2):=by rw[af];cases U <;> rfl
     have j:Dm sub ⟨a.2.1,w++[⟨pl,ar,true⟩],th++[a.1],a.2.2⟩ _:=.further (S:=⟨a.2.1,w++[⟨pl,ar,true⟩],th++[a.1],a.2.2⟩) rfl rfl hs (.ifs (b:=U) (th:=th) h6 (by rw[af]) (S.nt hs).2.2.2) I;have g3:=g1.trans (Goes.step F j);have ez:Bt (Cd wd d (if U then 1 else 2:Nat)) []=[]:=by unfold Bt;exact List.zip_nil_right
     unfold Hk at g3;rw[ez,Q0]at g3;rw[eb];have ai:(sub (pl++[if U=true then 1 else 2])).isSome=true:=by
      cases U with
      |false=>show(sub (pl++[2])).isSome=true;rw[ah];rfl
      |true=>show(sub (pl++[1])).isSome=true;rw[aa];rfl
     obtain⟨gc,nc⟩:=ih (pl++[if U=true then 1 else 2]) ar a.2.1 a.2.2 Ea (by lia) ai w th ⟨by lia,by lia,by lia,q3⟩;refine⟨λo h=>g3.trans (gc o h),λh=>?_⟩;obtain⟨m,R⟩:=nc h;exact g3 m _ R
    ·rw[if_neg h7];refine⟨λo h=>?_,(λh=>by cases h)⟩;cases h;have j:Dm sub ⟨a.2.1,w++[⟨pl,ar,true⟩],th++[a.1],a.2.2⟩ _:=.further (S:=⟨a.2.1,w++[⟨pl,ar,true⟩],th++[a.1],a.2.2⟩) rfl rfl hs (.ifr (x:=a.1) (th:=th) h6 rfl h7) I;exact g1.trans (Goes.step F j)
  ·have h5:¬wd="let":=λh=>h3 (.inl h);have h6:¬wd="if":=λh=>h3 (.inr h);simp only[if_neg h5,if_neg h6];rw[Zoq (Zc6 h2 h5 h6)]at Y;refine⟨λo h=>?_,(λh=>by cases h)⟩;cases h;exact Y
theorem Dd {t:TS}{X:St->Hp->Prop}{rt:VK}{bk ct:St->Hp->Prop}{σ:St}{H:Hp}(R:St->Hp->Prop)(h2:∀σ' H',R σ' H'->X σ' H')(h1:∀Y:St->Hp->Prop,(∀σ' H',R σ' H'->Y σ' H')->t ⟨Y,rt,bk,ct⟩ σ H):t ⟨X,rt,bk,ct⟩ σ H:=h1 X h2
def PrW (K:Pg)(H:Hp)(v:V)(x:Str×Str):Prop:=∃a,v=.ref a/\SqT K H a [.str x.1,.str x.2]
theorem PrW.same (s:SameT H H')(v:V)(x:Str×Str)(h:PrW K H v x):PrW K H' v x:=let ⟨a,e,q⟩:=h;⟨a,e,s.tup q⟩
def BdAt (K:Pg)(H:Hp)(b:Addr)(n:Nat):Prop:=∃bs zs,H b=some (.lst bs)/\Al (PrW K H) bs zs/\bs.length<=n
theorem BdAt.same (h:BdAt K H b n)(s:Same H H'):BdAt K H' b n:=let ⟨bs,zs,e,al,l⟩:=h;⟨bs,zs,s _ _ e,al.mono (PrW.same s.t),l⟩
noncomputable def Gs (w:Str):Option Nat:=if w∈(["gap","odd","num","truth","name"]:List Str) then some 0 else if w∈(["plus","minus","less","call","let"]:List Str) then some 2 else if w∈(["fn","rec"]:List Str) then some 1 else if w="if" then some 3 else none
structure C4 (w:Str)(n:Dt)(k:Nat):Prop where
 p:Gs w=some k
 i:w="num" -> ∃i,n=.flat (.int i)
 t:w="truth" -> ∃b,n=.flat (.bl b)
 z:w="name" -> ∃z,n=.flat (.str z)
 b:Fl w n
inductive Tf:Tr->Prop
 |mk {w:Str} {n:Dt} {ps:List Tr} (h:C4 w n ps.length) (hs:∀t,t∈ps->Tf t):Tf (.mk w n ps)
theorem bk {wd:Str}{d:Dt}(h:wd≠"fn"/\wd≠"let"/\wd≠"rec"):Fl wd d:=⟨λz=>z.elim (λz=>absurd z h.1) (λz=>absurd z h.2.1),λz=>absurd z h.2.2⟩
theorem Gu (hp:Gs wd=some k)(h:wd≠"num"/\wd≠"truth"/\wd≠"name")(hb:Fl wd d):C4 wd d k:=⟨hp,λz=>absurd z h.1,λz=>absurd z h.2.1,λz=>absurd z h.2.2,hb⟩
theorem Zfl:C4 "gap" (.flat .non) 0:=Gu (by right) (by right) (bk (by right))
theorem Zd8:C4 "odd" (.flat v) 0:=Gu (by right) (by right) (bk (by right))
theorem Zid:C4 "num" (.flat (.int i)) 0:=⟨by right,λ_=>⟨i,rfl⟩,λz=>absurd z (by right),λz=>absurd z (by right),bk (by right)⟩
theorem Zf8:C4 "truth" (.flat (.bl b)) 0:=⟨by right,λz=>absurd z (by right),λ_=>⟨b,rfl⟩,λz=>absurd z (by right),bk (by right)⟩
theorem Oa:C4 "name" (.flat (.str x)) 0:=⟨by right,λz=>absurd z (by right),λz=>absurd z (by right),λ_=>⟨x,rfl⟩,bk (by right)⟩
theorem w_fn:C4 "fn" (.flat (.str x)) 1:=Gu (by right) (by right) ⟨λ_=>⟨x,rfl⟩,λz=>absurd z (by right)⟩
theorem Zsc:C4 "let" (.flat (.str x)) 2:=Gu (by right) (by right) ⟨λ_=>⟨x,rfl⟩,λz=>absurd z (by right)⟩
theorem Zd6:C4 "rec" (.tup [.flat (.str y),.flat (.str x)]) 1:=Gu (by right) (by right) ⟨λz=>absurd z (by right),λ_=>⟨y,x,rfl⟩⟩
theorem w_if:C4 "if" (.flat .non) 3:=Gu (by right) (by right) (bk (by right))
theorem Zb9 (h:wd∈Br):C4 wd (.flat .non) 2:=by
 unfold Br at h;simp only[Po,Px,or_false]at h;rcases h with rfl|rfl|rfl|rfl <;> exact Gu (by right) (by right) (bk (by right))
theorem Ni (h:C4 wd (.flat nv) 0):Tf (.mk wd (.flat nv) []):=.mk h (λt j=>nomatch j)
def SameR (r:Addr)(H H':Hp):Prop:=∀b o,b≠r->H b=some o->H' b=some o
structure FR (a:Addr)(H H':Hp):Prop where
 r:SameR a H H'
 e:∃cs:List Int,H' a=some (.lst (cs.map V.int))/\cs.length<=63
theorem FR.trans (x:FR a H H1)(y:FR a H1 H2):FR a H H2:=⟨λb o n h=>y.r b o n (x.r b o n h),y.e⟩
theorem FR.put (x:FR a H H1)(s:Same H1 H2):FR a H H2:=⟨λb o n h=>s b o (x.r b o n h),let ⟨cs,e,l⟩:=x.e;⟨cs,s _ _ e,l⟩⟩
structure FS (K:Pg)(H:Hp)(a ar pn:Addr)(ts:List Str)(m:Nat):Prop where
 e:∃cs:List Int,H a=some (.lst (cs.map V.int))/\cs.length<=63
 bd:BdAt K H ar m
 na:ar≠a
 hp:H pn=some (.lst (ts.map V.str))
 np:pn≠a
 lt:ts.length=5
theorem FR.refl (S:FS K H a ar pn ts m):FR a H H:=⟨λ_ _ _ h=>h,S.e⟩
theorem FR.t (x:FR a H H')(h:∃cs:List Int,H a=some (.lst (cs.map V.int))/\cs.length<=63):SameT H H':=λb=>by
 obtain⟨cs,e,_⟩:=h;exact⟨λxs j=>x.r b _ (λz=>by rw[z,e]at j;cases j) j,λo u j=>x.r b _ (λz=>by rw[z,e]at j;cases j) j⟩
theorem FS.step (S:FS K H a ar pn ts m)(x:FR a H H'):FS K H' a ar pn ts m:=by
 obtain⟨bs,zs,b1,b2,j⟩:=S.bd;exact⟨x.e,⟨bs,zs,x.r _ _ S.na b1,b2.mono (PrW.same (x.t S.e)),j⟩,S.na,x.r _ _ S.np S.hp,S.np,S.lt⟩
theorem FS.nm (S:FS K H a ar pn ts m)(h0:0<=i)(h1:i<5):∃x:Str,Cm (ts.map V.str) i=some (.str x):=by
 obtain⟨v,F,j⟩:=G3 (xs:=ts.map V.str) h0 (by rw[Pp,S.lt];exact h1);obtain⟨x,_,rfl⟩:=Rf.mp j;exact⟨x,F⟩
theorem FS.more (S:FS K H a ar pn ts m)(b1:H ar=some (.lst bs))(b2:Al (PrW K H) bs zs)(b3:bs.length<=m)(al:Al (PrW K H) ms ws)(lm:ms.length=k)(hp:H p=none):FS K (upd H p (.lst (bs++ms))) a p pn ts (m+k):=by
 have s:Same H (upd H p (.lst (bs++ms))):=Same.upd hp;obtain⟨j,e,l⟩:=S.e;exact⟨⟨j,s _ _ e,l⟩,⟨bs++ms,zs++ws,Ae,(b2.append al).mono (PrW.same s.t),by rw[Pn];lia⟩,(λz=>by rw[z,e]at hp;cases hp),s _ _ S.hp,S.np,S.lt⟩
inductive Ztp (K:Pg)(n:Nat)(vs:List V)(H:Hp)(Q:VK)(e9:XK):Prop
 |mk (a ar pn:Addr) (ts:List Str) (m room:Nat) (so:Str) (_:vs=[.ref a,.ref ar,.ref pn,.int (room:Nat),.str so]) (_:FS K H a ar pn ts m) (_:m+2*room<=500) (_:1<=room) (_:room<=n) (_:∀v t H',FR a H H'->TrAt K H' v t->Tf t->t.size+1<=3*room->Q v H')
def Ih (K:Pg)(n:Nat):Sp:=Ztp K n
theorem Zbg (h1:H b=some (.tup [.str wd,nv,.ref p]))(hn:IsN K H nv n)(h2:H p=some (.tup us))(al:Al (TrAt K H) us ts):TrAt K H (.ref b) (.mk wd n ts):=.mk (SqT.of h1) hn (SqT.of h2) al.1 λj v t I F=>al.2 j v t I F
theorem laid (r:FR a H0 H)(hn:IsN K H nv n)(al:Al (TrAt K H) us ts)(h1:H p=none)(h2:upd H p (.tup us) b=none):FR a H0 (upd (upd H p (.tup us)) b (.tup [.str wd,nv,.ref p]))/\TrAt K (upd (upd H p (.tup us)) b (.tup [.str wd,nv,.ref p])) (.ref b) (.mk wd n ts):=by
 have F:=Same.upd (o:=.tup us) h1;have j:=Same.upd (o:=.tup [.str wd,nv,.ref p]) h2;have s:=F.trans j;exact⟨r.put s,Zbg Ae (hn.same s.t) (j _ _ Ae) (al.mono λv t h=>h.same s)⟩
theorem tf_1 (hb:C4 wd n 1)(h1:Tf t1):Tf (.mk wd n [t1]):=.mk hb λt h=>by rw[Qw.mp h];exact h1
theorem Ms (hb:C4 wd n 2)(h1:Tf t1)(h2:Tf t2):Tf (.mk wd n [t1,t2]):=.mk hb λt h=>by
 rcases Po.mp h with rfl|h
 ·exact h1
 ·rw[Qw.mp h];exact h2
theorem tf_3 (hb:C4 wd n 3)(h1:Tf t1)(h2:Tf t2)(h3:Tf t3):Tf (.mk wd n [t1,t2,t3]):=.mk hb λt h=>by
 rcases Po.mp h with rfl|h
 ·exact h1
 ·rcases Po.mp h with rfl|h
  ·exact h2
  ·rw[Qw.mp h];exact h3
theorem sz_1:(Tr.mk wd n [t1]).size=1+t1.size:=by simp[Tr.size,Bj]
theorem Zck:(Tr.mk wd n [t1,t2]).size=1+(t1.size+t2.size):=by simp[Tr.size,Bj]
theorem sz_3:(Tr.mk wd n [t1,t2,t3]).size=1+(t1.size+(t2.size+t3.size)):=by simp[Tr.size,Bj]
mutual
theorem Oy:∀(pl:List Nat)(t:Tr)(x:List Nat×Tr),x∈walk pl t->∃q,x.1=pl++q
 |pl,.mk w n ps,x,h=>by
  rw[walk]at h;rcases Po.mp h with rfl|h
  ·exact⟨[],by simp⟩
  ·exact Zfp pl 0 ps x h
theorem Zfp:∀(pl:List Nat)(i:Nat)(ts:List Tr)(x:List Nat×Tr),x∈Bk pl i ts->∃q,x.1=pl++q
 |_,_,[],x,h=>by rw[Bk]at h;exact nomatch h
 |pl,i,t::r,x,h=>by
  rw[Bk]at h;rcases Rl.mp h with h|h
  ·obtain⟨q,e⟩:=Oy (pl++[i]) t x h;exact⟨[i]++q,by rw[e,P8]⟩
  ·exact Zfp pl (i+1) r x h
end
theorem Zdz (x:List Nat×Tr)(l:List (List Nat×Tr))(pl:List Nat):Cu (x::l) pl=(Cu l pl).or (if x.1=pl then some x.2 else none):=by
 unfold Cu;rw[T6,List.find?_append];cases h:l.reverse.find? λx=>decide (x.1=pl) with
 |some y=>simp
 |none =>
  by_cases e:x.1=pl
  ·simp[e]
  ·simp[e]
theorem Zfg (h:∀x∈ws,x.1≠pl):Cu ws pl=none:=by
 unfold Cu;rw[List.find?_eq_none.mpr]
 ·rfl
 ·intro x j;rw[decide_eq_true_iff];exact h x (Wm.mp j)
noncomputable def Co:Tr->List Nat->Option Tr
 |t,[]=>some t
 |.mk _ _ ts,i::r=>match ts[i]? with
  |some t=>Co t r
  |none=>none
termination_by structural _ pl=>pl
theorem Es (t:Tr):Co t []=some t:=by rw[Co]
theorem Fj (w:Str)(n:Dt)(ts:List Tr)(i:Nat)(r:List Nat):Co (.mk w n ts) (i::r)=(ts[i]?).bind λt=>Co t r:=by
 rw[Co];cases ts[i]? <;> rfl
theorem Zuy (a b:List (List Nat×Tr))(pl:List Nat):Cu (a++b) pl=(Cu b pl).or (Cu a pl):=by
 unfold Cu;rw[Ss,List.find?_append];cases b.reverse.find? λx=>decide (x.1=pl) <;> simp
theorem Zh7:∀(pl:List Nat)(i:Nat)(ts:List Tr)(x:List Nat×Tr),x∈Bk pl i ts->∃k q,i<=k/\x.1=pl++k::q
 |_,_,[],x,h=>by rw[Bk]at h;exact nomatch h
 |pl,i,t::r,x,h=>by
  rw[Bk]at h;rcases Rl.mp h with h|h
  ·obtain⟨q,e⟩:=Oy (pl++[i]) t x h;exact⟨i,q,Pj _,by rw[e,P8];rfl⟩
  ·obtain⟨k,q,j,e⟩:=Zh7 pl (i+1) r x h;exact⟨k,q,by lia,e⟩
mutual
theorem Zhq:∀(p:List Nat)(t:Tr)(q:List Nat),Cu (walk p t) (p++q)=Co t q
 |p,.mk w n ps,[]=>by
  rw[walk,Zdz,Zfg,Es,if_pos (by simp)]
  ·rfl
  ·intro x j;obtain⟨k,q,_,e⟩:=Zh7 p 0 ps x j;rw[e];intro z;have:=congrArg Th z;simp at this
 |p,.mk w n ps,k::r=>by
  rw[walk,Zdz,Zee p 0 ps k r,if_pos (Qk _),Fj,if_neg (λz=>by have:=congrArg Th z;simp at this),Option.or_none,Ui]
theorem Zee:∀(p:List Nat)(i:Nat)(ts:List Tr)(k:Nat)(r:List Nat),Cu (Bk p i ts) (p++k::r)=if i<=k then (ts[k-i]?).bind (λt=>Co t r) else none
 |p,i,[],k,r=>by
  rw[Bk];split <;> simp[Cu]
 |p,i,t::ts,k,r=>by
  rw[Bk,Zuy,Zee p (i+1) ts k r];by_cases F:k=i
  ·subst F;rw[if_neg (by lia),if_pos (Pj _),Re,Option.none_or];have:=Zhq (p++[k]) t r;rw[P8]at this;rw[show p++k::r=p++([k]++r) from rfl,this];rfl
  ·have e:Cu (walk (p++[i]) t) (p++k::r)=none:=Zfg λx I z=>by
    obtain⟨q,e⟩:=Oy _ _ _ I;rw[e,P8]at z;have:=To z;simp at this;exact F this.1.symm
   rw[e,Option.or_none];by_cases j:i<=k
   ·rw[if_pos (by lia),if_pos j,show k-i=(k-(i+1))+1 by lia];rfl
   ·rw[if_neg (by lia),if_neg j]
end
theorem Gg (t:Tr)(pl:List Nat):Bu t pl=(Co t pl).map λu=>(u.wd,Ft u):=by
 unfold Bu;rw[<- Zhq [] t pl];rfl
theorem Zse (t:Tr)(p q:List Nat):Co t (p++q)=(Co t p).bind λu=>Co u q:=by
 induction p generalizing t with
 |nil=>rw[Sx,Es];rfl
 |cons i r j =>
  cases t with
  |mk w n ts =>
   rw[Su,Fj,Fj];cases ts[i]? with
   |none=>rfl
   |some u=>exact j u
theorem Hm:∀{pl:List Nat},Tf t->Co t pl=some u->Tf u/\pl.length+u.size<=t.size:=by
 intro pl
 induction pl generalizing t with
 |nil=>intro h e;rw[Es]at e;cases e;exact⟨h,by simp⟩
 |cons i r F =>
  intro h e;cases t with
  |mk w n ts =>
   rw[Fj]at e;obtain⟨x,j,e⟩:=Pw.mp e;cases h with
   |mk I hs =>
    obtain⟨h1,h2⟩:=F (hs x (Qo j)) e;have:=Mm j;rw[Tr.size,Qc];exact⟨h1,by lia⟩
theorem Jr (h:Bu t pl=some x):∃u,Co t pl=some u/\x=(u.wd,Ft u):=by
 rw[Gg]at h;obtain⟨u,h1,h2⟩:=Rs.mp h;exact⟨u,h1,h2.symm⟩
theorem Za2 (h:Co t pl=some u)(hj:j<u.ps.length):∃x,Bu t (pl++[j])=some x:=by
 rw[Gg,Zse,h,Pr];cases u with
 |mk w n ts =>
  have hj:j<ts.length:=hj;rw[Fj,Pk hj,Pr,Es];exact⟨_,rfl⟩
theorem Lj (h:Tf u):C4 u.wd (Ft u) u.ps.length:=by cases h with|mk hw _=>exact hw
theorem Zce (h:C4 w n k):(w∈(["plus","minus","less","call","let"]:List Str)->k=2)/\(w="if" -> k=3)/\(w∈(["fn","rec"]:List Str)->k=1):=by
 have hp:=h.p;refine⟨λj=>?_,λj=>?_,λj=>?_⟩
 ·simp only[Po,Px,or_false]at j;rcases j with rfl|rfl|rfl|rfl|rfl <;> (rw[show Gs _=some 2 by right]at hp;exact(Qa hp).symm)
 ·subst j;rw[show Gs "if"=some 3 by right]at hp;exact(Qa hp).symm
 ·simp only[Po,Px,or_false]at j;rcases j with rfl|rfl <;> (rw[show Gs _=some 1 by right]at hp;exact(Qa hp).symm)
theorem Ix (h:Tf t)(hz:t.size<=5000):SubOk (Bu t):=by
 refine⟨λhs=>?_,λhs=>?_,λ{pl wd d} hs F=>?_,λ{pl wd d} hs F=>?_,λ{pl wd d} hs F=>?_⟩
 ·obtain⟨u,h1,_⟩:=Jr hs;have:=(Hm h h1).2;lia
 ·obtain⟨u,h1,e⟩:=Jr hs;have I:=Lj (Hm h h1).1;cases e;exact⟨I.i,I.t,I.z,I.b⟩
 ·obtain⟨u,h1,e⟩:=Jr hs;obtain⟨p1,p2,j⟩:=Zce (Lj (Hm h h1).1);cases e;refine Za2 h1 ?_;simp only[Po,Px,or_false]at F p1 j;rcases F with e|e|e|e|e|e|e|e
  all_goals first|(have:=p2 e;lia)|(have:=j (.inl e);lia)|(have:=j (.inr e);lia)|(have:=p1 (.inl e);lia)|(have:=p1 (.inr (.inl e));lia)|(have:=p1 (.inr (.inr (.inl e)));lia)|(have:=p1 (.inr (.inr (.inr (.inl e))));lia)|(have:=p1 (.inr (.inr (.inr (.inr e))));lia)
 ·obtain⟨u,h1,e⟩:=Jr hs;obtain⟨p1,p2,j⟩:=Zce (Lj (Hm h h1).1);cases e;refine Za2 h1 ?_;simp only[Po,Px,or_false]at F p1 j;rcases F with e|e|e|e|e|e
  all_goals first|(have:=p2 e;lia)|(have:=j (.inl e);lia)|(have:=j (.inr e);lia)|(have:=p1 (.inl e);lia)|(have:=p1 (.inr (.inl e));lia)|(have:=p1 (.inr (.inr (.inl e)));lia)|(have:=p1 (.inr (.inr (.inr (.inl e))));lia)|(have:=p1 (.inr (.inr (.inr (.inr e))));lia)
 ·obtain⟨u,h1,e⟩:=Jr hs;obtain⟨p1,p2,j⟩:=Zce (Lj (Hm h h1).1);cases e;refine Za2 h1 ?_;have:=p2 F;lia
theorem Ztu (h:Tf t)(hz:t.size<=2000):∃m,RunX (Bu t) m ⟨[],[⟨[],[],false⟩],[],0⟩ ((ev (Bu t) 500 501 [] [] [] 0).map λo=>⟨o.2.1,[],[o.1],o.2.2⟩):=by
 have S:=Ix h (by lia);have E:EOk (Bu t) [] [] 0:=⟨(λy F=>nomatch F),by show((0:Nat):Int)<=2*0;decide,(λk r j=>by simp at j),Qu _⟩;have hp:(Bu t []).isSome=true:=by rw[Gg,Es];rfl
 obtain⟨g,n⟩:=Ou S 501 [] [] [] 0 E (by lia) hp [] [] ⟨by show((0:Nat):Int)+4*(500-0)<=5000;decide,by show((0:Nat):Int)+3*(500-0)<=5000;decide,by show((0:Nat):Int)+2*(500-0)<=5000;decide,by decide⟩;cases e:ev (Bu t) 500 501 [] [] [] 0 with
 |none=>exact n e
 |some o=>exact g o e 0 _ (.nil rfl)
theorem Zp2:(D3 wd i j).1≠"row":=by
 unfold D3;split
 ·show("num":Str)≠"row";right
 split
 ·show("num":Str)≠"row";right
 ·show("truth":Str)≠"row";right
theorem Zdb (S:SubOk sub):∀(m n:Nat)(pl:List Nat)(ar:Ar)(rs:List Rx)(st:Int)(o:Er),EOk sub ar rs st->B+1<=st+n->st<=B->ev sub B' m pl ar rs st=some o->o.2.2<=B->ev sub B n pl ar rs st=some o:=by
 intro m
 induction m with
 |zero=>intro n pl ar rs st o _ _ _ h;rw[ev]at h;cases h
 |succ m F =>
  intro n pl ar rs st o E hn ac h j;obtain⟨n,rfl⟩:∃k,n=k+1:=⟨n-1,by lia⟩;cases U:sub pl with
  |none=>rw[ev,U]at h;cases h
  |some f =>
  obtain⟨wd,d⟩:=f;have aa:=Zi0 S E U h;rw[ev,U]at h ⊢;simp only[Pr]at h ⊢;by_cases h1:B'<st+A7 wd
  ·rw[if_pos h1]at h;cases h
  rw[if_neg h1]at h;rw[if_neg (show ¬B<st+A7 wd by lia)];have ad:0<=A7 wd:=by unfold A7;split <;> decide
  by_cases h2:wd∈Br
  ·rw[if_pos h2]at h ⊢;have e1:=Ds (.inl h2);obtain⟨a,I,h⟩:=Pw.mp h;obtain⟨b,hb,h⟩:=Pw.mp h;have ta:=B0 S m _ _ _ _ _ E.up I;have tb:=B0 S m _ _ _ _ _ (E.up.on ta) hb;have u1:=ta.s;have u2:=tb.s;by_cases O:wd="call"/\Bs b.2.1 a.1=true
   ·rw[if_pos O]at h;obtain⟨c,hc,h⟩:=Pw.mp h;obtain⟨k,r,ex,hr,hf⟩:=Ha O.2 (ta.t.up tb.l);obtain⟨d',_,_,Z⟩:=Go (y:=b.1) hr hf tb.r;have Y:=G0 (d:=d') ((E.up.on ta).on tb) hr hf tb.t;rw[ex,Z]at hc;cases hc;have tc:=B0 S m _ _ _ _ _ Y h;have u3:=tc.s;rw[F n _ _ _ _ _ E.up (by lia) (by lia) I (by lia),Pr,F n _ _ _ _ _ (E.up.on ta) (by lia) (by lia) hb (by lia),Pr,if_pos O,ex,Z,Pr];exact F n _ _ _ _ _ Y (by lia) (by lia) h j
   ·rw[if_neg O]at h;cases h;have j:b.2.2<=B:=j;rw[F n _ _ _ _ _ E.up (by lia) (by lia) I (by lia),Pr,F n _ _ _ _ _ (E.up.on ta) (by lia) (by lia) hb (by lia),Pr,if_neg O]
  rw[if_neg h2]at h ⊢;by_cases h3:wd="let"
  ·rw[if_pos h3]at h ⊢;have e1:=Ds (.inr (.inl h3));obtain⟨a,I,h⟩:=Pw.mp h;have ta:=B0 S m _ _ _ _ _ E.up I;have Y:=(E.up.on ta).put ta.t (by have:=E.l;have:=ta.s;lia) (Cd wd d 1);have tb:=B0 S m _ _ _ _ _ Y h;have u1:=ta.s;have u2:=tb.s;rw[F n _ _ _ _ _ E.up (by lia) (by lia) I (by lia),Pr];exact F n _ _ _ _ _ Y (by lia) (by lia) h j
  rw[if_neg h3]at h ⊢;by_cases O:wd="if"
  ·rw[if_pos O]at h ⊢;have e1:=Ds (.inr (.inr O));obtain⟨a,I,h⟩:=Pw.mp h;have ta:=B0 S m _ _ _ _ _ E.up I;have u1:=ta.s;by_cases h6:a.1.1="truth"
   ·rw[if_pos h6]at h;have tb:=B0 S m _ _ _ _ _ (E.up.on ta) h;have u2:=tb.s;rw[F n _ _ _ _ _ E.up (by lia) (by lia) I (by lia),Pr,if_pos h6];exact F n _ _ _ _ _ (E.up.on ta) (by lia) (by lia) h j
   ·rw[if_neg h6]at h;cases h;have j:a.2.2<=B:=j;rw[F n _ _ _ _ _ E.up (by lia) (by lia) I (by lia),Pr,if_neg h6]
  rw[if_neg O]at h ⊢;exact h
section
variable {sub:List Nat->Option (Str×Dt)}{B:Int}{n:Nat}{pl:List Nat}{ar:Ar}{rs:List Rx}{st:Int}{wd:Str}{d:Dt}(hs:sub pl=some (wd,d))
include hs
theorem Zil (h:¬B<st+A7 wd)(h2:wd∈Br):ev sub B (n+1) pl ar rs st=(ev sub B n (pl++[0]) ar rs (st+1)).bind λa=>(ev sub B n (pl++[1]) ar a.2.1 a.2.2).bind λb=>if wd="call"/\Bs b.2.1 a.1=true then (Ie sub b.2.1 a.1 b.1).bind λc=>ev sub B n c.1 c.2 b.2.1 b.2.2 else some ((Cb wd pl b.2.1 a.1 b.1).1,(Cb wd pl b.2.1 a.1 b.1).2,b.2.2):=by
 rw[ev,hs];simp only[Pr,if_neg h,if_pos h2]
theorem Zs0 (h:¬B<st+A7 wd)(h2:wd="let"):ev sub B (n+1) pl ar rs st=(ev sub B n (pl++[0]) ar rs (st+1)).bind λa=>ev sub B n (pl++[1]) (ar++Bt (Cd wd d 1) [a.1]) a.2.1 a.2.2:=by
 rw[ev,hs];simp only[Pr,if_neg h,if_neg (show ¬wd∈Br by rw[h2];right),if_pos h2]
theorem Zes (h:¬B<st+A7 wd)(h2:wd="if"):ev sub B (n+1) pl ar rs st=(ev sub B n (pl++[0]) ar rs (st+1)).bind λa=>if a.1.1="truth" then ev sub B n (pl++[if a.1.2=.bl true then 1 else 2]) ar a.2.1 a.2.2 else some ((("row":Str),.int (a.2.1.length:Nat)),a.2.1++[⟨wd,A1 pl,[a.1],ar⟩],a.2.2):=by
 rw[ev,hs];simp only[Pr,if_neg h,if_neg (show ¬wd∈Br by rw[h2];right),if_neg (show ¬wd="let" by rw[h2];right),if_pos h2]
theorem Znl (h:¬B<st+A7 wd)(h2:¬wd∈Br)(h3:¬wd="let")(h4:¬wd="if"):ev sub B (n+1) pl ar rs st=some ((Bv wd d pl ar rs).1,(Bv wd d pl ar rs).2,st+A7 wd):=by
 rw[ev,hs];simp only[Pr,if_neg h,if_neg h2,if_neg h3,if_neg h4]
end
theorem Fi (sub:List Nat->Option (Str×Dt)):EOk sub [] [] 0:=⟨(λy j=>nomatch j),by show((0:Nat):Int)<=2*0;decide,(λk r F=>by simp at F),Qu _⟩
def RLt (rs:List Rx):Prop:=∀(k:Nat)(r:Rx),rs[k]?=some r->AOk k r.ar/\∀x∈r.ops,TOk k x
theorem RLt.snoc (h:RLt rs)(h1:AOk rs.length r.ar)(h2:∀x∈r.ops,TOk rs.length x):RLt (rs++[r]):=λk x j=>by
 by_cases e:k<rs.length
 ·rw[Qd e]at j;exact h k x j
 ·rw[Qn (by lia)]at j;have:k-rs.length=0:=by
   by_cases z:k-rs.length=0
   ·exact z
   ·rw[List.getElem?_eq_none (by simp;lia)]at j;cases j
  rw[this]at j;cases j;have:k=rs.length:=by lia
  subst this;exact⟨h1,h2⟩
theorem Ztn (h:RLt rs)(ha:AOk rs.length ar):RLt (Bv wd d pl ar rs).2:=by
 unfold Bv Cj;have row:RLt (rs++[(⟨wd,A1 pl,[],if wd∈WA then ar else []⟩:Rx)]):=h.snoc (by
  show AOk rs.length (if wd∈WA then ar else []);split
  ·exact ha
  ·exact λy F=>nomatch F) (λx j=>nomatch j)
 split
 ·exact h
 ·split
  ·exact h
  ·exact row
theorem Gn (S:SubOk sub):∀(n:Nat)(pl:List Nat)(ar:Ar)(rs:List Rx)(st:Int)(o:Er),EOk sub ar rs st->RLt rs->ev sub B n pl ar rs st=some o->RLt o.2.1
 |0,_,_,_,_,_,_,_,h=>by rw[ev]at h;cases h
 |n+1,pl,ar,rs,st,o,E,L,h=>by
  have I:=Gn (B:=B) S n;have it:=B0 (B:=B) S n;rw[ev]at h;cases hs:sub pl with
  |none=>rw[hs]at h;cases h
  |some f =>
  obtain⟨wd,d⟩:=f;rw[hs]at h;simp only[Pr]at h;by_cases h1:B<st+A7 wd
  ·rw[if_pos h1]at h;cases h
  rw[if_neg h1]at h;by_cases h2:wd∈Br
  ·rw[if_pos h2]at h;obtain⟨a,j,h⟩:=Pw.mp h;obtain⟨b,Z,h⟩:=Pw.mp h;have ta:=it _ _ _ _ _ E.up j;have la:=I _ _ _ _ _ E.up L j;have tb:=it _ _ _ _ _ (E.up.on ta) Z;have Y:=I _ _ _ _ _ (E.up.on ta) la Z;have Eb:=(E.up.on ta).on tb;by_cases F:wd="call"/\Bs b.2.1 a.1=true
   ·rw[if_pos F]at h;obtain⟨k,r,ex,hr,hf⟩:=Ha F.2 (ta.t.up tb.l);obtain⟨d',_,_,hc⟩:=Go (y:=b.1) hr hf tb.r;rw[ex,hc,Pr]at h;exact I _ _ _ _ _ (G0 Eb hr hf tb.t) Y h
   ·rw[if_neg F]at h;cases h;show RLt (Cb wd pl b.2.1 a.1 b.1).2;unfold Cb;split
    ·exact Y
    ·refine Y.snoc (λy hy=>nomatch hy) λx O=>?_;simp only[Po,Px,or_false]at O;rcases O with rfl|rfl
     ·exact ta.t.up tb.l
     ·exact tb.t
  rw[if_neg h2]at h;by_cases U:wd="let"
  ·rw[if_pos U]at h;have F:=Ds (.inr (.inl U));obtain⟨a,j,h⟩:=Pw.mp h;have ta:=it _ _ _ _ _ E.up j;have la:=I _ _ _ _ _ E.up L j;exact I _ _ _ _ _ ((E.up.on ta).put ta.t (by have:=E.l;have:=ta.s;lia) _) la h
  rw[if_neg U]at h;by_cases F:wd="if"
  ·rw[if_pos F]at h;obtain⟨a,j,h⟩:=Pw.mp h;have ta:=it _ _ _ _ _ E.up j;have la:=I _ _ _ _ _ E.up L j;by_cases h6:a.1.1="truth"
   ·rw[if_pos h6]at h;exact I _ _ _ _ _ (E.up.on ta) la h
   ·rw[if_neg h6]at h;cases h;exact la.snoc (E.up.on ta).a λx O=>by
     simp only[Po,Px,or_false]at O;rw[O];exact ta.t
  rw[if_neg F]at h;cases h;exact Ztn L E.a
section
variable {P:Program}{w:World}{K:Pg}{mg:Str->Option Value}{base:Heap}
noncomputable def Bb (bc:List (Str×V))(x:Str×V):Str×V:=if x.1="row" then (match x.2 with|.int k=>(bc[k.toNat]?).getD x|_=>x) else x
def Jl (n:Nat)(x:Str×V):Prop:=x.1="row" -> ∃k:Nat,x.2=.int (k:Nat)/\k<n
inductive Jnow (K:Pg)(vs:List V)(H:Hp)(Q:VK)(e9:XK):Prop
 |mk (tv:V) (b:Addr) (bv:List V) (x:Str×V) (bc:List (Str×V)) (_:vs=[tv,.ref b]) (_:ThAt K H tv x) (_:SqL K H b bv) (_:Al (ThAt K H) bv bc) (_:Jl bc.length x) (_:∀v,ThAt K H v (Bb bc x)->Q v H)
def Zbe (K:Pg):Sp:=Jnow K
theorem Zqn:A9 ["thing","became"] ["thing","became"] (A5 Ly):=by walk_at "sc"
theorem Ztm (F:Fun K "thing_now" "thing_now" Ly f fd)(T:Txt K mg):FnOk P w K mg base Aq 1 f fd ["thing","became"] (Zbe K):=by
 refine F.okq Zqn (λvs H Q E h=>?_) (λaa A outer s H vs Q E hr h=>?_)
 ·obtain⟨tv,b,O,x,bc,rfl,_⟩:=h;rfl
 ·obtain⟨tv,b,O,x,bc,rfl,ht,hb,al,ok,q⟩:=h;refine⟨_,Af (An (Nl (Az (Ba K hr.u200) (Ah K (qv 0) Ac) Am (Ax _)) (Ah K (qv 1) (Ah K (qv 0) Ac)) (qv 0))),?_⟩;obtain⟨hf,a,rfl,Y⟩:=ht;left;unfold Ir;left;refine Aw Y rfl ?_;left;rw[Bl];by_cases I:x.1="row"
  ·obtain⟨k,Z,U⟩:=ok I;have j:k<O.length:=by rw[al.1];exact U
   have hx:=al.2 k O[k] bc[k] (Pk j) (Pk U);have en:Bb bc x=bc[k]:=by
    unfold Bb;rw[if_pos I,Z];simp[Pk U]
   rw[decide_eq_true I];left;refine Aw Y rfl ?_;rw[Z];refine Bd hb (Ck (Pk j)) ?_;exact q _ (by rw[en];exact hx)
  ·rw[decide_eq_false I];left;refine q _ ?_;unfold Bb;rw[if_neg I];exact⟨hf,a,rfl,Y⟩
noncomputable def Cz (bc ops:List (Str×V)):List (Str×V):=ops.map (Bb bc)
noncomputable def A0 (bc:List (Str×V))(ar:List (Str×Str×V)):List (Str×Str×V):=ar.map λy=>(y.1,Bb bc y.2)
inductive RowG (sub:List Nat->Option (Str×Dt))(fl:List Nat)(bc:List (Str×V))(r:Rx)(S:MS):MS->Str×V->Prop where
 |fill {n:Nat} {S':MS} {th:List (Str×V)} {x:Str×V} (hp:r.pl=A1 fl) (R:RunM sub n { S with wait:=S.wait++[⟨fl,A0 bc r.ar,false⟩] } S') (hx:S'.things=th++[x]):RowG sub fl bc r S { S' with things:=th } x
 |parts {pl:List Nat} {n:Nat} {S':MS} {th:List (Str×V)} {x:Str×V} (hp:r.pl=A1 pl) (hn:r.pl≠A1 fl) (hw:(Bh r.wd).isSome=true) (R:RunM sub n { S with things:=S.things++Cz bc r.ops,wait:=S.wait++[⟨pl,A0 bc r.ar,true⟩] } S') (hx:S'.things=th++[x]):RowG sub fl bc r S { S' with things:=th } x
 |new {pl:List Nat} (hp:r.pl=A1 pl) (hn:r.pl≠A1 fl) (hw:(Bh r.wd).isSome=false):RowG sub fl bc r S { S with rows:=S.rows++[⟨r.wd,A1 pl,Cz bc r.ops,if r.wd∈WA then A0 bc r.ar else []⟩] } ("row",.int (S.rows.length:Nat))
structure Lu (n:Nat)(r:Rx):Prop where
 o:∀y∈r.ops,Jl n y
 a:∀y∈r.ar,Jl n y.2
 lo:r.ops.length<=1000
 la:r.ar.length<=1000
inductive Ii (sub:List Nat->Option (Str×Dt))(fl:List Nat)(bc:List (Str×V))(r:Rx)(S:MS):Option (MS×(Str×V))->Prop where
 |ok {S2:MS} {x:Str×V} (h:RowG sub fl bc r S S2 x):Ii sub fl bc r S (some (S2,x))
 |lateF {n:Nat} (hp:r.pl=A1 fl) (R:RunL sub n { S with wait:=S.wait++[⟨fl,A0 bc r.ar,false⟩] }):Ii sub fl bc r S none
 |lateP {pl:List Nat} {n:Nat} (hp:r.pl=A1 pl) (hn:r.pl≠A1 fl) (hw:(Bh r.wd).isSome=true) (R:RunL sub n { S with things:=S.things++Cz bc r.ops,wait:=S.wait++[⟨pl,A0 bc r.ar,true⟩] }):Ii sub fl bc r S none
inductive Zjf (K:Pg)(C TL:Addr)(vs:List V)(H:Hp)(Q:VK)(E:XK):Prop
 |mk (a:V) (p b:Addr) (r:Rx) (fl:List Nat) (bv:List V) (bc:List (Str×V)) (HB:Hp) (kvs:List (List Au×V)) (L:Ml) (S:MS) (sub:List Nat->Option (Str×Dt)) (o:Option (MS×(Str×V))) (_:vs=[.ref L.m,a,.ref p,.ref b]) (_:MAt K HB C kvs L H S) (_:RwX K (λ_=>False) HB a r) (_:SqT K HB p (A4 fl)) (_:HB b=some (.lst bv)) (_:Al (ThAt K H) bv bc) (_:Lu bc.length r) (_:FormsAt K H kvs sub) (_:S.rows.length<9000) (_:S.wait.length<8000) (_:S.things.length<8000) (_:Ii sub fl bc r S o) (_:(∀S2 x,o=some (S2,x)->∀v H' t,SameM L H H'->MAt K HB C kvs (L.with t) H' S2->ThAt K H' v x->Q v H')) (_:(o=none->∀H',Same HB H'->E (.ref TL) none H'))
def Zgd (K:Pg)(C TL:Addr):Sp:=Zjf K C TL
theorem Ze6 (L:Ml)(n:Int):(L.fs n).lookup ("thing_of_parts":Str)=none:=rfl
theorem Zrs:(["thing","became"]:List Str).Nodup:=by right
theorem Zhh:(["name","thing","became"]:List Str).Nodup:=by right
theorem sc_thing_of_row:A9 ["machine","row","filled","became","word","place","operands","around"] ["machine","row","filled","became"] (A5 Kn):=by walk_at "sc"
theorem Zop (F:Fun K "thing_of_row" "thing_of_row" Kn f fd)(T:Txt K mg)(O:Mc K C)(G_PARTS_AWAITED:Eu mg "PARTS_AWAITED" (.ref ap))(hpa:Gq P w K ap pk)(hpk:∀wd,(Dk pk wd).isSome=(Bh wd).isSome/\∀ns,Bh wd=some ns->∃b,Dk pk wd=some (.ref b)/\∀H,SqT K H b (ns.map V.int))(C_thing_now:A8 P w K mg base 1 "thing_now" ["thing","became"] (Zbe K))(MR:C0 Aq P w K mg base 1 C "new_row" ["self","word","place","operands","around"] (Ke K C))(MF:C0 (Bo P w) P w K mg base 6 C "thing_of_form" ["self","place","around"] (λvs H Q E=>Zfq K C vs H Q E\/Zeh K C TL vs H Q E))(MP:C0 (Bo P w) P w K mg base 6 C "thing_of_parts" ["self","place","operands","around"] (λvs H Q E=>Zhw K C vs H Q E\/Zer K C TL vs H Q E)):FnOk P w K mg base (Bo P w) 7 f fd ["machine","row","filled","became"] (Zgd K C TL):=by
 refine F.okx sc_thing_of_row (λvs H Q E h=>?_) (λa4 A outer s H vs Q E hr h=>?_)
 ·obtain⟨a,p,b,r,fl,bv,bc,HB,kvs,L,S,sub,oo,rfl,_⟩:=h;rfl
 ·obtain⟨av,p,b,r,fl,bv,bc,HB,kvs,L,S,sub,oo,rfl,M,xr,hp,hb,ao,ai,FA,z1,z2,z3,G,q,qL⟩:=h;refine⟨_,Ad (Fs (Ej (Ff K) (qv 1) (Ew) (Dr Ac)) (Ep K (n:=2) rfl (Ci (Bc (i:=4) sc_thing_of_row.nd rfl (Or.inl rfl)) (Ci (Bc (i:=5) sc_thing_of_row.nd rfl (Or.inl rfl)) (Ei)))))
   (Ad (Nf (i:=6) (N:=["thing","became"]) (σ0:=Ed 1 [3]) rfl (Fz rfl (by right) (by right) (by right)) (E9 K (Ah K (qv 1) Ac)) (Fy rfl (by rfl)) (λ_ _ _ _=>Bc (i:=0) Zrs rfl (Or.inl rfl)) (λ_ _ _ _=>Ip) (λ_ _ _ _=>A3 C_thing_now hr.m (Aa (qv 0) (Aa (qv 1) Ab))) sc_thing_of_row.nd rfl (Or.inl rfl))
   (Ad (Nf (i:=7) (N:=["name","thing","became"]) (σ0:=Ed 2 [3]) rfl (Fz rfl (by right) (by right) (by right)) (E9 K (Ah K (qv 1) Ac)) (Fy rfl (by rfl)) (λ_ _ _ _=>Ep K (n:=2) rfl (Ci (Bc (i:=0) Zhh rfl (Or.inl rfl)) (Ci (Bc (i:=1) Zhh rfl (Or.inl rfl)) (Ei)))) (λ_ _ _ _=>Ip) (λ_ _ _ _=>Ao (Aa (qv 0) (Aa (A3 C_thing_now hr.m (Aa (qv 1) (Aa (qv 2) Ab))) Ab))) sc_thing_of_row.nd rfl (Or.inl rfl))
   (Ad (Ay (Az (Zhv K hr.u200) (qv 5) (qv 2) (Ax _)) (Af (An (Db (k:=6) K (Bo P w) ["self","place","around"] (qv 0) hr.m (Gy (λ_ _ _ h=>h)) (Aa (qv 5) (Aa (qv 7) Ab))))) A2)
   (Ad (Ay (Az (Zbu P w K) (qv 4) (Ge G_PARTS_AWAITED) (by rfl)) (Af (An (Db (k:=6) K (Bo P w) ["self","place","operands","around"] (qv 0) hr.m (Gy (λ_ _ _ h=>h)) (Aa (qv 5) (Aa (qv 6) (Aa (qv 7) Ab)))))) A2)
   (Af (An (Db (k:=1) K Aq ["self","word","place","operands","around"] (qv 0) hr.m Dj (Aa (qv 4) (Aa (qv 5) (Aa (qv 6) (Aa (qv 7) Ab))))))))))),?_⟩
  have bg:=big;have sB:=M.base;obtain⟨⟨a,p',o',e,ov,ev,rfl,qa,_,ho,au,he,as,_,_⟩,a2,p2,o2,e2,ea,aw,af⟩:=RwX.same sB.a _ _ xr;cases ea;have an:=sB _ _ hb;have lo:=ai.lo;have la:=ai.la;have a3:=au.1;have a5:=as.1;left;refine .inr (.inr ⟨a,_,rfl,aw,by show ¬(HT.sIx 4 0 none=0/\HT.sIx 4 4 (some 2)=4);decide,λk1 h1=>?_⟩);rw[show B8 [V.str r.wd,.ref p2,.ref o2,.ref e2] none (some 2)=[V.str r.wd,.ref p2] from rfl];obtain⟨H1,s1,e1,z9⟩:=Cf h1 (.tup [.str r.wd,.ref p2]);rw[z9];left;refine Dz (SqT.of e1) rfl ?_;left;refine Aw (s1.tup qa) rfl ?_;refine .inl ⟨o',rfl,⟨_,SqL.of (s1 _ _ ho)⟩,λD hD=>?_⟩;refine Lo (K:=K) (a:=o') (xs:=ov) (Pv:=λi ys Z H'=>∃kv,Z=[kv,some (.ref b)]/\Al (ThAt K H') ys ((r.ops.take i).map (Bb bc))/\Same H1 H') ⟨none,rfl,.nil,Same.upd hD⟩ (λi ys Z H' _ ⟨_,_,_,s'⟩=>SqL.of (s' _ _ (s1 _ _ ho))) ?_ ?_
  ·rintro i y ys Z H2 hy aj ⟨kv,rfl,ae,s2⟩;obtain⟨xo,am,a0⟩:=au.get hy;have Y:=s1.trans s2;left;refine⟨y,b,bv,xo,bc,rfl,ThAt.same Y.t _ _ a0,SqL.of (Y _ _ an),ao.mono (ThAt.same Y.t),ai.o _ (Qo am),λv tv=>?_⟩;have ay:ys.length<=1000:=by rw[ae.1,Pp,Qm];lia
   refine⟨_,aj,by lia,_,Ae,?_⟩;have sA:SameT H2 (upd H2 D (.lst (ys++[v]))):=SameT.set aj;refine⟨_,rfl,?_,s2.over hD⟩;rw[R6,am,U5,Qh,We];exact(ae.mono (ThAt.same sA)).snoc (ThAt.same sA _ _ tv)
  ·rintro ys Z H2 aj ⟨kv,rfl,ae,s2⟩;rw[Q9 (by lia)]at ae;have ae:Al (ThAt K H2) ys (Cz bc r.ops):=ae;have Y:=s1.trans s2;left;refine Aw (Y.tup qa) rfl ?_;refine .inl ⟨e,rfl,⟨_,SqL.of (Y _ _ he)⟩,λD2 ac=>?_⟩;refine Lo (K:=K) (a:=e) (xs:=ev) (Pv:=λi zs Z H'=>∃k1 k2,Z=[k1,k2,some (.ref b)]/\Al (PrAt K H') zs ((r.ar.take i).map λy=>(y.1,Bb bc y.2))/\Same H2 H') ⟨none,none,rfl,.nil,Same.upd ac⟩ (λi zs Z H' _ ⟨_,_,_,_,s'⟩=>SqL.of (s' _ _ (Y _ _ he))) ?_ ?_
   ·rintro i y zs Z H3 hy ad ⟨k1,k2,rfl,I,s3⟩;obtain⟨xa,aq,pa,u,rfl,qp,tu⟩:=as.get hy;have j:=Y.trans s3;left;refine Dz (j.tup qp) rfl ?_;left;refine⟨u,b,bv,xa.2,bc,rfl,ThAt.same j.t _ _ tu,SqL.of (j _ _ an),ao.mono (ThAt.same j.t),ai.a _ (Qo aq),λv tv=>?_⟩;left;refine⟨B1,λk hk=>?_⟩;obtain⟨H4,s4,e4,z9⟩:=Cf hk (.tup [.str xa.1,v]);rw[z9];have ay:zs.length<=1000:=by rw[I.1,Pp,Qm];lia
    refine⟨_,s4 _ _ ad,by lia,_,Ae,?_⟩;have sA:SameT H4 (upd H4 D2 (.lst (zs++[.ref k]))):=SameT.set (s4 _ _ ad);refine⟨_,_,rfl,?_,(s3.trans s4).over ac⟩;rw[R6,aq,U5,Qh,We];exact(I.mono (PrAt.same (s4.t.trans sA))).snoc ⟨k,v,rfl,sA.tup (SqT.of e4),ThAt.same (s4.t.trans sA) _ _ tv⟩
   ·rintro zs Z H3 ad ⟨k1,k2,rfl,I,s3⟩;rw[Q9 (by lia)]at I;have I:Al (PrAt K H3) zs (A0 bc r.ar):=I;have j:=Y.trans s3;have M3:=M.new j;have al:=FA.same j.t;have ag:=s3 _ _ aj;have ah:=ae.mono (ThAt.same s3.t);have ak:¬L.A D2:=by
     have M2:=M.new Y;obtain⟨rv,er,_⟩:=M2.rows;obtain⟨a6,ax,_⟩:=M2.wait;obtain⟨tv,et,_⟩:=M2.things;rintro(y|y|y)
     ·rw[y,er]at ac;cases ac
     ·rw[y,ax]at ac;cases ac
     ·rw[y,et]at ac;cases ac
    left;refine Zex (xs:=r.pl) (ys:=A1 fl) (SqT.of (j _ _ af)) (by rw[Ez];exact(sB.trans j).tup hp) ?_;left;cases G with
    |ok G =>
     cases G with
     | @fill n S' th x U R hx =>
      rw[decide_eq_true U];left;have aa:H3 p2=some (.tup (A4 fl)):=by rw[<- Ez,<- U];exact j _ _ af
      refine⟨_,rfl,L.m,C,L.dx,_,_,rfl,M3.ins,(De L S.steps).2.2.2.2.2.2.2,MF,?_⟩;left;exact Or.inl ⟨p2,D2,fl,zs,A0 bc r.ar,HB,kvs,L,S,S',sub,n,th,_,rfl,M3,aa,ad,I,ak,al,by lia,R,hx,λv H' t e' M' t'=>q _ _ rfl v H' t ((j.m L).trans e') M' t'⟩
     | @parts pl n S' th x U hn hw R hx =>
      rw[decide_eq_false hn];left;have aa:H3 p2=some (.tup (A4 pl)):=by rw[<- Ez,<- U];exact j _ _ af
      refine⟨r.wd,ap,pk,rfl,rfl,hpa,?_⟩;rw[(hpk r.wd).1,hw];left;refine⟨_,rfl,L.m,C,L.dx,_,_,rfl,M3.ins,Ze6 L S.steps,MP,?_⟩;left;exact Or.inl ⟨p2,D,D2,pl,ys,zs,Cz bc r.ops,A0 bc r.ar,HB,kvs,L,S,S',sub,n,th,_,rfl,M3,aa,ag,ah,ad,I,ak,al,by lia,by unfold Cz;rw[Pp];lia,R,hx,λv H' t e' M' t'=>q _ _ rfl v H' t ((j.m L).trans e') M' t'⟩
     | @new pl U hn hw =>
      rw[decide_eq_false hn];left;have aa:H3 p2=some (.tup (A4 pl)):=by rw[<- Ez,<- U];exact j _ _ af
      refine⟨r.wd,ap,pk,rfl,rfl,hpa,?_⟩;rw[(hpk r.wd).1,hw];left;refine⟨_,rfl,L.m,C,L.dx,_,_,rfl,M3.ins,(De L S.steps).2.1,MR,?_⟩;left;exact⟨r.wd,p2,D,D2,pl,ys,zs,Cz bc r.ops,A0 bc r.ar,HB,kvs,L,S,rfl,M3,aa,SqL.of ag,ah,SqL.of ad,I,by lia,λv H' e' M' t'=>q _ _ rfl v H' L.td ((j.m L).trans e') M' t'⟩
    | @lateF n U R =>
     rw[decide_eq_true U];left;have aa:H3 p2=some (.tup (A4 fl)):=by rw[<- Ez,<- U];exact j _ _ af
     refine⟨_,rfl,L.m,C,L.dx,_,_,rfl,M3.ins,(De L S.steps).2.2.2.2.2.2.2,MF,?_⟩;left;exact Or.inr ⟨p2,D2,fl,zs,A0 bc r.ar,HB,kvs,L,S,sub,n,rfl,M3,aa,ad,I,ak,al,by lia,R,qL rfl⟩
    | @lateP pl n U hn hw R =>
     rw[decide_eq_false hn];left;have aa:H3 p2=some (.tup (A4 pl)):=by rw[<- Ez,<- U];exact j _ _ af
     refine⟨r.wd,ap,pk,rfl,rfl,hpa,?_⟩;rw[(hpk r.wd).1,hw];left;refine⟨_,rfl,L.m,C,L.dx,_,_,rfl,M3.ins,Ze6 L S.steps,MP,?_⟩;left;exact Or.inr ⟨p2,D,D2,pl,ys,zs,Cz bc r.ops,A0 bc r.ar,HB,kvs,L,S,sub,n,rfl,M3,aa,ag,ah,ad,I,ak,al,by lia,by unfold Cz;rw[Pp];lia,R,qL rfl⟩
end
end K53
namespace K19
open PySem L2
inductive Sub:Tr->List Nat->Prop where
 |nil (t:Tr):Sub t []
 |cons {w:Str} {n:Dt} {ts:List Tr} {j:Nat} {t:Tr} {r:List Nat} (h:ts[j]?=some t) (s:Sub t r):Sub (.mk w n ts) (j::r)
noncomputable def path:Tr->List Nat->List Tr
 |t,[]=>[t]
 |.mk w n ps,k::r=>.mk w n ps::(match ps[k]? with|some u=>path u r|none=>[])
theorem Kw (h:ts[j]?=some t):path (.mk w n ts) (j::r)=.mk w n ts::path t r:=by rw[path,h]
theorem N8 (s:Sub t pl):(path t pl).length=pl.length+1:=by
 induction s with
 |nil t=>cases t;rfl
 |cons h _ j=>rw[Kw h,Qc,j,Qc]
theorem Zc4 (t:Tr)(pl:List Nat):(path t pl)[0]?=some t:=by
 cases t with
 |mk w n ps=>cases pl <;> rfl
theorem Za3 (s:Sub t pl):∀(i:Nat)(k:Nat),pl[i]?=some k->eX4 λw n ps u=>(path t pl)[i]?=some (.mk w n ps)/\ps[k]?=some u/\(path t pl)[i+1]?=some u:=by
 induction s with
 |nil t=>intro i k h;simp at h
 | @cons w n ts j u r h s I =>
  intro i k F;rw[Kw h];cases i with
  |zero =>
   have:j=k:=by simpa using F
   subst this;exact⟨w,n,ts,u,rfl,h,by simpa using Zc4 u r⟩
  |succ i =>
   obtain⟨Y,U,ps,O,a,b,c⟩:=I i k (by simpa using F);exact⟨Y,U,ps,O,by simpa using a,b,by simpa using c⟩
noncomputable def withAt:Tr->List Nat->Tr->Tr
 |_,[],f=>f
 |.mk w n ps,k::r,f=>match ps[k]? with
  |some u=>.mk w n (ps.set k (withAt u r f))
  |none=>.mk w n ps
theorem with_cons (h:ts[j]?=some t):withAt (.mk w n ts) (j::r) f=.mk w n (ts.set j (withAt t r f)):=by rw[withAt,h]
theorem Zl2 (t f:Tr):withAt t [] f=f:=by cases t;rfl
theorem Zsj (s:Sub t pl):∀(m k:Nat)(w:Str)(n:Dt)(ps:List Tr)(u:Tr),pl[m]?=some k->(path t pl)[m]?=some (.mk w n ps)->(path t pl)[m+1]?=some u->withAt (.mk w n ps) (pl.drop m) f=.mk w n (ps.set k (withAt u (pl.drop (m+1)) f)):=by
 intro m k w n ps u j hp F;obtain⟨Y,Z,O,U,a,b,c⟩:=Za3 s m k j;rw[hp]at a;cases a;rw[F]at c;cases c;have I:=(Pt.mp j);obtain⟨g,e⟩:=I;rw[Se g,e,with_cons b]
end K19
namespace K53
open PySem L2 K19
section
variable {P:Program}{w:World}{K:Pg}{mg:Str->Option Value}{base:Heap}
def Zg9:Sp:=λvs H Q _=>∃k:Int,vs=[.int k]/\Q (.bl true) H
theorem Zqo:A9 ["thing"] ["thing"] (A5 Mb):=by walk_at "sc"
theorem Zve (F:Fun K "is_whole" "is_whole" Mb f fd)(T:Txt K mg):FnOk P w K mg base Aq 1 f fd ["thing"] Zg9:=by
 refine F.okq Zqo (λvs H Q E h=>?_) (λj A outer s H vs Q E I h=>?_)
 ·obtain⟨k,rfl,_⟩:=h;rfl
 ·obtain⟨k,rfl,q⟩:=h;refine⟨_,Af (An (Fo (A6 (B4 K "int") (by rfl) T.isinstance (by right) (Aa (qv 0) (Aa (B3 (v:=.ty "int") (by rfl) T.int (by right) rfl) Ab))) (Fk (Zm7 (A6 (B4 K "bool") (by rfl) T.isinstance (by right) (Aa (qv 0) (Aa (B3 (v:=.ty "bool") (by rfl) T.bool (by right) rfl) Ab))))))),?_⟩;left;refine Bw (.int _) Zmn ?_;left;refine Bw (.int _) Zsy ?_;left;exact q
inductive Jhas (K:Pg)(vs:List V)(H:Hp)(Q:VK)(e9:XK):Prop
 |mk (v:V) (w:Str) (n:Dt) (ps:List Tr) (k:Nat) (_:vs=[v,.int (k:Nat)]) (_:TrAt K H v (.mk w n ps)) (_:k<ps.length) (_:Q (.bl true) H)
def Ziu (K:Pg):Sp:=Jhas K
theorem Zm6:A9 ["form","number"] ["form","number"] (A5 Kk):=by walk_at "sc"
theorem Zk7 (F:Fun K "has_part" "has_part" Kk f fd)(T:Txt K mg)(C_is_whole:A8 P w K mg base 1 "is_whole" ["thing"] Zg9):FnOk P w K mg base Aq 2 f fd ["form","number"] (Ziu K):=by
 refine F.okq Zm6 (λvs H Q E h=>?_) (λY A outer s H vs Q E U h=>?_)
 ·obtain⟨v,w,n,ps,k,rfl,_⟩:=h;rfl
 ·obtain⟨v,w,n,ps,k,rfl,O,hk,q⟩:=h;refine⟨_,Af (An (Fo (A3 C_is_whole U.m (Aa (qv 1) Ab)) (Fk (Zdm Ze0 E6 Ac (qv 1) (A6 (B7 K) (by rfl) T.len (by right) (Aa (Ah K (qv 0) Ac) Ab)))))),?_⟩;cases O with
  | @mk b pp _ nv _ j _ qb hn I l Z =>
  left;refine⟨_,rfl,?_⟩;left;refine Be (λ_=>?_) (λc=>absurd (decide_eq_true (by lia)) c);left;refine Aw qb rfl ?_;left;refine Dv I ?_;left;have e:decide ((k:Int)<(j.length:Int))=true:=decide_eq_true (by lia);rw[e];exact q
theorem Zim {α:Type}{xs:List α}{x:α}(h:xs[xs.length-1]?=some x):Cm xs (-1)=some x:=by
 have j:=(Pt.mp h).1;unfold Cm E3;rw[if_neg (by lia),if_pos (by lia)];have e:((-1:Int)+(xs.length:Int)).toNat=xs.length-1:=by lia
 simpa [e] using h
theorem Zq3 {α:Type}{xs:List α}{i:Int}{x:α}(j:Nat)(hj:(j:Int)=i)(h:xs[j]?=some x):Cm xs i=some x:=by
 have F:=(Pt.mp h).1;subst hj;unfold Cm E3;rw[if_pos (by lia),if_pos (by lia)];simpa using h
theorem Zig {pl:List Nat}{i:Nat}{v:V}(h:(A4 pl)[i]?=some v):∃k,v=.int (k:Nat)/\pl[i]?=some k:=by
 unfold A4 at h;rw[Qy]at h;cases e:pl[i]? with
 |none=>rw[e]at h;cases h
 |some x=>rw[e]at h;exact⟨x,(Qa h).symm,rfl⟩
theorem Zcx (pl:List Nat):(A4 pl).length=pl.length:=by unfold A4;simp
inductive Zrh (K:Pg)(vs:List V)(H:Hp)(Q:VK)(e9:XK):Prop
 |mk (v:V) (t:Tr) (p:Addr) (pl:List Nat) (_:vs=[v,.ref p]) (_:TrAt K H v t) (_:SqT K H p (A4 pl)) (_:Sub t pl) (_:pl.length<=1000) (_:∀(q:Addr)(ws:List V)(H':Hp),H q=none->Same H H'->H' q=some (.lst ws)->Al (TrAt K H') ws (path t pl)->Q (.ref q) H')
def Zar (K:Pg):Sp:=Zrh K
theorem sc_forms_down_to:A9 ["tree","place","passed","number"] ["tree","place"] (A5 K2):=by walk_at "sc"
theorem Znv (F:Fun K "forms_down_to" "forms_down_to" K2 f fd)(T:Txt K mg)(C_has_part:A8 P w K mg base 2 "has_part" ["form","number"] (Ziu K)):FnOk P w K mg base Aq 3 f fd ["tree","place"] (Zar K):=by
 refine F.okq sc_forms_down_to (λvs H Q E h=>?_) (λah A outer s H vs Q E hr h=>?_)
 ·obtain⟨v,t,p,pl,rfl,_⟩:=h;rfl
 ·obtain⟨v,t,p,pl,rfl,ht,hp,hs,hl,q⟩:=h;refine⟨_,Ad (Av 2 sc_forms_down_to (Bq (Aa (qv 0) Ab)))
   (Ad (Dq Qp rfl (E9 K (qv 1)) (Bc (i:=3) sc_forms_down_to.nd rfl (Or.inl rfl)) (Ad (Ay (Cn (Bp (A3 C_has_part hr.m (Aa (Ah K (qv 2) (Fv F5 Ac)) (Aa (qv 3) Ab))))) (Af Zbt) A2)
   (Af (B2 (Cv K P5 Qe Qf C7 (qv 2) (Aa (Ah K (Ah K (Ah K (qv 2) (Fv F5 Ac)) Ac) (qv 3)) Ab))))))
   (Af (An (qv 2)))),?_⟩
  have bg:=big;left;refine⟨C9,λq0 Y=>?_⟩;obtain⟨H1,s1,e1,z9⟩:=Cf Y (.lst [v]);rw[z9];left;refine .inr (.inl ⟨p,rfl,⟨_,s1.tup hp⟩,?_⟩);have p0:(path t pl).take 1=[t]:=by
   have:=Zc4 t pl;cases e:path t pl with
   |nil=>rw[e]at this;cases this
   |cons a r =>
    rw[e]at this;have h:a=t:=by simpa using this
    rw[h];rfl
  refine Zl6 (K:=K) (a:=p) (xs:=A4 pl) (λi O H'=>∃w3 I,O=[some v,some (.ref p),some (.ref q0),w3]/\H' q0=some (.lst I)/\Al (TrAt K H') I ((path t pl).take (i+1))/\Same H H') ⟨none,[v],rfl,e1,by rw[p0];exact Al.nil.snoc (ht.same s1),s1⟩ ?_ ?_ ?_
  ·rintro i O H' _ ⟨_,_,_,_,_,sm⟩;exact sm.tup hp
  ·rintro i x O H' hx ⟨w3,I,rfl,U,Z,sm⟩;obtain⟨k,rfl,hk⟩:=Zig hx;obtain⟨w',n',ps,u,a1,a2,a3⟩:=Za3 hs i k hk;have hi:=(Pt.mp hk).1;have ai:=N8 hs;have ag:I.length=i+1:=by rw[Z.1,Qm];lia
   have ad:((path t pl).take (i+1))[i]?=some (.mk w' n' ps):=by rw[List.getElem?_take,if_pos (by lia)];exact a1
   obtain⟨vi,af,ae⟩:=Z.get' ad;have j:Cm I (-1)=some vi:=Zim (by rw[ag];exact af);cases ae with
   | @mk b pp _ nv _ us _ qb hn qp l ac =>
   have aa:k<us.length:=by rw[l];exact(Pt.mp a2).1
   left;refine Bd (SqL.of U) j ?_;left;refine⟨_,w',n',ps,k,rfl,.mk qb hn qp l ac,by lia,?_⟩;left;refine Ce (SqL.of U) ?_;left;refine Bd (SqL.of U) j ?_;left;refine Aw qb rfl ?_;left;refine Aw qp (Zq3 k rfl (Pk aa)) ?_;left;refine C6 U (by lia) ?_;left;have t3:SameT H' (upd H' q0 (.lst (I++[us[k]]))):=SameT.set U;refine⟨_,I++[us[k]],rfl,Ae,?_,sm.over Y⟩;have e3:(path t pl).take (i+1+1)=(path t pl).take (i+1)++[u]:=by rw[R6,a3];rfl
   rw[e3];exact(Z.mono λ_ _ z=>z.sameT t3).snoc ((ac k _ u (Pk aa) a2).sameT t3)
  ·rintro O H' ⟨w3,I,rfl,U,Z,sm⟩;rw[Zcx,Q9 (by rw[N8 hs];lia)]at Z;left;exact q q0 I H' Y sm U Z
inductive Zl4 (K:Pg)(vs:List V)(H:Hp)(Q:VK)(e9:XK):Prop
 |mk (v u:V) (w:Str) (n:Dt) (ps:List Tr) (tu:Tr) (k:Nat) (_:vs=[v,.int (k:Nat),u]) (_:TrAt K H v (.mk w n ps)) (_:TrAt K H u tu) (_:k<ps.length) (_:ps.length<=1000) (_:∀(v':V)(H':Hp),Same H H'->TrAt K H' v' (.mk w n (ps.set k tu))->Q v' H')
def Zf7 (K:Pg):Sp:=Zl4 K
theorem Zqb {α:Type}{xs:List α}{k:Nat}{x:α}(h:k<xs.length):xs.take k++[x]++xs.drop (k+1)=xs.set k x:=by
 rw[List.set_eq_take_append_cons_drop,if_pos h,P8];rfl
theorem Zgt:A9 ["form","number","part","parts"] ["form","number","part"] (A5 L8):=by walk_at "sc"
theorem Zlg (F:Fun K "with_part" "with_part" L8 f fd)(T:Txt K mg):FnOk P w K mg base Aq 1 f fd ["form","number","part"] (Zf7 K):=by
 refine F.okq Zgt (λvs H Q E h=>?_) (λaa A outer s H vs Q E hr h=>?_)
 ·obtain⟨v,u,w,n,ps,tu,k,rfl,_⟩:=h;rfl
 ·obtain⟨v,u,w,n,ps,tu,k,rfl,ht,hu,hk,hl,q⟩:=h;refine⟨_,Ad (Av 3 Zgt (Ah K (qv 0) Ac))
   (Af (An (Ao (Aa (Ah K (qv 0) Ac) (Aa (Ah K (qv 0) Ac) (Aa (Ai (B6 K) (Ai (B6 K) (Ej (Zd0 K) (qv 3) (Ew) (Dr (qv 1))) (Ao (Aa (qv 2) Ab))) (Ej (Zd0 K) (qv 3) (Dr (Ai (B6 K) (qv 1) Ac)) (Ew))) Ab)))))),?_⟩
  have bg:=big;cases ht with
  | @mk b pp _ nv _ us _ qb hn qp l Z =>
  left;refine Aw qb rfl ?_;left;refine Aw qb rfl ?_;left;refine Aw qb rfl ?_;left;refine Zfa qp λr1 H1 s1 q1=>?_;rw[Zjb]at q1;left;refine⟨C9,λp2 h2=>?_⟩;have s2:=Same.upd (o:=.tup [u]) h2;refine Zhb (s2.tup q1) (SqT.of Ae) (by rw[Qm];show _+1<=sizeLine;lia) λr3 H3 s3 q3=>?_;have I:=s1.trans (s2.trans s3);left;refine Zfa (I.tup qp) λr4 H4 s4 q4=>?_;have ek:(k:Int)+1=((k+1:Nat):Int):=by lia
  rw[ek,O8]at q4;refine Zhb (s4.tup q3) q4 (by rw[Pn,Qm,Rw];show _+1+_<=sizeLine;lia) λr5 H5 s5 q5=>?_;rw[Zqb (by lia)]at q5;left;refine⟨Bg,λp6 h6=>?_⟩;have s6:=Same.upd (o:=.tup [.str w,nv,.ref r5]) h6;have Y:=I.trans (s4.trans (s5.trans s6));refine q (.ref p6) _ Y (.mk (SqT.of Ae) (hn.same Y.t) (s6.tup q5) (by rw[Sw,Sw];exact l) λj x y U O=>?_);by_cases e:k=j
  ·subst e;rw[Sg (by lia)]at U O;cases U;cases O;exact hu.same Y
  ·rw[Tu e]at U O;exact(Z j x y U O).same Y
inductive Zro (K:Pg)(vs:List V)(H:Hp)(Q:VK)(e9:XK):Prop
 |mk (v u:V) (t tu:Tr) (p:Addr) (pl:List Nat) (_:vs=[v,.ref p,u]) (_:TrAt K H v t) (_:SqT K H p (A4 pl)) (_:Sub t pl) (_:pl.length<=1000) (_:t.size<=1000) (_:TrAt K H u tu) (_:∀(v':V)(H':Hp),Same H H'->TrAt K H' v' (withAt t pl tu)->Q v' H')
def Zdf (K:Pg):Sp:=Zro K
theorem Zpx (s:Sub t pl):∀u∈path t pl,u.size<=t.size:=by
 induction s with
 |nil t=>intro u j;cases t;rw[path,Qw]at j;rw[j];exact Pj _
 |cons F _ I =>
  intro u j;rw[Kw F]at j;rcases Po.mp j with rfl|j
  ·exact Pj _
  ·have:=I u j;have:=Mm F;rw[Tr.size];lia
theorem sc_with_at:A9 ["tree","place","form","made","number","above"] ["tree","place","form"] (A5 Kr):=by walk_at "sc"
theorem Zr8 (F:Fun K "with_at" "with_at" Kr f fd)(T:Txt K mg)(C_forms_down_to:A8 P w K mg base 3 "forms_down_to" ["tree","place"] (Zar K))(C_with_part:A8 P w K mg base 1 "with_part" ["form","number","part"] (Zf7 K)):FnOk P w K mg base Aq 4 f fd ["tree","place","form"] (Zdf K):=by
 refine F.okq sc_with_at (λvs H Q E h=>?_) (λam A outer s H vs Q E hr h=>?_)
 ·obtain⟨v,u,t,tu,p,pl,rfl,_⟩:=h;rfl
 ·obtain⟨v,u,t,tu,p,pl,rfl,ht,hp,hs,hl,hz,hu,q⟩:=h;refine⟨_,Ad (Av 3 sc_with_at (qv 2))
   (Ad (Dq Qp rfl (Zhm K rfl T.reversed (Aa (Zqk K (by rfl) T.list (by rfl) T.zip (Aa (qv 1) (Aa (A3 C_forms_down_to hr.m (Aa (qv 0) (Aa (qv 1) Ab))) Ab))) Ab)) (Ep K (n:=2) rfl (Ci (Bc (i:=4) sc_with_at.nd rfl (Or.inl rfl)) (Ci (Bc (i:=5) sc_with_at.nd rfl (Or.inl rfl)) (Ei)))) (Af (Av 3 sc_with_at (A3 C_with_part hr.m (Aa (qv 5) (Aa (qv 4) (Aa (qv 3) Ab)))))))
   (Af (An (qv 3)))),?_⟩
  have ae:=N8 hs;left;refine⟨v,t,p,pl,rfl,ht,hp,hs,hl,λq1 ws H1 ak s1 e1 al=>?_⟩;left;refine⟨p,q1,_,ws,rfl,s1.tup hp,SqL.of e1,λS zs H2 hS s2 U Y ad=>?_⟩;have U:zs.length=pl.length:=by rw[U,Zcx,al.1,ae];lia
  left;refine⟨S,zs,rfl,SqL.of ad,?_⟩;have ac:=s1.trans s2;have Z:(path t pl)[pl.length]?=some ((path t pl)[pl.length]'(by lia)):=Pk (by lia);refine Ze4 (K:=K) (a:=S) (xs:=zs) (λj O H'=>eX4 λw4 w5 m tm=>O=[some v,some (.ref p),some u,some m,w4,w5]/\(path t pl)[pl.length-j]?=some tm/\TrAt K H' m (withAt tm (pl.drop (pl.length-j)) tu)/\Same H2 H') ⟨none,none,u,_,rfl,Z,by rw[Ui,Rr (Pj _),Zl2];exact hu.same ac,Same.refl _⟩ ?_ ?_ ?_
  ·rintro j O H' _ ⟨_,_,_,_,_,_,_,sm⟩;exact SqL.of (sm _ _ ad)
  ·rintro j z O H' hj ag ⟨w4,w5,m,tm,rfl,I,hm,sm⟩;obtain⟨tt,x,y,rfl,hx,hy,aj⟩:=Y _ _ ag;obtain⟨k,rfl,hk⟩:=Zig hx;obtain⟨w',n',ps,u',a1,a2,a3⟩:=Za3 hs _ k hk;rw[U]at hk a1 a3 hy hj;obtain⟨ty,aa,ah⟩:=al.get hy;rw[a1]at aa;cases aa;have e2:pl.length-1-j+1=pl.length-j:=by lia
   rw[e2,I]at a3;cases a3;have ai:ps.length<=1000:=by
    have:=Zpx hs _ (Qo a1);rw[Tr.size]at this;have:=Zcy ps;lia
   left;refine Dz (SqT.of (sm _ _ aj)) rfl ?_;left;refine⟨y,m,w',n',ps,_,k,rfl,ah.same (s2.trans sm),hm,(Pt.mp a2).1,ai,λv' H3 s3 af=>?_⟩;left;have e3:pl.length-(j+1)=pl.length-1-j:=by lia
   refine⟨_,_,v',_,rfl,by rw[e3];exact a1,?_,sm.trans s3⟩;rw[e3,Zsj hs _ k w' n' ps tm hk a1 (by rw[e2];exact I),e2];exact af
  ·rintro O H' ⟨w4,w5,m,tm,rfl,I,hm,sm⟩;rw[U,Re]at I hm;rw[Zc4]at I;cases I;left;exact q m H' (ac.trans sm) hm
inductive Jfat (K:Pg)(vs:List V)(H:Hp)(Q:VK)(e9:XK):Prop
 |mk (v:V) (t:Tr) (p:Addr) (pl:List Nat) (tx:Tr) (_:vs=[v,.ref p]) (_:TrAt K H v t) (_:SqT K H p (A4 pl)) (_:Sub t pl) (_:pl.length<=1000) (_:(path t pl)[pl.length]?=some tx) (_:∀(u:V)(H':Hp),Same H H'->TrAt K H' u tx->Q u H')
def Zh0 (K:Pg):Sp:=Jfat K
theorem Zql:A9 ["tree","place"] ["tree","place"] (A5 Kx):=by walk_at "sc"
theorem Zon (F:Fun K "form_at" "form_at" Kx f fd)(T:Txt K mg)(C_forms_down_to:A8 P w K mg base 3 "forms_down_to" ["tree","place"] (Zar K)):FnOk P w K mg base Aq 4 f fd ["tree","place"] (Zh0 K):=by
 refine F.okq Zql (λvs H Q E h=>?_) (λac A outer s H vs Q E hr h=>?_)
 ·obtain⟨v,t,p,pl,tx,rfl,_⟩:=h;rfl
 ·obtain⟨v,t,p,pl,tx,rfl,ht,hp,hs,hl,hx,q⟩:=h;refine⟨_,Af (An (Ah K (A3 C_forms_down_to hr.m (Aa (qv 0) (Aa (qv 1) Ab))) (Fv F5 Ac))),?_⟩;have I:=N8 hs;left;refine⟨v,t,p,pl,rfl,ht,hp,hs,hl,λq1 ws H1 aa s1 Z U=>?_⟩;obtain⟨u,Y,j⟩:=U.get' hx;have O:ws.length-1=pl.length:=by rw[U.1,I];lia
  left;refine Bd (SqL.of Z) (Zim (by rw[O];exact Y)) ?_;exact q u H1 s1 j
inductive Zud (K:Pg)(vs:List V)(H:Hp)(Q:VK)(e9:XK):Prop
 |mk (v:V) (d:Dt) (ts:List Tr) (_:vs=[v]) (_:TrAt K H v (.mk "gap" d ts)) (_:Q .non H)
def Zfe (K:Pg):Sp:=Zud K
theorem Zpe:A9 ["form"] ["form"] (A5 J7):=by walk_at "sc"
theorem Zt2 (F:Fun K "refuse_no_gap" "refuse_no_gap" J7 f fd)(T:Txt K mg):FnOk P w K mg base Aq 1 f fd ["form"] (Zfe K):=by
 refine F.okq Zpe (λvs H Q E h=>?_) (λO A outer s H vs Q E I h=>?_)
 ·obtain⟨v,d,ts,rfl,_⟩:=h;rfl
 ·obtain⟨v,d,ts,rfl,j,q⟩:=h;refine⟨_,Af (Ay (Az (Dy K I.u200) (Ah K (qv 0) Ac) Am (Ax _)) (Af Zbt) A2),?_⟩;cases j with
  | @mk b pp _ nv _ us _ Y Z qp l U =>
  left;refine Aw Y rfl ?_;left;rw[decide_eq_true (Eq.refl _)];left;exact q
open K19 in
inductive Fg (sub:List Nat->Option (Str×Dt))(fl:List Nat):List Rx->List (Str×V)->MS->Option (List (Str×V)×MS)->Prop where
 |nil {bc:List (Str×V)} {S:MS}:Fg sub fl [] bc S (some (bc,S))
 |cons {r:Rx} {rs:List Rx} {bc:List (Str×V)} {S S1:MS} {x:Str×V} {o:Option (List (Str×V)×MS)} (hs:S.rows.length<9000) (ht:S.things.length<8000) (ok:Lu bc.length r) (h1:RowG sub fl bc r S S1 x) (h2:Fg sub fl rs (bc++[x]) S1 o):Fg sub fl (r::rs) bc S o
 |late {r:Rx} {rs:List Rx} {bc:List (Str×V)} {S:MS} (hs:S.rows.length<9000) (ht:S.things.length<8000) (ok:Lu bc.length r) (h1:Ii sub fl bc r S none):Fg sub fl (r::rs) bc S none
theorem RunM.wait (h:RunM sub n S S'):S'.wait=[]:=by
 induction h with
 |nil h=>exact h
 |cons _ _ _ j=>exact j
theorem RowG.wait (h:RowG sub fl bc r S S' x)(hw:S.wait=[]):S'.wait=[]:=by
 cases h with
 |fill _ R _=>exact R.wait
 |parts _ _ _ R _=>exact R.wait
 |new _ _ _=>exact hw
theorem Hw (H:Hp)(b:Addr)(o o':HO):upd (upd H b o) b o'=upd H b o':=by
 funext c;by_cases e:c=b
 ·rw[e,Ae,Ae]
 ·rw[Ag e,Ag e,Ag e]
theorem _root_.L2.MAt.re (M:MAt K HB C kvs L H S)(hb:H b=none\/∃ys,HB b=some (.lst ys))(hw:S.wait=[]):MAt K (upd HB b (.lst xs)) C kvs L (upd H b (.lst xs)) S:=by
 obtain⟨rv,er,ar,sp⟩:=M.rows;obtain⟨wv,Z,aw⟩:=M.wait;obtain⟨tv,Y,j⟩:=M.things;have F:wv=[]:=Sc (by rw[aw.1,hw];rfl);subst F;have n1:L.m≠b:=by
  rintro rfl;rcases hb with h|⟨ys,h⟩
  ·rw[M.ins]at h;cases h
  ·rw[M.nm]at h;cases h
 have n2:L.rd≠b:=by
  rintro rfl;rcases hb with h|⟨ys,h⟩
  ·rw[er]at h;cases h
  ·rw[M.nr]at h;cases h
 have n3:L.wd≠b:=by
  rintro rfl;rcases hb with h|⟨ys,h⟩
  ·rw[Z]at h;cases h
  ·rw[M.nw]at h;cases h
 have n4:L.td≠b:=by
  rintro rfl;rcases hb with h|⟨ys,h⟩
  ·rw[Y]at h;cases h
  ·rw[M.nt]at h;cases h
 have n5:L.fd≠b:=by
  rintro rfl;rcases hb with h|⟨ys,h⟩
  ·rw[M.frm]at h;cases h
  ·have:=M.frm;rw[M.base _ _ h]at this;cases this
 have I:SameA (λc=>L.A c\/upd HB b (.lst xs) c≠none) H (upd H b (.lst xs)):=by
  rcases hb with h|⟨ys,h⟩
  ·exact(Same.upd h).a
  ·exact SameA.set (M.base _ _ h) (.inr (by rw[Ae];simp))
 have U:∀c,(L.A c\/upd HB b (.lst xs) c≠none)->H c≠none->(L.A c\/HB c≠none):=by
  intro c hc O;rcases hc with z|z
  ·exact .inl z
  ·refine .inr ?_;by_cases e:c=b
   ·rcases hb with h|⟨ys,h⟩
    ·rw[e,h]at O;exact absurd rfl O
    ·rw[e,h];simp
   ·rw[Ag e]at z;exact z
 refine⟨λc o h=>?_,(Ag n1).trans M.nm,(Ag n2).trans M.nr,(Ag n3).trans M.nw,(Ag n4).trans M.nt,(Ag n1).trans M.ins,(Ag n5).trans M.frm,M.rw,M.rt,M.wt,⟨rv,(Ag n2).trans er,(ar.mono (RwX.mono U)).mono (RwX.same I),(sp.mono U).same I⟩,⟨[],(Ag n3).trans Z,by rw[hw];exact .nil⟩,⟨tv,(Ag n4).trans Y,j.mono (ThAt.same I.1)⟩⟩;by_cases e:c=b
 ·rw[e]at h ⊢;rw[Ae]at h ⊢;exact h
 ·rw[Ag e]at h ⊢;exact M.base _ _ h
open K19 in
inductive Zrm (K:Pg)(TL:Addr)(vs:List V)(H:Hp)(Q:VK)(E:XK):Prop
 |mk (tv fv av:V) (t tf:Tr) (p q0 rd:Addr) (fl:List Nat) (d:Dt) (gs:List Tr) (n:Int) (rv:List V) (rs:List Rx) (xa:Str×V) (oo:Option (List (Str×V)×MS)) (_:vs=[tv,.ref q0,.ref p,fv]) (_:TrAt K H tv t) (_:t.size<=1000) (_:SqT K H p (A4 fl)) (_:Sub t fl) (_:fl.length<=1000) (_:(path t fl)[fl.length]?=some (.mk "gap" d gs)) (_:TrAt K H fv tf) (_:(withAt t fl tf).size<=2000) (_:SqT K H q0 [av,.ref rd,.int n]) (_:n<=500) (_:H rd=some (.lst rv)) (_:Al (RwX K (λb=>b=rd) H) rv rs) (_:rs.length<=9000) (_:ThAt K H av xa) (_:Fg (Bu (withAt t fl tf)) fl rs [] ⟨[],[],[],n⟩ oo) (_:(∀bc S',oo=some (bc,S')->Jl bc.length xa/\∀(r' rd':Addr)(av':V)(rv':List V)(H':Hp),Same H H'->SqT K H' r' [av',.ref rd',.int S'.steps]->ThAt K H' av' (Bb bc xa)->H' rd'=some (.lst rv')->Al (RwX K (λb=>b=rd'\/H b≠none) H') rv' S'.rows->SepR K (λb=>b=rd'\/H b≠none) H' rv' S'.rows->H rd'=none->Q (.ref r') H')) (_:(oo=none->∀H',Same H H'->E (.ref TL) none H'))
def J5 (K:Pg)(TL:Addr):Sp:=Zrm K TL
theorem sc_go_on:A9 ["tree","record","place","form","answer","rows","steps","machine","became","row"] ["tree","record","place","form"] (A5 Le):=by walk_at "sc"
open K19 in
theorem Zj0 (F:Fun K "go_on" "go_on" Le f fd)(T:Txt K mg)(O:Mc K C)(C_refuse_no_gap:A8 P w K mg base 1 "refuse_no_gap" ["form"] (Zfe K))(C_form_at:A8 P w K mg base 4 "form_at" ["tree","place"] (Zh0 K))(C_with_at:A8 P w K mg base 4 "with_at" ["tree","place","form"] (Zdf K))(C_thing_now:A8 P w K mg base 1 "thing_now" ["thing","became"] (Zbe K))(C_thing_of_row:Ho P w K mg base 7 "thing_of_row" ["machine","row","filled","became"] (Zgd K C TL))(MK_Machine:Og Aq P w K mg base 2 "Machine" C ["self","tree","steps"] (Nd K C)):FnOk P w K mg base (Bo P w) 8 f fd ["tree","record","place","form"] (J5 K TL):=by
 refine F.okx sc_go_on (λvs H Q E h=>?_) (λbe A outer s H vs Q E hr h=>?_)
 ·obtain⟨tv,fv,av,t,tf,p,q0,rd,fl,d,gs,n,rv,rs,xa,oo,rfl,_⟩:=h;rfl
 ·obtain⟨tv,fv,av,t,tf,p,q0,rd,fl,d,gs,n,rv,rs,xa,oo,rfl,ht,hz,hp,hs,hl,hg,hf,a5,hq,hn,ah,an,bf,a7,G,q,qL⟩:=h;refine⟨_,Ad (B2 (A3 C_refuse_no_gap hr.m (Aa (A3 C_form_at hr.m (Aa (qv 0) (Aa (qv 2) Ab))) Ab)))
   (Ad (Fs (qv 1) (Ep K (n:=3) rfl (Ci (Bc (i:=4) sc_go_on.nd rfl (Or.inl rfl)) (Ci (Bc (i:=5) sc_go_on.nd rfl (Or.inl rfl)) (Ci (Bc (i:=6) sc_go_on.nd rfl (Or.inl rfl)) (Ei))))))
   (Ad (Av 7 sc_go_on (Zfu MK_Machine hr.m Dj (Aa (A3 C_with_at hr.m (Aa (qv 0) (Aa (qv 2) (Aa (qv 3) Ab)))) (Aa (qv 6) Ab))))
   (Ad (Av 8 sc_go_on (Bq Ab))
   (Ad (Dq PassesOwn.leaving rfl (E9 K (qv 5)) (Bc (i:=9) sc_go_on.nd rfl (Or.inl rfl)) (Af (B2 (Cv K P5 Qe Qf C7 (qv 8) (Aa (Zsr C_thing_of_row hr.m (Gy (λ_ _ _ h=>h)) (Aa (qv 7) (Aa (qv 9) (Aa (qv 2) (Aa (qv 8) Ab))))) Ab)))))
   (Af (An (Ao (Aa (A3 C_thing_now hr.m (Aa (qv 4) (Aa (qv 8) Ab))) (Aa (B5 K (qv 7)) (Aa (B5 K (qv 7)) Ab)))))))))),?_⟩
  have bg:=big;left;refine⟨tv,t,p,fl,_,rfl,ht,hp,hs,hl,hg,λu H1 s1 tu=>?_⟩;left;refine⟨u,d,gs,rfl,tu,?_⟩;left;refine Dz (s1.tup hq) rfl ?_;left;unfold tNew;left;refine⟨tv,fv,t,tf,p,fl,rfl,ht.same s1,s1.tup hp,hs,hl,hz,hf.same s1,λv' H2 s2 a0=>?_⟩;have I:=s1.trans s2;left;intro m dx h1 h2 h3;refine⟨m,dx,H2,v',_,n,rfl,hn,h1,h2,h3,rfl,a0,a5,λH3 L kvs hm M FA=>⟨rfl,?_⟩⟩;subst hm;left;refine⟨Bm,λb hb=>?_⟩;have M0:=M.re (xs:=[]) (.inl hb) rfl;have U:H2 b=none:=by
   cases h:H2 b with
   |none=>rfl
   |some o=>rw[M.base _ _ h]at hb;cases hb
  have sB:Same H2 (upd H2 b (.lst [])):=Same.upd U;have a9:=FA.same (Same.upd (o:=.lst []) hb).t;have aw:rd≠b:=λz=>by rw[<- z,I _ _ ah]at U;cases U
  have ax:=I.tup hp;have aa:=an.mono (RwX.same I.a);have aa:Al (RwX K (λ_=>False) H2) rv rs:=aa.mono (RwX.mono λb hb _=>hb.elim);have ap:∀xs,Al (RwX K (λ_=>False) (upd H2 b (.lst xs))) rv rs:=λxs=>aa.mono (RwX.same (Same.upd U).a);left;refine .inl ⟨rd,rfl,⟨_,SqL.of (((M.base.trans (Same.upd hb))) _ _ (I _ _ ah))⟩,?_⟩;refine Zab (K:=K) (a:=rd) (xs:=rv) (λi ae H'=>eX5 λv9 Z j Si t'=>ae=[some tv,some (.ref q0),some (.ref p),some fv,some av,some (.ref rd),some (.int n),some (.ref L.m),some (.ref b),v9]/\MAt K (upd H2 b (.lst Z)) C kvs (L.with t') H' Si/\Al (ThAt K H') Z j/\FormsAt K H' kvs (Bu (withAt t fl tf))/\Si.wait=[]/\j.length=i/\Fg (Bu (withAt t fl tf)) fl (rs.drop i) j Si oo) ⟨none,[],[],_,L.td,rfl,M0,.nil,a9,rfl,rfl,G⟩ ?_ ?_ ?_
  ·rintro i ae H' _ ⟨_,Z,_,_,_,_,M',_⟩;exact SqL.of (M'.base _ _ ((Ag aw).trans (I _ _ ah)))
  ·rintro i y ae H4 hy ⟨v9,Z,j,Si,t',rfl,Mi,Y,ag,aj,al,Gi⟩;obtain⟨r,af,a4⟩:=(ap Z).get hy;have ao:=(Pt.mp af).1;have dr:rs.drop i=r::rs.drop (i+1):=by
    rw[Se ao]
    congr 1
    rw[Pk ao]at af;exact Qa af
   rw[dr]at Gi;have bh:=Y.1;have ex:∃o,Ii (Bu (withAt t fl tf)) fl j r Si o/\Si.rows.length<9000/\Si.things.length<8000/\Lu j.length r/\(o=none->oo=none)/\∀S1 x,o=some (S1,x)->S1.wait=[]/\Fg (Bu (withAt t fl tf)) fl (rs.drop (i+1)) (j++[x]) S1 oo:=by
    cases Gi with
    | @cons _ _ _ _ S1 x _ ac ad ok G1 G2 =>
     refine⟨_,.ok G1,ac,ad,ok,⟨λz=>?_,λS2 x2 e=>?_⟩⟩
     ·cases z
     ·cases e;exact⟨G1.wait aj,G2⟩
    |late ac ad ok R1 =>
     refine⟨_,R1,ac,ad,ok,⟨λ_=>rfl,λS2 x2 e=>?_⟩⟩;cases e
   obtain⟨o,G1,ac,ad,ok,oN,oS⟩:=ex;left;refine Ce (SqL.of (Mi.base _ _ Ae)) ?_;left;refine⟨y,p,b,r,fl,Z,j,_,kvs,L.with t',Si,_,o,rfl,Mi,a4,(Same.upd U).tup ax,Ae,Y,ok,ag,ac,by rw[aj];decide,ad,G1,λS1 x eo v H5 t5 e5 M5 ai=>?_,λeo H' e'=>qL (oN eo) H' (I.trans ((Same.upd U).trans e'))⟩;obtain⟨ak,G2⟩:=oS _ _ eo;left;refine C6 (M5.base _ _ Ae) (by lia) ?_;have M6:=M5.re (b:=b) (xs:=Z++[v]) (.inr ⟨Z,Ae⟩) ak;rw[Hw]at M6;have am:SameT H5 (upd H5 b (.lst (Z++[v]))):=SameT.set (M5.base _ _ Ae);have aq:=(Mi.t e5).trans am;refine⟨_,Z++[v],j++[x],S1,t5,rfl,M6,(Y.mono (ThAt.same aq)).snoc (ThAt.same am _ _ ai),ag.same aq,ak,by rw[Pn,al];rfl,G2⟩
  ·rintro ae H4 ⟨v9,Z,j,Si,t',rfl,Mi,Y,ag,aj,al,Gi⟩;rw[Rr (by rw[an.1];exact Pj _)]at Gi;cases Gi;obtain⟨ba,q⟩:=q _ _ rfl;have ay:Same H2 H4:=(Same.upd U).trans Mi.base;have au:=I.trans ay;left;refine⟨av,b,Z,xa,_,rfl,ThAt.same au.t _ _ a7,SqL.of (Mi.base _ _ Ae),Y,ba,λv5 ai=>?_⟩;obtain⟨a6,a3,bb,as⟩:=Mi.rows;left;refine⟨_,rfl,L.m,C,L.dx,_,_,rfl,Mi.ins,O.cl,O.nr,Iy (L.with t') _,?_⟩;left;refine⟨_,rfl,L.m,C,L.dx,_,_,rfl,Mi.ins,O.cl,O.ns,Ik (L.with t') _,?_⟩;left;refine⟨Bg,λr' a8=>?_⟩;have s5:Same H4 (upd H4 r' (.tup [v5,.ref L.rd,.int Si.steps])):=Same.upd a8;have mo:∀c,(c=L.rd\/H c≠none)->H4 c≠none->((L.with t').A c\/upd H2 b (.lst Z) c≠none):=by
    intro c hc _;rcases hc with z|z
    ·exact .inl (.inl z)
    ·refine .inr ?_;cases h:H c with
     |none=>exact absurd h z
     |some o=>rw[(I.trans (Same.upd U)) _ _ h];simp
   refine q r' L.rd v5 a6 _ (au.trans s5) (SqT.of Ae) (ThAt.same s5.t _ _ ai) (s5 _ _ a3) ((bb.mono (RwX.mono mo)).mono (RwX.same s5.a)) ((as.mono mo).same s5.a) ?_;cases h:H L.rd with
   |none=>rfl
   |some o=>have:=(I.trans (Same.upd (o:=.lst Z) U)) _ _ h;rw[show upd H2 b (.lst Z) L.rd=none from Mi.nr]at this;cases this
end
inductive Ex (sub:List Nat->Option (Str×Dt)):List Nat->Ar->List Rx->Str×V->List Rx->Int->Prop
 |call {pl:List Nat} {ar:Ar} {rs r1 r2 r3:List Rx} {d:Dt} {a b x:Str×V} {k1 k2 k3:Int} {c:List Nat×Ar} (hs:sub pl=some (("call":Str),d)) (ha:Ex sub (pl++[0]) ar rs a r1 k1) (hb:Ex sub (pl++[1]) ar r1 b r2 k2) (hf:Bs r2 a=true) (hc:Ie sub r2 a b=some c) (he:Ex sub c.1 c.2 r2 x r3 k3):Ex sub pl ar rs x r3 (1+k1+k2+k3)
 |join {pl:List Nat} {ar:Ar} {rs r1 r2:List Rx} {wd:Str} {d:Dt} {a b:Str×V} {k1 k2:Int} (hs:sub pl=some (wd,d)) (hw:wd∈Br) (ha:Ex sub (pl++[0]) ar rs a r1 k1) (hb:Ex sub (pl++[1]) ar r1 b r2 k2) (hf:¬(wd="call"/\Bs r2 a=true)):Ex sub pl ar rs (Cb wd pl r2 a b).1 (Cb wd pl r2 a b).2 (1+k1+k2)
 |lets {pl:List Nat} {ar:Ar} {rs r1 r2:List Rx} {d:Dt} {a b:Str×V} {k1 k2:Int} (hs:sub pl=some (("let":Str),d)) (ha:Ex sub (pl++[0]) ar rs a r1 k1) (hb:Ex sub (pl++[1]) (ar++Bt (Cd "let" d 1) [a]) r1 b r2 k2):Ex sub pl ar rs b r2 (1+k1+k2)
 |ifT {pl:List Nat} {ar:Ar} {rs r1 r2:List Rx} {d:Dt} {a b:Str×V} {k1 k2:Int} (hs:sub pl=some (("if":Str),d)) (ha:Ex sub (pl++[0]) ar rs a r1 k1) (ht:a.1="truth") (hb:Ex sub (pl++[if a.2=.bl true then 1 else 2]) ar r1 b r2 k2):Ex sub pl ar rs b r2 (1+k1+k2)
 |ifN {pl:List Nat} {ar:Ar} {rs r1:List Rx} {d:Dt} {a:Str×V} {k1:Int} (hs:sub pl=some (("if":Str),d)) (ha:Ex sub (pl++[0]) ar rs a r1 k1) (ht:¬a.1="truth"):Ex sub pl ar rs (("row":Str),.int (r1.length:Nat)) (r1++[⟨"if",A1 pl,[a],ar⟩]) (1+k1)
 |leaf {pl:List Nat} {ar:Ar} {rs:List Rx} {wd:Str} {d:Dt} (hs:sub pl=some (wd,d)) (h2:¬wd∈Br) (h3:¬wd="let") (h4:¬wd="if"):Ex sub pl ar rs (Bv wd d pl ar rs).1 (Bv wd d pl ar rs).2 (A7 wd)
section
variable {sub:List Nat->Option (Str×Dt)}
theorem Zhj (wd:Str):0<=A7 wd/\A7 wd<=1:=by unfold A7;split <;> decide
theorem Li (h:Ex sub pl ar rs x r k):0<=k:=by
 induction h with
 |leaf hs _ _ _=>exact(Zhj _).1
 |_=>lia
theorem Zhk (wd:Str)(pl:List Nat)(rs:List Rx)(x y:Str×V):∃m,(Cb wd pl rs x y).2=rs++m:=by
 unfold Cb;split
 ·exact⟨[],by simp⟩
 ·exact⟨_,rfl⟩
theorem Zsh (wd:Str)(d:Dt)(pl:List Nat)(ar:Ar)(rs:List Rx):∃m,(Bv wd d pl ar rs).2=rs++m:=by
 unfold Bv Cj;split
 ·exact⟨[],by simp⟩
 split
 ·exact⟨[],by simp⟩
 ·exact⟨_,rfl⟩
theorem Zc3 (h:Ex sub pl ar rs x r k):∃m,r=rs++m:=by
 induction h with
 |call _ _ _ _ _ _ i1 i2 j =>
  obtain⟨a,rfl⟩:=i1;obtain⟨b,rfl⟩:=i2;obtain⟨c,rfl⟩:=j;exact⟨_,by rw[P8,P8]⟩
 | @join _ _ _ _ I wd _ a b _ _ _ _ _ _ _ i1 i2 =>
  obtain⟨m1,rfl⟩:=i1;obtain⟨m2,rfl⟩:=i2;obtain⟨c,F⟩:=Zhk wd _ _ a b;exact⟨_,by rw[F,P8,P8]⟩
 |lets _ _ _ i1 i2 =>
  obtain⟨a,rfl⟩:=i1;obtain⟨b,rfl⟩:=i2;exact⟨_,by rw[P8]⟩
 |ifT _ _ _ _ i1 i2 =>
  obtain⟨a,rfl⟩:=i1;obtain⟨b,rfl⟩:=i2;exact⟨_,by rw[P8]⟩
 |ifN _ _ _ i1 =>
  obtain⟨a,rfl⟩:=i1;exact⟨_,by rw[P8]⟩
 |leaf _ _ _ _=>exact Zsh _ _ _ _ _
theorem Iu (h:Ex sub pl ar rs x r k):∀st:Int,∃N:Nat,∀B:Int,(N:Int)<=B->∀n,N<=n->ev sub B n pl ar rs st=some (x,r,st+k):=by
 induction h with
 | @call pl ar rs Y r2 r3 d a b x k1 k2 k3 c hs _ _ hf hc _ i1 i2 i3 =>
  intro st;obtain⟨F,h1⟩:=i1 (st+1);obtain⟨I,h2⟩:=i2 (st+1+k1);obtain⟨N3,Z⟩:=i3 (st+1+k1+k2);refine⟨(st+1).toNat+F+I+N3+1,λB U n O=>?_⟩;obtain⟨n,rfl⟩:∃m,n=m+1:=⟨n-1,by lia⟩;have j:=Ds (wd:="call") (.inl (by right));rw[Zil hs (by rw[j];lia) (by right),h1 B (by lia) n (by lia),Pr,h2 B (by lia) n (by lia),Pr,if_pos ⟨rfl,hf⟩,hc,Pr,Z B (by lia) n (by lia)];rw[show st+1+k1+k2+k3=st+(1+k1+k2+k3) by lia]
 | @join pl ar rs Y r2 wd d a b k1 k2 hs hw _ _ hf i1 i2 =>
  intro st;obtain⟨F,h1⟩:=i1 (st+1);obtain⟨I,h2⟩:=i2 (st+1+k1);refine⟨(st+1).toNat+F+I+1,λB U n O=>?_⟩;obtain⟨n,rfl⟩:∃m,n=m+1:=⟨n-1,by lia⟩;have j:=Ds (.inl hw);rw[Zil hs (by rw[j];lia) hw,h1 B (by lia) n (by lia),Pr,h2 B (by lia) n (by lia),Pr,if_neg hf];rw[show st+1+k1+k2=st+(1+k1+k2) by lia]
 | @lets pl ar rs Y r2 d a b k1 k2 hs _ _ i1 i2 =>
  intro st;obtain⟨F,h1⟩:=i1 (st+1);obtain⟨I,h2⟩:=i2 (st+1+k1);refine⟨(st+1).toNat+F+I+1,λB U n O=>?_⟩;obtain⟨n,rfl⟩:∃m,n=m+1:=⟨n-1,by lia⟩;have j:=Ds (wd:="let") (.inr (.inl rfl));rw[Zs0 hs (by rw[j];lia) rfl,h1 B (by lia) n (by lia),Pr,h2 B (by lia) n (by lia)];rw[show st+1+k1+k2=st+(1+k1+k2) by lia]
 | @ifT pl ar rs Y r2 d a b k1 k2 hs _ ht _ i1 i2 =>
  intro st;obtain⟨F,h1⟩:=i1 (st+1);obtain⟨I,h2⟩:=i2 (st+1+k1);refine⟨(st+1).toNat+F+I+1,λB U n O=>?_⟩;obtain⟨n,rfl⟩:∃m,n=m+1:=⟨n-1,by lia⟩;have j:=Ds (wd:="if") (.inr (.inr rfl));rw[Zes hs (by rw[j];lia) rfl,h1 B (by lia) n (by lia),Pr,if_pos ht,h2 B (by lia) n (by lia)];rw[show st+1+k1+k2=st+(1+k1+k2) by lia]
 | @ifN pl ar rs Y d a k1 hs _ ht i1 =>
  intro st;obtain⟨F,h1⟩:=i1 (st+1);refine⟨(st+1).toNat+F+1,λB U n O=>?_⟩;obtain⟨n,rfl⟩:∃m,n=m+1:=⟨n-1,by lia⟩;have j:=Ds (wd:="if") (.inr (.inr rfl));rw[Zes hs (by rw[j];lia) rfl,h1 B (by lia) n (by lia),Pr,if_neg ht];rw[show st+1+k1=st+(1+k1) by lia]
 | @leaf pl ar rs wd d hs h2 Z h4 =>
  intro st;refine⟨(st+1).toNat+1,λB U n O=>?_⟩;obtain⟨n,rfl⟩:∃m,n=m+1:=⟨n-1,by lia⟩;have j:=Zhj wd;rw[Znl hs (by lia) h2 Z h4]
theorem Jh {B:Int}:∀(n:Nat){pl:List Nat}{ar:Ar}{rs:List Rx}{st:Int}{o:Er},ev sub B n pl ar rs st=some o->Ex sub pl ar rs o.1 o.2.1 (o.2.2-st)
 |0,_,_,_,_,_,h=>by rw[ev]at h;cases h
 |n+1,pl,ar,rs,st,o,h=>by
  have F:=@Jh B n;rw[ev]at h;cases hs:sub pl with
  |none=>rw[hs]at h;cases h
  |some f =>
  obtain⟨wd,d⟩:=f;rw[hs]at h;simp only[Pr]at h;by_cases h1:B<st+A7 wd
  ·rw[if_pos h1]at h;cases h
  rw[if_neg h1]at h;by_cases h2:wd∈Br
  ·rw[if_pos h2]at h;obtain⟨a,I,h⟩:=Pw.mp h;obtain⟨b,Y,h⟩:=Pw.mp h;by_cases j:wd="call"/\Bs b.2.1 a.1=true
   ·rw[if_pos j]at h;obtain⟨c,Z,h⟩:=Pw.mp h;have:=Ex.call (by rw[hs,j.1]) (F I) (F Y) j.2 Z (F h);rw[show 1+(a.2.2-(st+1))+(b.2.2-a.2.2)+(o.2.2-b.2.2)=o.2.2-st by lia]at this;exact this
   ·rw[if_neg j]at h;cases h;have:=Ex.join hs h2 (F I) (F Y) j;rw[show 1+(a.2.2-(st+1))+(b.2.2-a.2.2)=b.2.2-st by lia]at this;exact this
  rw[if_neg h2]at h;by_cases j:wd="let"
  ·rw[if_pos j]at h;subst j;obtain⟨a,I,h⟩:=Pw.mp h;have:=Ex.lets hs (F I) (F h);rw[show 1+(a.2.2-(st+1))+(o.2.2-a.2.2)=o.2.2-st by lia]at this;exact this
  rw[if_neg j]at h;by_cases U:wd="if"
  ·rw[if_pos U]at h;subst U;obtain⟨a,I,h⟩:=Pw.mp h;by_cases O:a.1.1="truth"
   ·rw[if_pos O]at h;have:=Ex.ifT hs (F I) O (F h);rw[show 1+(a.2.2-(st+1))+(o.2.2-a.2.2)=o.2.2-st by lia]at this;exact this
   ·rw[if_neg O]at h;cases h;have:=Ex.ifN hs (F I) O;rw[show 1+(a.2.2-(st+1))=a.2.2-st by lia]at this;exact this
  rw[if_neg U]at h;cases h;have:=Ex.leaf (ar:=ar) (rs:=rs) hs h2 j U;rw[show A7 wd=st+A7 wd-st by lia]at this;exact this
theorem Nn (h:Ex sub pl ar rs x r k)(h':Ex sub pl ar rs x' r' k'):x=x'/\r=r'/\k=k':=by
 obtain⟨N,e⟩:=Iu h 0;obtain⟨j,F⟩:=Iu h' 0;have:=(e (N+j:Nat) (by lia) (N+j) (by lia)).symm.trans (F (N+j:Nat) (by lia) (N+j) (by lia));injection this with this;injection this with a b;injection b with b c;exact⟨a,b,by lia⟩
def Fx (sub:List Nat->Option (Str×Dt))(wd:Str)(pl:List Nat)(ar:Ar)(ops:List (Str×V))(rs:List Rx)(x:Str×V)(r:List Rx)(k:Int):Prop:=match ops with
 |[a,b]=>if wd="call"/\Bs rs a=true then ∃c,Ie sub rs a b=some c/\Ex sub c.1 c.2 rs x r k else x=(Cb wd pl rs a b).1/\r=(Cb wd pl rs a b).2/\k=0
 |[a]=>if a.1="truth" then Ex sub (pl++[if a.2=.bl true then 1 else 2]) ar rs x r k else x=(("row":Str),.int (rs.length:Nat))/\r=rs++[⟨wd,A1 pl,[a],ar⟩]/\k=0
 |_=>False
theorem two_iff (hs:sub pl=some (wd,d))(hw:wd∈Br):Ex sub pl ar rs x r k↔∃k',(eX4 λa r1 k1 k2=>Ex sub (pl++[0]) ar rs a r1 k1/\(eX4 λb r2 k3 k4=>Ex sub (pl++[1]) ar r1 b r2 k3/\Fx sub wd pl ar [a,b] r2 x r k4/\k2=k3+k4)/\k'=k1+k2)/\k=1+k':=by
 constructor
 ·intro h;cases h with
  |call j O I F Y U =>
   rw[hs]at j;cases j;exact⟨_,⟨_,_,_,_,O,⟨_,_,_,_,I,by unfold Fx;dsimp only;rw[if_pos ⟨rfl,F⟩];exact⟨_,Y,U⟩,rfl⟩,rfl⟩,by lia⟩
  |join j Z O I F =>
   rw[hs]at j;cases j;exact⟨_,⟨_,_,_,_,O,⟨_,_,_,_,I,by unfold Fx;dsimp only;rw[if_neg F];exact⟨rfl,rfl,rfl⟩,rfl⟩,rfl⟩,by lia⟩
  |lets j _ _=>rw[hs]at j;cases j;exact absurd hw (by right)
  |ifT j _ _ _=>rw[hs]at j;cases j;exact absurd hw (by right)
  |ifN j _ _=>rw[hs]at j;cases j;exact absurd hw (by right)
  |leaf j h2 _ _=>rw[hs]at j;cases j;exact absurd hw h2
 ·rintro⟨k',⟨a,r1,k1,k2,O,⟨b,r2,k3,k4,I,F,rfl⟩,rfl⟩,rfl⟩;unfold Fx at F;dsimp only at F;by_cases h:wd="call"/\Bs r2 a=true
  ·rw[if_pos h]at F;obtain⟨c,Y,U⟩:=F;have:=Ex.call (by rw[hs,h.1]) O I h.2 Y U;rw[show 1+(k1+(k3+k4))=1+k1+k3+k4 by lia];exact this
  ·rw[if_neg h]at F;obtain⟨rfl,rfl,rfl⟩:=F;have:=Ex.join hs hw O I h;rw[show 1+(k1+(k3+0))=1+k1+k3 by lia];exact this
theorem Zjv (hs:sub pl=some (("let":Str),d)):Ex sub pl ar rs x r k↔∃k',(eX4 λa r1 k1 k2=>Ex sub (pl++[0]) ar rs a r1 k1/\Ex sub (pl++[1]) (ar++Bt (Cd "let" d 1) [a]) r1 x r k2/\k'=k1+k2)/\k=1+k':=by
 constructor
 ·intro h;cases h with
  |call j _ _ _ _ _=>rw[hs]at j;exact absurd (Uj (Qa j)).1 (by right)
  |join j O _ _ _=>rw[hs]at j;cases j;exact absurd O (by right)
  |lets j I F=>rw[hs]at j;cases j;exact⟨_,⟨_,_,_,_,I,F,rfl⟩,by lia⟩
  |ifT j _ _ _=>rw[hs]at j;exact absurd (Uj (Qa j)).1 (by right)
  |ifN j _ _=>rw[hs]at j;exact absurd (Uj (Qa j)).1 (by right)
  |leaf j _ U _=>rw[hs]at j;cases j;exact absurd rfl U
 ·rintro⟨k',⟨a,r1,k1,k2,I,F,rfl⟩,rfl⟩;have:=Ex.lets hs I F;rw[show 1+(k1+k2)=1+k1+k2 by lia];exact this
theorem Zi9 (hs:sub pl=some (("if":Str),d)):Ex sub pl ar rs x r k↔∃k',(eX4 λa r1 k1 k2=>Ex sub (pl++[0]) ar rs a r1 k1/\Fx sub "if" pl ar [a] r1 x r k2/\k'=k1+k2)/\k=1+k':=by
 constructor
 ·intro h;cases h with
  |call j _ _ _ _ _=>rw[hs]at j;exact absurd (Uj (Qa j)).1 (by right)
  |join j U _ _ _=>rw[hs]at j;cases j;exact absurd U (by right)
  |lets j _ _=>rw[hs]at j;exact absurd (Uj (Qa j)).1 (by right)
  |ifT j F O Y=>exact⟨_,⟨_,_,_,_,F,by unfold Fx;dsimp only;rw[if_pos O];exact Y,rfl⟩,by lia⟩
  |ifN j F O=>exact⟨_,⟨_,_,_,_,F,by unfold Fx;dsimp only;rw[if_neg O];exact⟨rfl,rfl,rfl⟩,rfl⟩,by lia⟩
  |leaf j _ _ Z=>rw[hs]at j;cases j;exact absurd rfl Z
 ·rintro⟨k',⟨a,r1,k1,k2,F,I,rfl⟩,rfl⟩;unfold Fx at I;dsimp only at I;by_cases h:a.1="truth"
  ·rw[if_pos h]at I;have:=Ex.ifT hs F h I;rw[show 1+(k1+k2)=1+k1+k2 by lia];exact this
  ·rw[if_neg h]at I;obtain⟨rfl,rfl,rfl⟩:=I;have:=Ex.ifN hs F h;rw[show 1+(k1+0)=1+k1 by lia];exact this
theorem Zai (hs:sub pl=some (wd,d))(h2:¬wd∈Br)(h3:¬wd="let")(h4:¬wd="if")(h:Ex sub pl ar rs x r k):x=(Bv wd d pl ar rs).1/\r=(Bv wd d pl ar rs).2/\k=A7 wd:=Nn h (Ex.leaf hs h2 h3 h4)
end
def C3 (sub:List Nat->Option (Str×Dt))(p:List Nat)(bc:List (Str×V))(R:List Rx)(r:Rx)(x:Str×V)(R1:List Rx)(k:Int):Prop :=
 if r.pl=A1 p then Ex sub p (A0 bc r.ar) R x R1 k else if (Bh r.wd).isSome=true then Fx sub r.wd (Cs r.pl) (A0 bc r.ar) (Cz bc r.ops) R x R1 k
 else x=(("row":Str),.int (R.length:Nat))/\R1=R++[⟨r.wd,r.pl,Cz bc r.ops,if r.wd∈WA then A0 bc r.ar else []⟩]/\k=0
inductive Gx (sub:List Nat->Option (Str×Dt))(p:List Nat):List Rx->List (Str×V)->List Rx->List (Str×V)->List Rx->Int->Prop
 |nil {bc:List (Str×V)} {R:List Rx}:Gx sub p [] bc R bc R 0
 |cons {bc bc':List (Str×V)} {R R1 R':List Rx} {r:Rx} {l:List Rx} {x:Str×V} {k1 k2:Int} (h:C3 sub p bc R r x R1 k1) (t:Gx sub p l (bc++[x]) R1 bc' R' k2):Gx sub p (r::l) bc R bc' R' (k1+k2)
section
variable {sub:List Nat->Option (Str×Dt)}{p:List Nat}
theorem Zuu (h:Fx sub wd pl ar ops R x R1 k):(∃m,R1=R++m)/\0<=k:=by
 unfold Fx at h;split at h
 ·split at h
  ·obtain⟨c,_,j⟩:=h;exact⟨Zc3 j,Li j⟩
  ·obtain⟨_,rfl,rfl⟩:=h;exact⟨Zhk _ _ _ _ _,by lia⟩
 ·split at h
  ·exact⟨Zc3 h,Li h⟩
  ·obtain⟨_,rfl,rfl⟩:=h;exact⟨⟨_,rfl⟩,by lia⟩
 ·exact h.elim
theorem Zc9 (h:C3 sub p bc R r x R1 k):(∃m,R1=R++m)/\0<=k:=by
 unfold C3 at h;split at h
 ·exact⟨Zc3 h,Li h⟩
 split at h
 ·exact Zuu h
 ·obtain⟨_,rfl,rfl⟩:=h;exact⟨⟨_,rfl⟩,by lia⟩
theorem Zjl {wd:Str}{pl:List Nat}{ar:Ar}{ops:List (Str×V)}{R R1 R2:List Rx}{x y:Str×V}{k j:Int}(h:Fx sub wd pl ar ops R x R1 k)(h':Fx sub wd pl ar ops R y R2 j):x=y/\R1=R2/\k=j:=by
 unfold Fx at h h';split at h
 ·dsimp only at h';split at h
  ·rename_i F;rw[if_pos F]at h';obtain⟨c,h1,h2⟩:=h;obtain⟨U,I,O⟩:=h';rw[h1]at I;cases I;exact Nn h2 O
  ·rename_i F;rw[if_neg F]at h';exact⟨h.1.trans h'.1.symm,h.2.1.trans h'.2.1.symm,h.2.2.trans h'.2.2.symm⟩
 ·dsimp only at h';split at h
  ·rename_i F;rw[if_pos F]at h';exact Nn h h'
  ·rename_i F;rw[if_neg F]at h';exact⟨h.1.trans h'.1.symm,h.2.1.trans h'.2.1.symm,h.2.2.trans h'.2.2.symm⟩
 ·exact h.elim
theorem Zmh {bc:List (Str×V)}{R R1 R2:List Rx}{r:Rx}{x y:Str×V}{k j:Int}(h:C3 sub p bc R r x R1 k)(h':C3 sub p bc R r y R2 j):x=y/\R1=R2/\k=j:=by
 unfold C3 at h h';split at h
 ·rename_i F;rw[if_pos F]at h';exact Nn h h'
 rename_i F;rw[if_neg F]at h';split at h
 ·rename_i hd;rw[if_pos hd]at h';exact Zjl h h'
 ·rename_i hd;rw[if_neg hd]at h';exact⟨h.1.trans h'.1.symm,h.2.1.trans h'.2.1.symm,h.2.2.trans h'.2.2.symm⟩
theorem Of (h:Gx sub p l bc R bc' R' k):0<=k/\(∃m,R'=R++m)/\∃g,bc'=bc++g/\g.length=l.length:=by
 induction h with
 |nil=>exact⟨by lia,⟨[],by simp⟩,[],by simp,rfl⟩
 |cons h _ F =>
  obtain⟨⟨m,rfl⟩,I⟩:=Zc9 h;obtain⟨h1,⟨O,rfl⟩,g,rfl,j⟩:=F;exact⟨by lia,⟨_,by rw[P8]⟩,_,by rw[P8],by simp[j]⟩
theorem Zq2 {l m:List Rx}{bc b1 b2:List (Str×V)}{R R1 R2:List Rx}{k j:Int}(h:Gx sub p l bc R b1 R1 k)(h':Gx sub p m b1 R1 b2 R2 j):Gx sub p (l++m) bc R b2 R2 (k+j):=by
 induction h with
 |nil=>rw[Int.zero_add];exact h'
 |cons h _ F =>
  have:=Gx.cons h (F h');rw[Int.add_assoc];exact this
theorem Zd2:∀{l m:List Rx}{bc b2:List (Str×V)}{R R2:List Rx}{k:Int},Gx sub p (l++m) bc R b2 R2 k->eX4 λb1 R1 k1 k2=>Gx sub p l bc R b1 R1 k1/\Gx sub p m b1 R1 b2 R2 k2/\k=k1+k2
 |[],_,_,_,_,_,_,h=>⟨_,_,0,_,.nil,h,by lia⟩
 |_::l,m,_,_,_,_,_,h=>by
  cases h with
  |cons h t =>
   obtain⟨b1,R1,k1,k2,F,j,rfl⟩:=Zd2 t;exact⟨b1,R1,_,k2,.cons h F,j,by lia⟩
theorem Zqa (h:C3 sub p bc R r x R1 k):Gx sub p [r] bc R (bc++[x]) R1 k:=by
 have:=Gx.cons h .nil;rw[Q6]at this;exact this
end
theorem D9 {bc:List (Str×V)}{x:Str×V}(h:x.1≠"row"):Bb bc x=x:=by unfold Bb;rw[if_neg h]
theorem Kd (h:bc[i]?=some y):Bb bc (("row":Str),V.int (i:Nat))=y:=by
 unfold Bb;rw[if_pos rfl];show(bc[((i:Nat):Int).toNat]?).getD _=y;rw[Q3,h];rfl
theorem Zaq (h:TOk bc.length x):Bb (bc++g) x=Bb bc x:=by
 rcases h with⟨h,_⟩|⟨h,_⟩|⟨h,k,e,j⟩
 ·rw[D9 (by rw[h];right),D9 (by rw[h];right)]
 ·rw[D9 (by rw[h];right),D9 (by rw[h];right)]
 ·have ex:x=(("row":Str),V.int (k:Nat)):=by rw[<- h,<- e]
  rw[ex,Kd (Pk j),Kd ((Qd j).trans (Pk j))]
theorem Ji (h:AOk bc.length ar):A0 (bc++g) ar=A0 bc ar:=by
 unfold A0;exact List.map_congr_left λy j=>by rw[Zaq (h y j)]
theorem Lq:∀(ns:List Str)(xs:List (Str×V)),A0 bc (Bt ns xs)=Bt ns (xs.map (Bb bc))
 |[],xs=>by unfold A0 Bt;simp
 |_::_,[]=>by unfold A0 Bt;simp
 |a::ns,x::xs=>by
  have:=Lq (bc:=bc) ns xs;unfold A0 Bt at this ⊢;rw[Qs,List.zip_cons_cons,List.zip_cons_cons,Qs,this]
theorem Nu (l m:Ar):A0 bc (l++m)=A0 bc l++A0 bc m:=by unfold A0;rw[Qh]
theorem Zff:C1 (A0 bc ar) z=(C1 ar z).map (Bb bc):=by
 unfold C1 A0;rw[<- Wn,List.find?_map,Option.map_map,Option.map_map];rfl
structure Inv (rs:List Rx)(bc:List (Str×V))(R:List Rx):Prop where
 len:bc.length=rs.length
 fn:∀(i:Nat)(r:Rx),rs[i]?=some r->r.wd∈(["fn","rec"]:List Str)->∃(m:Nat)(r':Rx),bc[i]?=some (("row":Str),V.int (m:Nat))/\R[m]?=some r'/\r'.wd=r.wd/\r'.pl=r.pl/\r'.ar=A0 bc r.ar
structure Fil (sub sub':List Nat->Option (Str×Dt))(p:List Nat):Prop where
 g:∃d,sub p=some (("gap":Str),d)
 o:∀pl x,sub pl=some x->pl≠p->sub' pl=some x
theorem Fil.ne (F:Fil sub sub' p)(hs:sub pl=some (wd,d))(hw:wd≠"gap"):pl≠p:=λe=>by
 obtain⟨j,h⟩:=F.g;rw[e,h]at hs;injection hs with hs;injection hs with h1 _;exact hw h1.symm
theorem Zao (h:A1 a=A1 b):a=b:=by rw[<- F3 a,h,F3]
theorem Zjo (F:Fil sub sub' p)(I:Inv rs bc R)(hl:RLt (rs++[r]))(hr:r.wd∈(["fn","rec"]:List Str)->∃d,sub (Cs r.pl)=some (r.wd,d))(h:C3 sub' p bc R r x R1 k):Inv (rs++[r]) (bc++[x]) R1:=by
 obtain⟨⟨m,hm⟩,_⟩:=Zc9 h;refine⟨by rw[Pn,Pn,I.len];rfl,λi q Y U=>?_⟩;have hA:=(hl i q Y).1;by_cases hi:i<rs.length
 ·have O:=Y;rw[Qd hi]at O;obtain⟨j,r',h1,h2,h3,h4,h5⟩:=I.fn i q O U;refine⟨j,r',by rw[Qd (by rw[I.len];exact hi)];exact h1,?_,h3,h4,?_⟩
  ·rw[hm];exact(Qd (Pt.mp h2).1).trans h2
  ·rw[h5,Ji (hA.up (by rw[I.len];lia))]
 ·have Z:i=rs.length:=by
   have:=(Pt.mp Y).1;rw[Pn,Py]at this;lia
  subst Z;have O:=Y;rw[Qn (Pj _),Re]at O;cases O;obtain⟨d,e2⟩:=hr U;have hw:r.wd≠"gap"/\(Bh r.wd).isSome=false/\r.wd∈WA:=by
   simp only[Po,Px,or_false]at U;rcases U with e|e <;> rw[e] <;> exact⟨by right,by right,by right⟩
  have hp:¬r.pl=A1 p:=λe=>F.ne e2 hw.1 (by rw[e,F3]);unfold C3 at h;rw[if_neg hp,if_neg (by rw[hw.2.1];decide)]at h;obtain⟨rfl,rfl,rfl⟩:=h;refine⟨R.length,⟨r.wd,r.pl,Cz bc r.ops,if r.wd∈WA then A0 bc r.ar else []⟩,by rw[<- I.len,Qn (Pj _),Re];rfl,by rw[Qn (Pj _),Re];rfl,rfl,rfl,?_⟩;show(if r.wd∈WA then A0 bc r.ar else [])=_;rw[if_pos hw.2.2,Ji (by rw[I.len];exact hA)]
theorem RLt.cut (h:RLt (l++m)):RLt l:=λk r j=>h k r ((Qd (Pt.mp j).1).trans j)
def FnAt (sub:List Nat->Option (Str×Dt))(l:List Rx):Prop:=∀r∈l,r.wd∈(["fn","rec"]:List Str)->∃d,sub (Cs r.pl)=some (r.wd,d)
theorem RsOk.fn (h:RsOk sub (l++m) st):FnAt sub m:=λr j F=>by
 obtain⟨i,hi⟩:=Wb (Ra l j);exact((h i r hi).2.2 F).2.2
theorem Il (F:Fil sub sub' p):∀{l rs R R':List Rx}{bc bc':List (Str×V)}{k:Int},Inv rs bc R->RLt (rs++l)->FnAt sub l->Gx sub' p l bc R bc' R' k->Inv (rs++l) bc' R'
 |[],rs,R,R',bc,bc',k,I,_,_,h=>by
  cases h;rw[Q0];exact I
 |r::l,rs,R,R',bc,bc',k,I,j,O,h=>by
  cases h with
  |cons h t =>
   have e:rs++r::l=rs++[r]++l:=by rw[P8];rfl
   rw[e]at j ⊢;exact Il F (Zjo F I j.cut (O r (Tx ..)) h) j (λq U=>O q (Rt _ U)) t
def Sm2 (sub:List Nat->Option (Str×Dt))(p:List Nat)(X:List Rx->Str×V->List Rx->Int->Prop)(x:Str×V)(c:Int)(m:List Rx)(bc:List (Str×V))(R:List Rx):Prop :=
 (∀bc' R' k,Gx sub p m bc R bc' R' k->X R (Bb bc' x) R' (c+k))/\(∀y R' k,X R y R' k->∃bc' k',Gx sub p m bc R bc' R' k'/\y=Bb bc' x/\k=c+k')
section
variable {sub:List Nat->Option (Str×Dt)}{p:List Nat}{bc:List (Str×V)}{R:List Rx}
theorem Sm2.bind {X:List Rx->Str×V->List Rx->Int->Prop}{Y:Str×V->List Rx->Str×V->List Rx->Int->Prop}{a x:Str×V}{c1 c2:Int}{m1 m2:List Rx}(h1:Sm2 sub p X a c1 m1 bc R)(h2:∀b1 R1 k1,Gx sub p m1 bc R b1 R1 k1->Sm2 sub p (Y (Bb b1 a)) x c2 m2 b1 R1):Sm2 sub p (λR y R' k=>eX4 λa' R1 k1 k2=>X R a' R1 k1/\Y a' R1 y R' k2/\k=k1+k2) x (c1+c2) (m1++m2) bc R:=by
 constructor
 ·intro aa R' k g;obtain⟨b1,R1,k1,k2,j,F,rfl⟩:=Zd2 g;exact⟨_,R1,_,_,h1.1 _ _ _ j,(h2 _ _ _ j).1 _ _ _ F,by lia⟩
 ·rintro y R' k ⟨a',R1,k1,k2,O,U,rfl⟩;obtain⟨b1,I,j,rfl,rfl⟩:=h1.2 _ _ _ O;obtain⟨b2,Z,F,rfl,rfl⟩:=(h2 _ _ _ j).2 _ _ _ U;exact⟨b2,I+Z,Zq2 j F,rfl,by lia⟩
theorem Sm2.one (h:Sm2 sub p X x c m bc R)(e:∀y R' k,Y R y R' k↔∃k',X R y R' k'/\k=1+k')(hc:c'=1+c)(hm:m'=m):Sm2 sub p Y x c' m' bc R:=by
 subst hc hm;constructor
 ·intro O R' k g;exact(e _ _ _).mpr ⟨_,h.1 _ _ _ g,by lia⟩
 ·intro y R' k I;obtain⟨k',F,rfl⟩:=(e _ _ _).mp I;obtain⟨b,j,g,rfl,rfl⟩:=h.2 _ _ _ F;exact⟨b,j,g,rfl,by lia⟩
theorem Sm2.none (h:X R (Bb bc x) R c)(det:∀y R' k,X R y R' k->y=Bb bc x/\R'=R/\k=c):Sm2 sub p X x c [] bc R:=by
 constructor
 ·intro F R' k g;cases g;rw[Q6];exact h
 ·intro y R' k j;obtain⟨rfl,rfl,rfl⟩:=det _ _ _ j;exact⟨bc,0,.nil,rfl,by lia⟩
theorem Sm2.row (hn:bc.length=n)(e:∀y R' k,X R y R' (c+k)↔C3 sub p bc R r y R' k):Sm2 sub p X (("row":Str),V.int (n:Nat)) c [r] bc R:=by
 have nw:∀x,Bb (bc++[x]) (("row":Str),V.int (n:Nat))=x:=λx=>Kd (by rw[<- hn,Qn (Pj _),Re];rfl);constructor
 ·intro F R' k g;cases g with
  |cons h t =>
   cases t;rw[nw,Q6];exact(e _ _ _).mpr h
 ·intro y R' k j;have j:X R y R' (c+(k-c)):=by rw[show c+(k-c)=k by lia];exact j
  exact⟨_,k-c,Zqa ((e _ _ _).mp j),(nw y).symm,by lia⟩
end
theorem Zan (h:wd∈(["num","truth"]:List Str)):Bv wd d pl ar rs=((wd,Dg d),rs):=by
 unfold Bv Cj;rw[if_pos h]
theorem Za6 (hd:d=.flat (.str z))(h:C1 ar z=some y):Bv "name" d pl ar rs=(y,rs):=by
 subst hd;unfold Bv Cj;rw[if_neg (by right)];simp only[Dg,if_true,h]
theorem Zcf (h:¬wd∈(["num","truth"]:List Str))(h2:wd="name" -> ∀z,d=.flat (.str z)->C1 ar z=none)(h3:wd="name" -> ∃z,d=.flat (.str z)):Bv wd d pl ar rs=((("row":Str),V.int (rs.length:Nat)),rs++[⟨wd,A1 pl,[],if wd∈WA then ar else []⟩]):=by
 unfold Bv Cj;rw[if_neg h];by_cases j:wd="name"
 ·obtain⟨z,rfl⟩:=h3 j;simp only[Dg,if_pos j,h2 j z rfl]
 ·cases Dg d with
  |str z=>simp only[if_neg j]
  |_=>rfl
theorem Sm2.iff (h:Sm2 sub p X x c m bc R)(e:∀y R' k,Y R y R' k↔X R y R' k):Sm2 sub p Y x c m bc R:=⟨λF R' k g=>(e _ _ _).mpr (h.1 _ _ _ g),λy R' k j=>h.2 _ _ _ ((e _ _ _).mp j)⟩
theorem Zd5 {sub':List Nat->Option (Str×Dt)}{rs R:List Rx}{bc:List (Str×V)}(I:Inv rs bc R){k:Nat}{r:Rx}{d:Dt}(hr:rs[k]?=some r)(hf:r.wd∈(["fn","rec"]:List Str))(hs:sub' (Cs r.pl)=some (r.wd,d))(y:Str×V):Bs R (Bb bc (("row":Str),V.int (k:Nat)))=true/\Ie sub' R (Bb bc (("row":Str),V.int (k:Nat))) y=some (Cs r.pl++[0],A0 bc r.ar++Bt (Cd r.wd d 0) (if r.wd="rec" then [Bb bc (("row":Str),V.int (k:Nat)),y] else [y])):=by
 obtain⟨m,U,h1,h2,j,O,F⟩:=I.fn k r hr hf;rw[Kd h1];constructor
 ·unfold Bs;simp only[Q3];rw[h2];simp only;rw[j,decide_eq_true hf];rfl
 ·unfold Ie;simp only[Q3];rw[h2];simp only[Pr];rw[O,hs,j,F];rfl
theorem two_gap (h:wd∈Br):wd≠"gap"/\(Bh wd).isSome=true:=⟨(Zaw h).2,by rw[(Zaw h).1];rfl⟩
theorem sim {sub sub':List Nat->Option (Str×Dt)}{p:List Nat}{B:Int}(S:SubOk sub)(F:Fil sub sub' p):∀(n:Nat){pl:List Nat}{ar:Ar}{rs:List Rx}{st:Int}{o:Er},EOk sub ar rs st->RLt rs->ev sub B n pl ar rs st=some o->∀{bc:List (Str×V)}{R:List Rx},Inv rs bc R->∃more,o.2.1=rs++more/\Sm2 sub' p (λR y R' k=>Ex sub' pl (A0 bc ar) R y R' k) o.1 (o.2.2-st) more bc R
 |0,_,_,_,_,_,_,_,h,_,_,_=>by rw[ev]at h;cases h
 |n+1,pl,ar,rs,st,o,E,L,h,bc,R,I=>by
  have ih:=@sim sub sub' p B S F n;have hA:AOk bc.length ar:=by rw[I.len];exact E.a
  have keep:∀{m b1 O k1},Gx sub' p m bc R b1 O k1->A0 b1 ar=A0 bc ar:=λg=>by
   obtain⟨_,_,q,rfl,_⟩:=Of g;exact Ji hA
  rw[ev]at h;cases hs:sub pl with
  |none=>rw[hs]at h;cases h
  |some f =>
  obtain⟨wd,d⟩:=f;rw[hs]at h;simp only[Pr]at h;by_cases h1:B<st+A7 wd
  ·rw[if_pos h1]at h;cases h
  rw[if_neg h1]at h;by_cases h2:wd∈Br
  ·rw[if_pos h2]at h;obtain⟨a,ha,h⟩:=Pw.mp h;obtain⟨b,hb,h⟩:=Pw.mp h;have ta:=B0 S n _ _ _ _ _ E.up ha;have Ea:=E.up.on ta;have tb:=B0 S n _ _ _ _ _ Ea hb;have Eb:=Ea.on tb;have La:=Gn S n _ _ _ _ _ E.up L ha;have Lb:=Gn S n _ _ _ _ _ Ea La hb;obtain⟨m1,q1,s1⟩:=ih E.up L ha I;obtain⟨m2,q2⟩:=tb.p;have U:=F.o _ _ hs (F.ne hs (two_gap h2).1);have ia:∀{b1 O k1},Gx sub' p m1 bc R b1 O k1->Inv a.2.1 b1 O:=λg=>by
    rw[q1];exact Il F I (by rw[<- q1];exact La) (RsOk.fn (l:=rs) (by rw[<- q1];exact ta.r)) g
   have ib:∀{b1 O k1 b2 R2 k2},Gx sub' p m1 bc R b1 O k1->Gx sub' p m2 b1 O b2 R2 k2->Inv b.2.1 b2 R2/\Bb b2 a.1=Bb b1 a.1:=λj g2=>by
    have Ia:=ia j;refine⟨?_,?_⟩
    ·rw[q2];exact Il F Ia (by rw[<- q2];exact Lb) (RsOk.fn (l:=a.2.1) (by rw[<- q2];exact tb.r)) g2
    ·obtain⟨_,_,q,rfl,_⟩:=Of g2;exact Zaq (by rw[Ia.len];exact ta.t)
   have sb:∀{b1 O k1},Gx sub' p m1 bc R b1 O k1->Sm2 sub' p (λR y R' k=>Ex sub' (pl++[1]) (A0 bc ar) R y R' k) b.1 (b.2.2-a.2.2) m2 b1 O:=λj=>by
    obtain⟨m,qm,s⟩:=ih Ea La hb (ia j);rw[keep j]at s;rw[q2]at qm;rw[To qm];exact s
   have go:∀m3,(∀b1 O k1 b2 R2 k2,Gx sub' p m1 bc R b1 O k1->Gx sub' p m2 b1 O b2 R2 k2->Sm2 sub' p (λR y R' k=>Fx sub' wd pl (A0 bc ar) [Bb b1 a.1,Bb b2 b.1] R y R' k) o.1 (o.2.2-b.2.2) m3 b2 R2)->Sm2 sub' p (λR y R' k=>Ex sub' pl (A0 bc ar) R y R' k) o.1 (o.2.2-st) (m1++(m2++m3)) bc R:=λm3 hf =>
    (s1.bind (Y:=λa' R y R' k=>eX4 λb' R2 k3 k4=>Ex sub' (pl++[1]) (A0 bc ar) R b' R2 k3/\Fx sub' wd pl (A0 bc ar) [a',b'] R2 y R' k4/\k=k3+k4) (λb1 O k1 j=>(sb j).bind (Y:=λb' R y R' k=>Fx sub' wd pl (A0 bc ar) [Bb b1 a.1,b'] R y R' k) (λb2 R2 k2 g2=>hf b1 O k1 b2 R2 k2 j g2))).one (λy R' k=>two_iff U h2) (by lia) rfl
   have qq:∀m3,o.2.1=b.2.1++m3->o.2.1=rs++(m1++(m2++m3)):=λm3 e=>by rw[e,q2,q1,P8,P8]
   by_cases h3:wd="call"/\Bs b.2.1 a.1=true
   ·rw[if_pos h3]at h;obtain⟨c,hc,h⟩:=Pw.mp h;obtain⟨k,r,ex,hr,hf⟩:=Ha h3.2 (ta.t.up tb.l);obtain⟨d',ad,ag,ae⟩:=Go (y:=b.1) hr hf tb.r;have Ec:=G0 (d:=d') Eb hr hf tb.t;rw[ex,ae]at hc;cases hc;have tc:=B0 S n _ _ _ _ _ Ec h;obtain⟨m3,q3⟩:=tc.p;refine⟨_,qq m3 q3,go m3 λb1 O k1 b2 R2 k2 j g2=>?_⟩;obtain⟨Ib,aa⟩:=ib j g2;have hg:r.wd≠"gap":=λe=>by rw[e]at hf;revert hf;right
    obtain⟨f1,f2⟩:=Zd5 Ib hr hf (F.o _ _ ad (F.ne ad hg)) (Bb b2 b.1);obtain⟨m,qm,s⟩:=ih Ec Lb h Ib;rw[q3]at qm;rw[<- To qm]at s;refine s.iff λy R' k'=>?_;rw[<- aa,ex];unfold Fx;dsimp only;rw[if_pos ⟨h3.1,f1⟩,f2];have e:A0 b2 (r.ar++Bt (Cd r.wd d' 0) (if r.wd="rec" then [(("row":Str),V.int (k:Nat)),b.1] else [b.1]))=A0 b2 r.ar++Bt (Cd r.wd d' 0) (if r.wd="rec" then [Bb b2 (("row":Str),V.int (k:Nat)),Bb b2 b.1] else [Bb b2 b.1]):=by
     rw[Nu,Lq];split <;> rfl
    rw[e];exact⟨λ⟨c,hc,he⟩=>by cases hc;exact he,λhe=>⟨_,rfl,he⟩⟩
   ·rw[if_neg h3]at h;cases h;by_cases Z:wd∈Fd/\a.1.1="num"/\b.1.1="num"
    ·have ej:∀q,Cb wd pl q a.1 b.1=(D3 wd (Ek a.1.2) (Ek b.1.2),q):=λq=>by unfold Cb;rw[if_pos Z]
     rw[ej]at go qq ⊢;refine⟨_,qq [] (by simp),go [] λb1 O k1 b2 R2 k2 j g2=>?_⟩;have n1:Bb b1 a.1=a.1:=D9 (by rw[Z.2.1];right);have n2:Bb b2 b.1=b.1:=D9 (by rw[Z.2.2];right);have n3:∀q,Bb q (D3 wd (Ek a.1.2) (Ek b.1.2))=D3 wd (Ek a.1.2) (Ek b.1.2):=λq=>D9 Zp2;have nf:¬(wd="call"/\Bs R2 a.1=true):=λz=>by rw[z.1]at Z;exact absurd Z.1 (by right)
     have ef:∀y R' k,Fx sub' wd pl (A0 bc ar) [Bb b1 a.1,Bb b2 b.1] R2 y R' k↔y=D3 wd (Ek a.1.2) (Ek b.1.2)/\R'=R2/\k=0:=λy R' k=>by
      rw[n1,n2];unfold Fx;dsimp only;rw[if_neg nf,ej]
     refine Sm2.none ((ef _ _ _).mpr ⟨n3 _,rfl,Int.sub_self _⟩) λy R' k hy=>?_;obtain⟨rfl,rfl,rfl⟩:=(ef _ _ _).mp hy;exact⟨(n3 _).symm,rfl,(Int.sub_self _).symm⟩
    ·have ej:Cb wd pl b.2.1 a.1 b.1=((("row":Str),V.int (b.2.1.length:Nat)),b.2.1++[⟨wd,A1 pl,[a.1,b.1],[]⟩]):=by unfold Cb;rw[if_neg Z]
     rw[ej]at go qq ⊢;refine⟨_,qq _ rfl,go _ λb1 O k1 b2 R2 k2 j g2=>?_⟩;obtain⟨Ib,aa⟩:=ib j g2;refine Sm2.row Ib.len λy R' k=>?_;have np:¬A1 pl=A1 p:=λe=>F.ne hs (two_gap h2).1 (Zao e);unfold C3;rw[if_neg np,if_pos (two_gap h2).2,F3,show b.2.2-b.2.2+k=k by lia,<- aa];exact Iff.rfl
  rw[if_neg h2]at h;by_cases h3:wd="let"
  ·rw[if_pos h3]at h;subst h3;obtain⟨a,ha,h⟩:=Pw.mp h;have ta:=B0 S n _ _ _ _ _ E.up ha;have Ea:=E.up.on ta;have La:=Gn S n _ _ _ _ _ E.up L ha;have E2:=Ea.put ta.t (by have:=E.l;have:=ta.s;lia) (Cd "let" d 1);have tb:=B0 S n _ _ _ _ _ E2 h;obtain⟨m1,q1,s1⟩:=ih E.up L ha I;obtain⟨m2,q2⟩:=tb.p;have U:=F.o _ _ hs (F.ne hs (by right));refine⟨m1++m2,by rw[q2,q1,P8],(s1.bind (Y:=λa' R y R' k=>Ex sub' (pl++[1]) (A0 bc ar++Bt (Cd "let" d 1) [a']) R y R' k) (c2:=o.2.2-a.2.2) λb1 O k1 j=>?_).one (λy R' k=>Zjv U) (by lia) rfl⟩;have Ia:Inv a.2.1 b1 O:=by
    rw[q1];exact Il F I (by rw[<- q1];exact La) (RsOk.fn (l:=rs) (by rw[<- q1];exact ta.r)) j
   obtain⟨m,qm,s⟩:=ih E2 La h Ia;rw[Nu,keep j,Lq]at s;rw[q2]at qm;rw[<- To qm]at s;exact s
  rw[if_neg h3]at h;by_cases Z:wd="if"
  ·rw[if_pos Z]at h;subst Z;obtain⟨a,ha,h⟩:=Pw.mp h;have ta:=B0 S n _ _ _ _ _ E.up ha;have Ea:=E.up.on ta;have La:=Gn S n _ _ _ _ _ E.up L ha;obtain⟨m1,q1,s1⟩:=ih E.up L ha I;have ng:pl≠p:=F.ne hs (by right);have U:=F.o _ _ hs ng;have ia:∀{b1 O k1},Gx sub' p m1 bc R b1 O k1->Inv a.2.1 b1 O:=λg=>by
    rw[q1];exact Il F I (by rw[<- q1];exact La) (RsOk.fn (l:=rs) (by rw[<- q1];exact ta.r)) g
   have go:∀m2,(∀b1 O k1,Gx sub' p m1 bc R b1 O k1->Sm2 sub' p (λR y R' k=>Fx sub' "if" pl (A0 bc ar) [Bb b1 a.1] R y R' k) o.1 (o.2.2-a.2.2) m2 b1 O)->Sm2 sub' p (λR y R' k=>Ex sub' pl (A0 bc ar) R y R' k) o.1 (o.2.2-st) (m1++m2) bc R:=λm2 hf =>
    (s1.bind (Y:=λa' R y R' k=>Fx sub' "if" pl (A0 bc ar) [a'] R y R' k) hf).one (λy R' k=>Zi9 U) (by lia) rfl
   by_cases h5:a.1.1="truth"
   ·rw[if_pos h5]at h;have tb:=B0 S n _ _ _ _ _ Ea h;obtain⟨m2,q2⟩:=tb.p;refine⟨m1++m2,by rw[q2,q1,P8],go m2 λb1 O k1 j=>?_⟩;obtain⟨m,qm,s⟩:=ih Ea La h (ia j);rw[keep j]at s;rw[q2]at qm;rw[<- To qm]at s;refine s.iff λy R' k=>?_;rw[D9 (by rw[h5];right)];unfold Fx;dsimp only;rw[if_pos h5]
   ·rw[if_neg h5]at h;cases h;refine⟨m1++[⟨"if",A1 pl,[a.1],ar⟩],by rw[q1,P8],go _ λb1 O k1 j=>?_⟩;refine Sm2.row (ia j).len λy R' k=>?_;unfold C3;rw[if_neg (λe=>ng (Zao e)),if_pos (show(Bh "if").isSome=true by right),F3,show a.2.2-a.2.2+k=k by lia,show A0 b1 (Rx.mk "if" (A1 pl) [a.1] ar).ar=A0 bc ar from keep j];exact Iff.rfl
  rw[if_neg Z]at h;cases h;obtain⟨n1,n2,n3,_⟩:=S.nt hs;by_cases hp:pl=p
  ·subst hp;obtain⟨d',hg⟩:=F.g;rw[hs]at hg;cases hg;rw[Zcf (by right) (λe=>absurd e (by right)) (λe=>absurd e (by right))];refine⟨[_],rfl,Sm2.row I.len λy R' k=>?_⟩;unfold C3;rw[if_pos rfl,show st+A7 "gap" - st+k=k by rw[show A7 "gap"=0 by right];lia,if_pos (show("gap":Str)∈WA by right)]
  have U:=F.o _ _ hs hp;have cc:st+A7 wd-st=A7 wd:=by lia
  by_cases j:wd∈(["num","truth"]:List Str)
  ·rw[Zan j];have nr:(wd,Dg d).1≠"row":=λe=>by
    have e:wd="row":=e;rw[e]at j;revert j;right
   refine⟨[],by simp,Sm2.none ?_ λy R' k hy=>?_⟩
   ·rw[D9 nr,cc];have:=Ex.leaf (ar:=A0 bc ar) (rs:=R) U h2 h3 Z;rw[Zan j]at this;exact this
   ·obtain⟨e1,e2,e3⟩:=Zai U h2 h3 Z hy;rw[Zan j]at e1 e2;rw[D9 nr,cc];exact⟨e1,e2,e3⟩
  by_cases g2:∃z y,wd="name"/\d=.flat (.str z)/\C1 ar z=some y
  ·obtain⟨z,y0,rfl,e2,e3⟩:=g2;have e4:C1 (A0 bc ar) z=some (Bb bc y0):=by rw[Zff,e3];rfl
   rw[Za6 e2 e3];refine⟨[],by simp,Sm2.none ?_ λy R' k hy=>?_⟩
   ·rw[cc];have:=Ex.leaf (ar:=A0 bc ar) (rs:=R) U h2 h3 Z;rw[Za6 e2 e4]at this;exact this
   ·obtain⟨e1,ac,af⟩:=Zai U h2 h3 Z hy;rw[Za6 e2 e4]at e1 ac;rw[cc];exact⟨e1,ac,af⟩
  have l1:∀z,wd="name" -> d=.flat (.str z)->C1 ar z=none:=λz e1 e2=>by
   cases hl:C1 ar z with
   |none=>rfl
   |some y=>exact absurd ⟨z,y,e1,e2,hl⟩ g2
  have e1:=Zcf (pl:=pl) (rs:=rs) j (λe z hz=>l1 z e hz) n3;have e2:=Zcf (pl:=pl) (ar:=A0 bc ar) (rs:=R) j (λe z hz=>by rw[Zff,l1 z e hz];rfl) n3;rw[e1];refine⟨[_],rfl,Sm2.row I.len λy R' k=>?_⟩;have np:¬A1 pl=A1 p:=λe=>hp (Zao e);unfold C3;rw[if_neg np,if_neg (show ¬(Bh wd).isSome=true by rw[Zc6 h2 h3 Z];decide),cc];have ew:(if wd∈WA then A0 bc (if wd∈WA then ar else []) else [])=if wd∈WA then A0 bc ar else []:=by
   split <;> rfl
  show _↔y=_/\R'=R++[Rx.mk wd (A1 pl) [] (if wd∈WA then A0 bc (if wd∈WA then ar else []) else [])]/\k=0;rw[ew];constructor
  ·intro hy;obtain⟨a1,a2,a3⟩:=Zai U h2 h3 Z hy;rw[e2]at a1 a2;exact⟨a1,a2,by lia⟩
  ·rintro⟨rfl,rfl,rfl⟩;have:=Ex.leaf (ar:=A0 bc ar) (rs:=R) U h2 h3 Z;rw[e2]at this;rw[Q6];exact this
theorem Ny (S:SubOk sub)(F:Fil sub sub' p)(E:EOk sub ar rs st)(L:RLt rs)(I:Inv rs bc R)(xa:Ex sub pl ar rs a r1 k1)(h:ev sub' B' n pl (A0 bc ar) R st'=some o'):EOk sub ar r1 (st+k1)/\RLt r1/\TOk r1.length a/\rs.length<=r1.length/\0<=k1/\∃b1,Inv r1 b1 o'.2.1/\o'.1=Bb b1 a/\∃g,b1=bc++g:=by
 obtain⟨N,e⟩:=Iu xa st;have U:=e N (Qu _) N (Pj _);have ta:=B0 S N _ _ _ _ _ E U;have O:=Gn S N _ _ _ _ _ E L U;obtain⟨m,q,s⟩:=sim S F N E L U I;obtain⟨b1,j,g,Y,_⟩:=s.2 _ _ _ (Jh n h);have q:r1=rs++m:=q;have O:RLt r1:=O;refine⟨E.on ta,O,ta.t,ta.l,Li xa,b1,?_,Y,?_⟩
 ·rw[q]at O ⊢;exact Il F I O (RsOk.fn (l:=rs) (by rw[<- q];exact ta.r)) g
 ·obtain⟨_,_,x,Z,_⟩:=Of g;exact⟨x,Z⟩
theorem Zg5 {sub sub':List Nat->Option (Str×Dt)}{p:List Nat}{B':Int}(S:SubOk sub)(F:Fil sub sub' p):∀(n:Nat){pl:List Nat}{ar:Ar}{rs R:List Rx}{st st':Int}{o':Er}{bc:List (Str×V)},EOk sub ar rs st->RLt rs->Inv rs bc R->(sub pl).isSome=true->ev sub' B' n pl (A0 bc ar) R st'=some o'->eX3 λx r k=>Ex sub pl ar rs x r k/\k<=o'.2.2-st'
 |0,_,_,_,_,_,_,_,_,_,_,_,_,h=>by rw[ev]at h;cases h
 |n+1,pl,ar,rs,R,st,st',o',bc,E,L,I,hp,h=>by
  have U:=@Zg5 sub sub' p B' S F n;have nn:∀{n pl ar R st o},ev sub' B' n pl ar R st=some o->st<=o.2.2:=λ{n _ _ _ _ _} h=>by have:=Li (Jh n h);lia
  have hA:AOk bc.length ar:=by rw[I.len];exact E.a
  obtain⟨⟨wd,d⟩,hs⟩:=Sf.mp hp;by_cases ad:pl=p
  ·obtain⟨d',hg⟩:=F.g;rw[<- ad,hs]at hg;cases hg;exact⟨_,_,_,Ex.leaf hs (by right) (by right) (by right),by rw[show A7 "gap"=0 by right];have:=nn h;lia⟩
  have ae:=F.o _ _ hs ad;rw[ev,ae]at h;simp only[Pr]at h;by_cases h1:B'<st'+A7 wd
  ·rw[if_pos h1]at h;cases h
  rw[if_neg h1]at h;by_cases h2:wd∈Br
  ·rw[if_pos h2]at h;obtain⟨a',j,h⟩:=Pw.mp h;obtain⟨b',aa,h⟩:=Pw.mp h;have m0:wd∈(["plus","minus","less","call","let","if","fn","rec"]:List Str)/\wd∈(["plus","minus","less","call","let","if"]:List Str):=by
    have h2:=h2;unfold Br at h2;simp only[Po,Px,or_false]at h2;rcases h2 with rfl|rfl|rfl|rfl <;> exact⟨by right,by right⟩
   obtain⟨_,p0⟩:=S.p0 hs m0.1;obtain⟨_,p1⟩:=S.p1 hs m0.2;obtain⟨a,r1,k1,O,l1⟩:=U E.up L I (by rw[p0];rfl) j;obtain⟨Ea,La,t1,z1,_,b1,Ia,ea,g,rfl⟩:=Ny S F E.up L I O j;rw[<- Ji (g:=g) hA]at aa;obtain⟨b,r2,k2,Z,l2⟩:=U Ea La Ia (by rw[p1];rfl) aa;obtain⟨Eb,Lb,t2,z2,_,b2,Ib,eb,g',hg⟩:=Ny S F Ea La Ia Z aa;have ah:a'.1=Bb b2 a:=ea.trans (by rw[hg];exact(Zaq (by rw[Ia.len];exact t1)).symm);by_cases hf:wd="call"/\Bs r2 a=true
   ·obtain⟨k,r,ex,hr,Y⟩:=Ha hf.2 (t1.up z2);obtain⟨d',ac,ai,hc⟩:=Go (y:=b) hr Y Eb.r;have af:r.wd≠"gap":=λe=>by rw[e]at Y;revert Y;right
    obtain⟨f1,f2⟩:=Zd5 Ib hr Y (F.o _ _ ac (F.ne ac af)) (Bb b2 b);rw[ah,eb,ex,if_pos ⟨hf.1,f1⟩,f2,Pr]at h;have e:A0 b2 r.ar++Bt (Cd r.wd d' 0) (if r.wd="rec" then [Bb b2 (("row":Str),V.int (k:Nat)),Bb b2 b] else [Bb b2 b])=A0 b2 (r.ar++Bt (Cd r.wd d' 0) (if r.wd="rec" then [(("row":Str),V.int (k:Nat)),b] else [b])):=by
     rw[Nu,Lq];split <;> rfl
    rw[e]at h;have Ec:=G0 (d:=d') Eb hr Y t2;have ag:r.wd∈(["plus","minus","less","call","let","if","fn","rec"]:List Str):=by
     simp only[Po,Px,or_false]at Y ⊢;rcases Y with h|h
     ·exact .inr (.inr (.inr (.inr (.inr (.inr (.inl h))))))
     ·exact .inr (.inr (.inr (.inr (.inr (.inr (.inr h))))))
    obtain⟨_,pc⟩:=S.p0 ac ag;obtain⟨c,r3,k3,xc,l3⟩:=U Ec Lb Ib (by rw[pc];rfl) h;exact⟨c,r3,_,Ex.call (by rw[hs,hf.1]) O Z hf.2 (by rw[ex];exact hc) xc,by lia⟩
   ·refine⟨_,_,_,Ex.join hs h2 O Z hf,?_⟩;have:b'.2.2<=o'.2.2:=by
     split at h
     ·obtain⟨c,_,h⟩:=Pw.mp h;exact nn h
     ·cases h;exact Qu _
    lia
  rw[if_neg h2]at h;by_cases h3:wd="let"
  ·rw[if_pos h3]at h;subst h3;obtain⟨a',j,h⟩:=Pw.mp h;obtain⟨_,p0⟩:=S.p0 hs (by right);obtain⟨_,p1⟩:=S.p1 hs (by right);obtain⟨a,r1,k1,O,l1⟩:=U E.up L I (by rw[p0];rfl) j;obtain⟨Ea,La,t1,z1,y1,b1,Ia,ea,g,rfl⟩:=Ny S F E.up L I O j;have E2:=Ea.put t1 (by have:=E.l;lia) (Cd "let" d 1);have e:A0 bc ar++Bt (Cd "let" d 1) [a'.1]=A0 (bc++g) (ar++Bt (Cd "let" d 1) [a]):=by
    rw[Nu,Lq,Ji hA,ea];rfl
   rw[e]at h;obtain⟨b,r2,k2,Z,l2⟩:=U E2 La Ia (by rw[p1];rfl) h;exact⟨b,r2,_,Ex.lets hs O Z,by lia⟩
  rw[if_neg h3]at h;by_cases h4:wd="if"
  ·rw[if_pos h4]at h;subst h4;obtain⟨a',j,h⟩:=Pw.mp h;obtain⟨_,p0⟩:=S.p0 hs (by right);obtain⟨_,p1⟩:=S.p1 hs (by right);obtain⟨_,p2⟩:=S.p2 hs rfl;obtain⟨a,r1,k1,O,l1⟩:=U E.up L I (by rw[p0];rfl) j;obtain⟨Ea,La,t1,z1,y1,b1,Ia,ea,g,rfl⟩:=Ny S F E.up L I O j;by_cases h5:a.1="truth"
   ·rw[D9 (by rw[h5];right)]at ea;rw[ea,if_pos h5,<- Ji (g:=g) hA]at h;have pb:(sub (pl++[if a.2=.bl true then 1 else 2])).isSome=true:=by
     split
     ·rw[p1];rfl
     ·rw[p2];rfl
    obtain⟨b,r2,k2,Z,l2⟩:=U Ea La Ia pb h;exact⟨b,r2,_,Ex.ifT hs O h5 Z,by lia⟩
   ·refine⟨_,_,_,Ex.ifN hs O h5,?_⟩;have:a'.2.2<=o'.2.2:=by
     split at h
     ·exact nn h
     ·cases h;exact Qu _
    lia
  rw[if_neg h4]at h;cases h;exact⟨_,_,_,Ex.leaf hs h2 h3 h4,by show A7 wd<=st'+A7 wd-st';lia⟩
theorem Inv0:Inv [] [] []:=⟨rfl,λi r h=>by simp at h⟩
theorem Zb5:RLt []:=λk r h=>by simp at h
theorem Zfm (S:SubOk sub)(S':SubOk sub')(F:Fil sub sub' p)(h0:(sub []).isSome=true):(ev sub 500 501 [] [] [] 0=none->ev sub' 500 501 [] [] [] 0=none)/\∀o,ev sub 500 501 [] [] [] 0=some o->(∀o',ev sub' 500 501 [] [] [] 0=some o'->∃bc' k',Gx sub' p o.2.1 [] [] bc' o'.2.1 k'/\o'.1=Bb bc' o.1/\o'.2.2=o.2.2+k')/\∀bc' R' k,Gx sub' p o.2.1 [] [] bc' R' k->o.2.2+k<=500->ev sub' 500 501 [] [] [] 0=some (Bb bc' o.1,R',o.2.2+k):=by
 refine⟨λI=>?_,λo h=>?_⟩
 ·cases h':ev sub' 500 501 [] [] [] 0 with
  |none=>rfl
  |some o' =>
   have Y:=(B0 S' 501 _ _ _ _ _ (Fi sub') h').b;obtain⟨x,r,k,U,j⟩:=Zg5 S F 501 (bc:=[]) (Fi sub) Zb5 Inv0 h0 h';obtain⟨N,e⟩:=Iu U 0;have h1:=e N (Qu _) N (Pj _);have h2:=Zdb (B:=500) S N 501 _ _ _ _ _ (Fi sub) (by decide) (by decide) h1 (by show 0+k<=500;lia);rw[I]at h2;cases h2
 ·obtain⟨m,q,s⟩:=sim S F 501 (Fi sub) Zb5 h Inv0;rw[Sx]at q;subst q;refine⟨λo' h'=>?_,λbc' R' k g j=>?_⟩
  ·obtain⟨bc',k',g,O,Z⟩:=s.2 _ _ _ (Jh 501 h');exact⟨bc',k',g,O,by lia⟩
  ·obtain⟨N,e⟩:=Iu (s.1 _ _ _ g) 0;have h1:=e N (Qu _) N (Pj _);rw[show 0+(o.2.2-0+k)=o.2.2+k by lia]at h1;exact Zdb (B:=500) S' N 501 _ _ _ _ _ (Fi sub') (by decide) (by decide) h1 j
structure Shp (sub:List Nat->Option (Str×Dt))(r:Rx):Prop where
 s:∃d,sub (Cs r.pl)=some (r.wd,d)
 p:r.pl=A1 (Cs r.pl)
 t:r.wd∈Br->∃x y,r.ops=[x,y]
 i:r.wd="if" -> ∃x,r.ops=[x]
 l:r.wd≠"let"
theorem Shp.mk1 (hs:sub pl=some (wd,d))(t:wd∈Br->∃x y,ops=[x,y])(i:wd="if" -> ∃x,ops=[x])(l:wd≠"let"):Shp sub ⟨wd,A1 pl,ops,ar⟩:=⟨⟨d,by show sub (Cs (A1 pl))=_;rw[F3];exact hs⟩,by show A1 pl=A1 (Cs (A1 pl));rw[F3],t,i,l⟩
theorem Zlp (wd:Str)(d:Dt)(pl:List Nat)(ar:Ar)(rs:List Rx):(Bv wd d pl ar rs).2=rs\/∃ar',(Bv wd d pl ar rs).2=rs++[⟨wd,A1 pl,[],ar'⟩]:=by
 unfold Bv Cj;split
 ·exact .inl rfl
 split
 ·exact .inl rfl
 ·exact .inr ⟨_,rfl⟩
theorem Zug (h:Ex sub pl ar rs x r' k):(∀r∈rs,Shp sub r)->∀r∈r',Shp sub r:=by
 have add:∀{l:List Rx}{q:Rx},(∀r∈l,Shp sub r)->Shp sub q->∀r∈l++[q],Shp sub r:=λh1 h2 r j=>by
  rcases Rl.mp j with j|j
  ·exact h1 r j
  ·rw[Qw.mp j];exact h2
 induction h with
 |call _ _ _ _ _ _ i1 i2 Y=>exact λh=>Y (i2 (i1 h))
 | @join pl _ _ _ Z wd d a b _ _ hs F _ _ _ i1 i2 =>
  intro h;have h2:=i2 (i1 h);unfold Cb;split
  ·exact h2
  ·exact add h2 (.mk1 hs (λ_=>⟨_,_,rfl⟩) (λe=>by rw[e]at F;exact absurd F (by right)) (λe=>by rw[e]at F;exact absurd F (by right)))
 |lets _ _ _ i1 i2=>exact λh=>i2 (i1 h)
 |ifT _ _ _ _ i1 i2=>exact λh=>i2 (i1 h)
 |ifN hs _ _ i1=>exact λh=>add (i1 h) (.mk1 hs (λe=>absurd e (by right)) (λ_=>⟨_,rfl⟩) (by right))
 | @leaf pl ar rs wd d hs h2 O U =>
  intro h;rcases Zlp wd d pl ar rs with e|⟨I,e⟩ <;> rw[e]
  ·exact h
  ·exact add h (.mk1 hs (λe=>absurd e h2) (λe=>absurd e U) O)
theorem RunX.m (h:RunX sub n S o):∀S',o=some S'->RunM sub n S S':=by
 induction h with
 |nil h=>intro S' e;cases e;exact .nil h
 |last=>intro S' e;cases e
 |cons a b _ j=>exact λS' e=>.cons a b (j S' e)
theorem RunX.l (h:RunX sub n S o):o=none->RunL sub n S:=by
 induction h with
 |nil h=>intro e;cases e
 |last a b c d e f=>intro _;exact .last a b c d e f
 |cons a b _ j=>exact λe=>.cons a b (j e)
def Dc (sub:List Nat->Option (Str×Dt))(R:List Rx)(st:Int)(S:MS)(X:Str×V->List Rx->Int->Prop):Prop :=
 (eX3 λx R1 k=>X x R1 k/\st+k<=500/\Goes sub S ⟨R1,[],[x],st+k⟩/\Told sub 500 R st (x,R1,st+k))\/((∃m,RunX sub m S none)/\∀x R1 k,X x R1 k->500<st+k)
section
variable {sub:List Nat->Option (Str×Dt)}(S:SubOk sub){pl:List Nat}{ar:Ar}{R:List Rx}{st:Int}{wd:Str}{d:Dt}
include S
theorem O5 (E:EOk sub ar R st)(hp:(sub pl).isSome=true)(Z:(R.length:Int)+4*(500-st)<=5000)(hst:st<=500):Dc sub R st ⟨R,[⟨pl,ar,false⟩],[],st⟩ (λx R1 k=>Ex sub pl ar R x R1 k):=by
 have O:=E.z;obtain⟨g,I⟩:=Ou S 501 pl ar R st E (by lia) hp [] [] ⟨Z,by show((0:Nat):Int)+3*(500-st)<=5000;lia,by show((0:Nat):Int)+2*(500-st)<=5000;lia,hst⟩;cases h:ev sub 500 501 pl ar R st with
 |some o =>
  have t:=B0 S 501 _ _ _ _ _ E h;have e:st+(o.2.2-st)=o.2.2:=by lia
  exact .inl ⟨o.1,o.2.1,o.2.2-st,Jh 501 h,by rw[e];exact t.b,by rw[e];exact g o h,by rw[e];exact t⟩
 |none =>
  refine .inr ⟨I h,λx R1 k F=>?_⟩;by_cases j:st+k<=500
  ·obtain⟨N,e⟩:=Iu F st;have h1:=e N (Qu _) N (Pj _);have h2:=Zdb (B:=500) S N 501 _ _ _ _ _ E (by lia) hst h1 j;rw[h]at h2;cases h2
  ·lia
theorem Zmi {ops:List (Str×V)}(hs:sub pl=some (wd,d))(E:EOk sub ar R st)(ho:∀x∈ops,TOk R.length x)(Z:(R.length:Int)+4*(500-st)<=5000)(hst:st<=500)(hsh:(wd∈Br/\∃x y,ops=[x,y])\/wd="if" /\ ∃x,ops=[x]):Dc sub R st ⟨R,[⟨pl,ar,true⟩],ops,st⟩ (λx R1 k=>Fx sub wd pl ar ops R x R1 k):=by
 have h0:=E.z;have O:ar.length<=9000:=by have:=E.l;lia
 have hl:R.length<9000:=by lia
 have up:∀{S1 S2:MS}{X Y:Str×V->List Rx->Int->Prop},Goes sub S1 S2->(∀x R1 k,Y x R1 k↔X x R1 k)->Dc sub R st S2 X->Dc sub R st S1 Y:=λ{S1 S2 X Y} g e h=>by
  rcases h with⟨x,R1,k,h1,h2,h3,h4⟩|⟨⟨m,h1⟩,h2⟩
  ·exact .inl ⟨x,R1,k,(e _ _ _).mpr h1,h2,g.trans h3,h4⟩
  ·exact .inr ⟨g _ _ h1,λx R1 k h=>h2 x R1 k ((e _ _ _).mp h)⟩
 rcases hsh with⟨h2,x,y,rfl⟩|⟨rfl,x,rfl⟩
 ·have tx:=ho x (by simp);have ty:=ho y (by simp);have F:En ⟨R,[⟨pl,ar,true⟩],[x,y],st⟩:=⟨hl,by show 1<9000;decide,by show 2<9000;decide⟩;by_cases h4:wd="call"/\Bs R x=true
  ·obtain⟨k,r,ex,hr,U⟩:=Ha h4.2 tx;obtain⟨d',aa,ah,hc⟩:=Go (y:=y) hr U E.r;have ak:=((E.r k r hr).2.2 U).1;have j:Dm sub ⟨R,[⟨pl,ar,true⟩],[x,y],st⟩ _:=.further (S:=⟨R,[⟨pl,ar,true⟩],[x,y],st⟩) (w:=[]) rfl rfl hs (.calls (k:=k) (y:=y) (th:=[]) h4.1 (by show[x,y]=_;rw[ex];rfl) hr U ah aa (S.nt aa).2.2.2 (by lia)) O;have aj:r.wd∈(["plus","minus","less","call","let","if","fn","rec"]:List Str):=by
    simp only[Po,Px,or_false]at U ⊢;rcases U with h|h
    ·exact .inr (.inr (.inr (.inr (.inr (.inr (.inl h))))))
    ·exact .inr (.inr (.inr (.inr (.inr (.inr (.inr h))))))
   obtain⟨pc,ai⟩:=S.p0 aa aj;refine up (Goes.step F j) (λx1 R1 k1=>?_) (O5 S (G0 (d:=d') E hr U ty) (by rw[ai];rfl) Z hst);unfold Fx;dsimp only;rw[if_pos h4,ex,hc];exact⟨λ⟨c,hc,he⟩=>by cases hc;exact he,λhe=>⟨_,rfl,he⟩⟩
  ·have ad:wd∈Fd\/wd="call"/\Bs R x=false:=by
    by_cases hc:wd="call"
    ·exact .inr ⟨hc,by cases hq:Bs R x with|false=>rfl|true=>exact absurd ⟨hc,hq⟩ h4⟩
    ·refine .inl ?_;have h2:=h2;unfold Br at h2;unfold Fd;simp only[Po,Px,or_false]at h2 ⊢;rcases h2 with h|h|h|h
     ·exact .inl h
     ·exact .inr (.inl h)
     ·exact .inr (.inr h)
     ·exact absurd h hc
   have j:Dm sub ⟨R,[⟨pl,ar,true⟩],[]++[x]++[y],st⟩ _:=.further (S:=⟨R,[⟨pl,ar,true⟩],[]++[x]++[y],st⟩) (w:=[]) rfl rfl hs (.two (x:=x) (y:=y) (th:=[]) ad rfl tx.row tx.num ty.num) O;rw[Zhz]at j;refine .inl ⟨(Cb wd pl R x y).1,(Cb wd pl R x y).2,0,?_,by lia,?_,?_⟩
   ·unfold Fx;dsimp only;rw[if_neg h4];exact⟨rfl,rfl,rfl⟩
   ·rw[Q6];exact Goes.step F j
   ·rw[Q6];exact Zip hst h2 (S.ln hs) h0 E.r tx ty
 ·have tx:=ho x (by simp);have F:En ⟨R,[⟨pl,ar,true⟩],[x],st⟩:=⟨hl,by show 1<9000;decide,by show 1<9000;decide⟩;obtain⟨p1,ag⟩:=S.p1 hs (by right);obtain⟨p2,ae⟩:=S.p2 hs rfl;by_cases h7:x.1="truth"
  ·obtain⟨I,ac⟩:∃I,x=(("truth":Str),V.bl I):=by
    rcases tx with⟨h,_⟩|⟨_,I,h⟩|⟨h,_⟩
    ·rw[h7]at h;exact absurd h (by right)
    ·exact⟨I,by rw[<- h7,<- h]⟩
    ·rw[h7]at h;exact absurd h (by right)
   have eb:(if x.2=V.bl true then 1 else 2)=(if I=true then 1 else 2):=by rw[ac];cases I <;> rfl
   have j:Dm sub ⟨R,[⟨pl,ar,true⟩],[x],st⟩ _:=.further (S:=⟨R,[⟨pl,ar,true⟩],[x],st⟩) (w:=[]) rfl rfl hs (.ifs (b:=I) (th:=[]) rfl (by show[x]=_;rw[ac];rfl) (S.nt hs).2.2.2) O;have ez:Bt (Cd "if" d (if I then 1 else 2:Nat)) []=[]:=by unfold Bt;exact List.zip_nil_right
   unfold Hk at j;rw[ez,Q0]at j;have af:(sub (pl++[if I=true then 1 else 2])).isSome=true:=by
    cases I with
    |false=>show(sub (pl++[2])).isSome=true;rw[ae];rfl
    |true=>show(sub (pl++[1])).isSome=true;rw[ag];rfl
   refine up (Goes.step F j) (λx1 R1 k1=>?_) (O5 S E af Z hst);unfold Fx;dsimp only;rw[if_pos h7,eb]
  ·have j:Dm sub ⟨R,[⟨pl,ar,true⟩],[x],st⟩ _:=.further (S:=⟨R,[⟨pl,ar,true⟩],[x],st⟩) (w:=[]) rfl rfl hs (.ifr (x:=x) (th:=[]) rfl rfl h7) O;refine .inl ⟨(("row":Str),.int (R.length:Nat)),R++[⟨"if",A1 pl,[x],ar⟩],0,?_,by lia,?_,?_⟩
   ·unfold Fx;dsimp only;rw[if_neg h7];exact⟨rfl,rfl,rfl⟩
   ·rw[Q6];exact Goes.step F j
   ·rw[Q6];have hl:(R++[(⟨"if",A1 pl,[x],ar⟩:Rx)]).length=R.length+1:=by simp
    exact⟨Qu _,hst,by show TOk (R++_).length _;rw[hl];exact Ks _,E.r.snoc E.a ⟨by show(A1 pl).length<=5000;unfold A1;rw[Pp];exact S.ln hs,by show 1<=2;lia,E.l⟩ (λU=>absurd U (by show ¬("if":Str)∈(["fn","rec"]:List Str);right)),by show R.length<=(R++_).length;rw[hl];lia,by show(((R++_).length:Nat):Int)<=R.length+4*(st-st)+1;rw[hl];lia,_,rfl⟩
end
theorem Zg4 (h:TOk bc.length x)(hb:∀y∈bc,TOk m y):TOk m (Bb bc x):=by
 rcases id h with⟨e,_⟩|⟨e,_⟩|⟨e,k,F,j⟩
 ·rw[D9 (by rw[e];right)];rcases h with h|h|⟨h,_⟩
  ·exact .inl h
  ·exact .inr (.inl h)
  ·rw[e]at h;exact absurd h (by right)
 ·rw[D9 (by rw[e];right)];rcases h with h|h|⟨h,_⟩
  ·exact .inl h
  ·exact .inr (.inl h)
  ·rw[e]at h;exact absurd h (by right)
 ·have ex:x=(("row":Str),V.int (k:Nat)):=by rw[<- e,<- F]
  rw[ex,Kd (Pk j)];exact hb _ (Vb j)
theorem TOk.now (h:TOk n x):Jl n x:=λe=>by
 rcases h with⟨h,_⟩|⟨h,_⟩|⟨_,h⟩
 ·rw[e]at h;exact absurd h (by right)
 ·rw[e]at h;exact absurd h (by right)
 ·exact h
structure RwF (sub:List Nat->Option (Str×Dt))(p:List Nat)(n:Int)(i:Nat)(r:Rx):Prop where
 a:AOk i r.ar
 o:∀x∈r.ops,TOk i x
 lp:r.pl.length<=5000
 lo:r.ops.length<=2
 la:(r.ar.length:Int)<=2*n
 lf:r.wd∈(["fn","rec"]:List Str)->(r.ar.length:Int)+2<=2*n
 sh:r.pl≠A1 p->Shp sub r
theorem Zkq (S:SubOk sub)(hp:(sub p).isSome=true)(W:RwF sub p n bc.length r)(hb:∀x∈bc,TOk R.length x)(hR:RsOk sub R st)(h0:0<=n)(hn:n<=st)(hst:st<=500)(Z:(R.length:Int)+4*(500-st)<=5000) :
  (eX3 λx R1 k=>C3 sub p bc R r x R1 k/\st+k<=500/\RowG sub p bc r ⟨R,[],[],st⟩ ⟨R1,[],[],st+k⟩ x/\Told sub 500 R st (x,R1,st+k))\/(Ii sub p bc r ⟨R,[],[],st⟩ none/\∀x R1 k,C3 sub p bc R r x R1 k->500<st+k):=by
 have hA:AOk R.length (A0 bc r.ar):=λy F=>by
  unfold A0 at F;obtain⟨z,Y,rfl⟩:=Rf.mp F;exact Zg4 (W.a z Y) hb
 have hL:((A0 bc r.ar).length:Int)<=2*st:=by unfold A0;rw[Pp];have:=W.la;lia
 have E:EOk sub (A0 bc r.ar) R st:=⟨hA,hL,hR,by lia⟩;have hO:∀x∈Cz bc r.ops,TOk R.length x:=λx j=>by
  unfold Cz at j;obtain⟨z,Y,rfl⟩:=Rf.mp j;exact Zg4 (W.o z Y) hb
 by_cases h1:r.pl=A1 p
 ·have ex:∀x R1 k,C3 sub p bc R r x R1 k↔Ex sub p (A0 bc r.ar) R x R1 k:=λx R1 k=>by unfold C3;rw[if_pos h1]
  rcases O5 S E hp Z hst with⟨x,R1,k,j,hk,g,t⟩|⟨⟨m,X⟩,j⟩
  ·obtain⟨m,X⟩:=g 0 _ (.nil rfl);exact .inl ⟨x,R1,k,(ex _ _ _).mpr j,hk,RowG.fill (S:=⟨R,[],[],st⟩) (S':=⟨R1,[],[x],st+k⟩) (th:=[]) h1 (X.m _ rfl) rfl,t⟩
  ·exact .inr ⟨.lateF h1 (X.l rfl),λx R1 k h=>j _ _ _ ((ex _ _ _).mp h)⟩
 have H:=W.sh h1;obtain⟨d,hs⟩:=H.s;by_cases h2:(Bh r.wd).isSome=true
 ·have ex:∀x R1 k,C3 sub p bc R r x R1 k↔Fx sub r.wd (Cs r.pl) (A0 bc r.ar) (Cz bc r.ops) R x R1 k:=λx R1 k=>by unfold C3;rw[if_neg h1,if_pos h2]
  have aa:(r.wd∈Br/\∃x y,Cz bc r.ops=[x,y])\/r.wd="if" /\ ∃x,Cz bc r.ops=[x]:=by
   by_cases U:r.wd∈Br
   ·obtain⟨x,y,e⟩:=H.t U;exact .inl ⟨U,_,_,by unfold Cz;rw[e];rfl⟩
   ·by_cases g4:r.wd="if"
    ·obtain⟨x,e⟩:=H.i g4;exact .inr ⟨g4,_,by unfold Cz;rw[e];rfl⟩
    ·rw[Zc6 U H.l g4]at h2;cases h2
  rcases Zmi S hs E hO Z hst aa with⟨x,R1,k,j,hk,g,t⟩|⟨⟨m,X⟩,j⟩
  ·obtain⟨m,X⟩:=g 0 _ (.nil rfl);exact .inl ⟨x,R1,k,(ex _ _ _).mpr j,hk,RowG.parts (S:=⟨R,[],[],st⟩) (S':=⟨R1,[],[x],st+k⟩) (th:=[]) H.p h1 h2 (X.m _ rfl) rfl,t⟩
  ·exact .inr ⟨.lateP H.p h1 h2 (X.l rfl),λx R1 k h=>j _ _ _ ((ex _ _ _).mp h)⟩
 ·have I:(Bh r.wd).isSome=false:=by cases h:(Bh r.wd).isSome with|false=>rfl|true=>exact absurd h h2
  have G:=RowG.new (sub:=sub) (fl:=p) (bc:=bc) (S:=⟨R,[],[],st⟩) H.p h1 I;rw[<- H.p]at G;refine .inl ⟨_,_,0,by unfold C3;rw[if_neg h1,if_neg h2];exact⟨rfl,rfl,rfl⟩,by lia,by rw[Q6];exact G,?_⟩;rw[Q6];have O:(R++[(⟨r.wd,r.pl,Cz bc r.ops,if r.wd∈WA then A0 bc r.ar else []⟩:Rx)]).length=R.length+1:=by simp
  have ha:AOk R.length (if r.wd∈WA then A0 bc r.ar else []):=by
   split
   ·exact hA
   ·exact λy F=>nomatch F
  have ac:((if r.wd∈WA then A0 bc r.ar else []).length:Int)<=r.ar.length:=by
   split
   ·unfold A0;rw[Pp];exact Qu _
   ·show((0:Nat):Int)<=_;lia
  have:=W.la;refine⟨Qu _,hst,by show TOk (R++_).length _;rw[O];exact Ks _,hR.snoc ha ⟨W.lp,by show(Cz bc r.ops).length<=2;unfold Cz;rw[Pp];exact W.lo,by show((if r.wd∈WA then A0 bc r.ar else []).length:Int)<=2*st;lia⟩ (λhf=>⟨?_,H.p,d,hs⟩),by show R.length<=(R++_).length;rw[O];lia,by show(((R++_).length:Nat):Int)<=R.length+4*(st-st)+1;rw[O];lia,_,rfl⟩;have:=W.lf hf;show((if r.wd∈WA then A0 bc r.ar else []).length:Int)+2<=2*st;lia
theorem Zf9 (S:SubOk sub)(hp:(sub p).isSome=true)(h0:0<=n):∀(l:List Rx)(bc:List (Str×V))(R:List Rx)(st:Int),(∀(j:Nat)(r:Rx),l[j]?=some r->RwF sub p n (bc.length+j) r)->(∀x∈bc,TOk R.length x)->RsOk sub R st->n<=st->st<=500->(R.length:Int)+l.length+4*(500-st)<=5000 ->
  (eX3 λbc' R' k=>Gx sub p l bc R bc' R' k/\st+k<=500/\Fg sub p l bc ⟨R,[],[],st⟩ (some (bc',⟨R',[],[],st+k⟩))/\bc'.length=bc.length+l.length)\/(Fg sub p l bc ⟨R,[],[],st⟩ none/\∀bc' R' k,Gx sub p l bc R bc' R' k->500<st+k)
 |[],bc,R,st,_,_,_,_,U,_=>.inl ⟨bc,R,0,.nil,by lia,by rw[Q6];exact .nil,rfl⟩
 |r::l,bc,R,st,hr,hb,hR,hn,U,Z=>by
  have W:=hr 0 r rfl;rw[Nat.add_zero]at W;rw[Qc]at Z;have ok:Lu bc.length r:=⟨λy F=>(W.o y F).now,λy F=>(W.a y F).now,by have:=W.lo;lia,by have:=W.la;lia⟩;have z1:R.length<9000:=by lia
  rcases Zkq S hp W hb hR h0 hn U (by lia) with⟨x,Y,k,O,hk,G,t⟩|⟨G,O⟩
  ·have k0:=(Zc9 O).2;have tl:R.length<=Y.length:=t.l;have tm:(Y.length:Int)<=R.length+4*(st+k-st)+1:=t.m;have ac:∀y∈bc++[x],TOk Y.length y:=λy F=>by
    rcases Rl.mp F with F|F
    ·exact(hb y F).up tl
    ·rw[Qw.mp F];exact t.t
   have aa:∀(j:Nat)(q:Rx),l[j]?=some q->RwF sub p n ((bc++[x]).length+j) q:=λj q hq=>by
    have:=hr (j+1) q hq;rw[Pn,Py,Nat.add_assoc,Nat.add_comm 1 j];exact this
   rcases Zf9 S hp h0 l (bc++[x]) Y (st+k) aa ac t.r (by lia) hk (by lia) with⟨bc',R',k',g,ad,GG,hl⟩|⟨GG,hg⟩
   ·refine .inl ⟨bc',R',k+k',.cons O g,by lia,?_,by rw[hl,Pn,Py,Qc];lia⟩;rw[<- Int.add_assoc];exact .cons z1 (by show 0<8000;decide) ok G GG
   ·refine .inr ⟨.cons z1 (by show 0<8000;decide) ok G GG,λbc' R' kk g=>?_⟩;cases g with
    |cons I t' =>
     obtain⟨rfl,rfl,rfl⟩:=Zmh O I;have:=hg _ _ _ t';lia
  ·refine .inr ⟨.late z1 (by show 0<8000;decide) ok G,λbc' R' kk g=>?_⟩;cases g with
   |cons I t' =>
    have:=O _ _ _ I;have:=(Of t').1;lia
theorem Zlc (S:SubOk sub)(S':SubOk sub')(F:Fil sub sub' p)(h0:(sub []).isSome=true)(hp:(sub' p).isSome=true)(h:ev sub 500 501 [] [] [] 0=some o):∃oo,Fg sub' p o.2.1 [] ⟨[],[],[],o.2.2⟩ oo/\(∀bc S1,oo=some (bc,S1)->Jl bc.length o.1/\ev sub' 500 501 [] [] [] 0=some (Bb bc o.1,S1.rows,S1.steps))/\(oo=none->ev sub' 500 501 [] [] [] 0=none):=by
 obtain⟨_,g⟩:=Zfm S S' F h0;obtain⟨g1,g2⟩:=g o h;have t:=B0 S 501 _ _ _ _ _ (Fi sub) h;have L:=Gn S 501 _ _ _ _ _ (Fi sub) Zb5 h;have sh:=Zug (Jh 501 h) (λr I=>nomatch I);have tb:=t.b;have ts:=t.s;have Z:(o.2.1.length:Int)<=(([]:List Rx).length:Nat)+4*(o.2.2-0)+1:=t.m;have Z:(o.2.1.length:Int)<=((0:Nat):Int)+4*(o.2.2-0)+1:=Z;have rows:∀(j:Nat)(r:Rx),o.2.1[j]?=some r->RwF sub' p o.2.2 (([]:List (Str×V)).length+j) r:=λj r I=>by
  obtain⟨a1,⟨a2,a3,a4⟩,a5⟩:=t.r j r I;obtain⟨b1,b2⟩:=L j r I;have H:=sh r (Qo I);rw[show([]:List (Str×V)).length+j=j from Vx j];refine⟨b1,b2,a2,a3,a4,λhf=>(a5 hf).1,λU=>?_⟩;obtain⟨d,hd⟩:=H.s;exact⟨⟨d,F.o _ _ hd λe=>U (by rw[H.p,e])⟩,H.p,H.t,H.i,H.l⟩
 rcases Zf9 S' hp ts o.2.1 [] [] o.2.2 rows (λx hx=>nomatch hx) (λk r I=>by simp at I) (Qu _) tb (by show((0:Nat):Int)+_+_<=5000;lia) with⟨Y,R',k,O,hk,G,hl⟩|⟨G,hg⟩
 ·refine⟨_,G,λbc S1 e=>?_,λe=>by cases e⟩;cases e;refine⟨?_,g2 _ _ _ O hk⟩;rw[hl];exact(t.t.up (by show o.2.1.length<=0+o.2.1.length;lia)).now
 ·refine⟨_,G,(λbc S1 e=>by cases e),λ_=>?_⟩;cases h':ev sub' 500 501 [] [] [] 0 with
  |none=>rfl
  |some o' =>
   obtain⟨Y,k',O,_,e⟩:=g1 o' h';have:=hg _ _ _ O;have:=(B0 S' 501 _ _ _ _ _ (Fi sub') h').b;lia
theorem Zf1:∀(pl:List Nat)(ts:List Tr)(i:Nat)(u:Tr),Bk pl i (ts++[u])=Bk pl i ts++walk (pl++[i+ts.length]) u
 |pl,[],i,u=>by
  rw[Sx,Bk,Bk,Bk,Q0];simp
 |pl,t::r,i,u=>by
  rw[Su,Bk,Bk,Zf1 pl r (i+1) u,P8,Qc,show i+1+r.length=i+(r.length+1) by lia]
theorem Ztz (ts:List Tr)(j:Nat):Bj (ts.take j)<=Bj ts:=by
 have:=Zh4 (ts.take j) (ts.drop j);rw[List.take_append_drop]at this;lia
theorem Zpr {α:Type}{l:List α}{i:Nat}{c:α}(h:l[i]?=some c):l.take (i+1)=l.take i++[c]:=by rw[R6,h];rfl
theorem Zif (s:Sub t pl):(path t pl)[pl.length]?=Co t pl:=by
 induction s with
 |nil t=>rw[Es];cases t;rfl
 | @cons w n ts j t r h s F=>rw[Kw h,Fj,h,Qc,Tl];exact F
mutual
theorem Zin:∀(t:Tr)(x:List Nat×Tr),x∈walk [] t->Sub t x.1/\(path t x.1)[x.1.length]?=some x.2
 |.mk w n ps,x,h=>by
  rw[walk]at h;rcases Po.mp h with rfl|h
  ·exact⟨.nil _,rfl⟩
  ·obtain⟨j,t,r,F,I,U,O⟩:=Zih 0 ps x h;rw[I,Vx];refine⟨.cons F U,?_⟩;rw[Kw F,Qc,Tl];exact O
theorem Zih:∀(i:Nat)(ts:List Tr)(x:List Nat×Tr),x∈Bk [] i ts->eX3 λ(j:Nat)(t:Tr)(r:List Nat)=>ts[j]?=some t/\x.1=(i+j)::r/\Sub t r/\(path t r)[r.length]?=some x.2
 |i,[],x,h=>by rw[Bk]at h;cases h
 |i,t::r,x,h=>by
  rw[Bk]at h;rcases Rl.mp h with h|h
  ·rw[Sx,Zaa]at h;obtain⟨y,Y,rfl⟩:=Rf.mp h;obtain⟨a,b⟩:=Zin t y Y;exact⟨0,t,y.1,rfl,rfl,a,b⟩
  ·obtain⟨j,u,q,F,U,O,I⟩:=Zih (i+1) r x h;exact⟨j+1,u,q,F,by rw[U];congr 1;lia,O,I⟩
end
theorem Zu0 (s:Sub t pl)(q:List Nat):Co (withAt t pl f) (pl++q)=Co f q:=by
 induction s with
 |nil t=>cases t;rw[withAt,Sx]
 | @cons w n ts j t r h s F =>
  rw[with_cons h,Su,Fj,Sg (Pt.mp h).1,Pr];exact F
theorem Zn5 (s:Sub t pl)(hg:Co t pl=some g)(h0:g.ps=[]):∀{q:List Nat}{u:Tr},Co t q=some u->q≠pl->∃u',Co (withAt t pl f) q=some u'/\u'.wd=u.wd/\Ft u'=Ft u:=by
 induction s with
 |nil t =>
  intro q u F I;rw[Es]at hg;cases hg;cases g with
  |mk w n ts =>
   have h0:ts=[]:=h0;subst h0;cases q with
   |nil=>exact absurd rfl I
   |cons i r=>rw[Fj]at F;cases F
 | @cons w n ts j t r h s O =>
  intro q u F I;rw[Fj,h,Pr]at hg;rw[with_cons h];cases q with
  |nil =>
   rw[Es]at F;cases F;exact⟨_,Es _,rfl,rfl⟩
  |cons i q =>
   rw[Fj]at F ⊢;by_cases e:i=j
   ·subst e;rw[h,Pr]at F;rw[Sg (Pt.mp h).1,Pr];exact O hg F λz=>I (by rw[z])
   ·rw[Tu (λz=>e z.symm)];obtain⟨x,U,F⟩:=Pw.mp F;exact⟨u,by rw[U];exact F,rfl,rfl⟩
theorem Zbd (s:Sub t pl)(ht:Tf t)(hf:Tf f):Tf (withAt t pl f):=by
 induction s with
 |nil t=>cases t;exact hf
 | @cons w n ts j t r h s I =>
  rw[with_cons h];cases ht with
  |mk O hs =>
   refine .mk (by rw[Sw];exact O) λu F=>?_;rcases List.mem_or_eq_of_mem_set F with F|rfl
   ·exact hs u F
   ·exact I (hs t (Qo h))
theorem Zpg (h:ts[j]?=some t):Bj (ts.set j u)+t.size=Bj ts+u.size:=by
 induction ts generalizing j with
 |nil=>simp at h
 |cons a r F =>
  cases j with
  |zero =>
   cases h;rw[List.set_cons_zero,Bj,Bj];lia
  |succ j =>
   rw[Tl]at h;have:=F h;rw[List.set_cons_succ,Bj,Bj];lia
theorem Pd (s:Sub t pl):(withAt t pl f).size<=t.size+f.size:=by
 induction s with
 |nil t=>cases t;rw[withAt];lia
 | @cons w n ts j t r h s F =>
  rw[with_cons h,Tr.size,Tr.size];have:=Zpg (u:=withAt t r f) h;lia
theorem Zg7 (ht:Tf t)(s:Sub t pl)(hg:Co t pl=some g)(hw:g.wd="gap"):Fil (Bu t) (Bu (withAt t pl f)) pl/\(Bu (withAt t pl f) pl).isSome=true:=by
 have hp:g.ps=[]:=by
  have:=(Lj (Hm ht hg).1).p;rw[hw,show Gs "gap"=some 0 by right]at this;exact Sc (Qa this).symm
 refine⟨⟨⟨Ft g,by rw[Gg,hg,<- hw];rfl⟩,λq x F I=>?_⟩,?_⟩
 ·obtain⟨u,j,rfl⟩:=Jr F;obtain⟨U,h1,h2,O⟩:=Zn5 (f:=f) s hg hp j I;rw[Gg,h1,<- h2,<- O];rfl
 ·have:=Zu0 (f:=f) s [];rw[Q0,Es]at this;rw[Gg,this];rfl
section
variable {P:Program}{w:World}{K:Pg}{mg:Str->Option Value}{base:Heap}
theorem Zp7 (h1:∀v H',Q v H'->Y v H')(h2:∀c d H',E c d H'->Z c d H')(h:J5 K TL vs H Q E):J5 K TL vs H Y Z:=by
 obtain⟨tv,fv,av,t,tf,p,q0,rd,fl,d,gs,n,rv,rs,xa,oo,a1,a2,a3,a4,a5,a6,a7,a8,a9,ad,I,O,ae,F,aa,U,q,qL⟩:=h;exact⟨tv,fv,av,t,tf,p,q0,rd,fl,d,gs,n,rv,rs,xa,oo,a1,a2,a3,a4,a5,a6,a7,a8,a9,ad,I,O,ae,F,aa,U,λbc S' e=>⟨(q bc S' e).1,λr' ac af j H' b1 b2 b3 b4 b5 b6 b7=>h1 _ _ ((q bc S' e).2 r' ac af j H' b1 b2 b3 b4 b5 b6 b7)⟩,λe H' s=>h2 _ _ _ (qL e H' s)⟩
inductive Jlgo (K:Pg)(TL:Addr)(vs:List V)(H:Hp)(Q:VK)(e9:XK):Prop
 |mk (a b c d:V) (N:Hp->Prop) (_:vs=[a,b,c,d]) (_:J5 K TL [a,b,c,d] H Q (λc d H'=>c=.ref TL/\d=none/\N H')) (_:∀H' H2,N H'->Same H' H2->Q .non H2)
def O3 (K:Pg)(TL:Addr):Sp:=Jlgo K TL
theorem sc_law_go_on:A9 ["_law_tree","_law_record","_law_place","_law_form_here","_law_found"] ["_law_tree","_law_record","_law_place","_law_form_here"] (A5 Mj):=by walk_at "sc"
theorem Zuw (F:Fun K "_law_go_on" "_law_go_on" Mj f fd)(T:Txt K mg)(C_go_on:Ho P w K mg base 8 "go_on" ["tree","record","place","form"] (J5 K TL))(X_TooLong:Lh K TL)(G_TooLong:mg "TooLong"=some (.ref TL))(O:Sa K (.ref TL) (.ref TL)=some true):FnOk P w K mg base Aq 9 f fd ["_law_tree","_law_record","_law_place","_law_form_here"] (O3 K TL):=by
 refine F.okq sc_law_go_on (λvs H Q E h=>?_) (λU A outer s H vs Q E I h=>?_)
 ·obtain⟨a,b,c,d,N,rfl,_⟩:=h;rfl
 ·obtain⟨a,b,c,d,N,rfl,G,q⟩:=h;refine⟨_,Ad (Av 4 sc_law_go_on Dp)
   (Ad (Zgv X_TooLong G_TooLong rfl rfl (Zhe (i:=4) sc_law_go_on.nd rfl (Or.inl rfl) (Zf2 C_go_on I.m (λ_=>Aa (qv 0) (Aa (qv 1) (Aa (qv 2) (Aa (qv 3) Ab)))))) (λ_ _=>Af (Av 4 sc_law_go_on Dp)))
   (Af (An (qv 4)))),?_⟩
  left;refine⟨a,rfl,b,rfl,c,rfl,d,rfl,?_⟩;dsimp only[J1];refine Zp7 (λv H' h=>?_) (λc d H' h=>?_) G
  ·left;exact h
  ·obtain⟨rfl,rfl,n⟩:=h;refine⟨⟨TL,rfl,O⟩,λa1 j=>?_⟩;left;exact q _ _ n (Same.upd j)
inductive Jist (K:Pg)(vs:List V)(H:Hp)(Q:VK)(e9:XK):Prop
 |mk (v:V) (x:Str×V) (n:Nat) (_:vs=[v,.int (n:Nat)]) (_:ThAt K H v x) (_:TOk n x) (_:Q (.bl true) H)
def O7 (K:Pg):Sp:=Jist K
theorem Zp8:A9 ["_law_thing","_law_many"] ["_law_thing","_law_many"] (A5 K7):=by walk_at "sc"
theorem Oo (h:n=m):(!decide (V.int n=V.int m))=false:=by subst h;rw[decide_eq_true rfl];rfl
theorem D6 {X Y:Prop}(h:b=false)(y:Y):if b=true then X else Y:=by rw[if_neg (by rw[h];exact Pu)];exact y
theorem G9 {X Y:Prop}(h:b=true)(x:X):if b=true then X else Y:=by rw[if_pos h];exact x
theorem Zog (F:Fun K "_law_is_thing" "_law_is_thing" K7 f fd)(T:Txt K mg):FnOk P w K mg base Aq 1 f fd ["_law_thing","_law_many"] (O7 K):=by
 refine F.okq Zp8 (λvs H Q E h=>?_) (λY A outer s H vs Q E I h=>?_)
 ·obtain⟨v,x,n,rfl,_⟩:=h;rfl
 ·obtain⟨v,x,n,rfl,U,O,q⟩:=h;refine⟨_,Ad (Ay (QW.qt (C8 (Cn (Bp (A6 (B4 K "tuple") (by rfl) T.isinstance (by right) (Aa (qv 0) (Aa (B3 (v:=.ty "tuple") (by rfl) T.tuple (by right) rfl) Ab))))) (C8 (Az (Dy K I.u200) (A6 (B7 K) (by rfl) T.len (by right) (Aa (qv 0) Ab)) Ac (Ax _)) (Dl (Cn (Bp (A6 (B4 K "str") (by rfl) T.isinstance (by right) (Aa (Ah K (qv 0) Ac) (Aa (B3 (v:=.ty "str") (by rfl) T.str (by right) rfl) Ab))))))))) (Af (An B9)) A2)
   (Ad (Ay (Az (Ba K I.u200) (Ah K (qv 0) Ac) Am (Ax _)) (Af (An (A6 (B4 K "bool") (by rfl) T.isinstance (by right) (Aa (Ah K (qv 0) Ac) (Aa (B3 (v:=.ty "bool") (by rfl) T.bool (by right) rfl) Ab))))) A2)
   (Ad (Ay (QW.qt (C8 (Cn (Bp (A6 (B4 K "int") (by rfl) T.isinstance (by right) (Aa (Ah K (qv 0) Ac) (Aa (B3 (v:=.ty "int") (by rfl) T.int (by right) rfl) Ab))))) (Dl (Bp (A6 (B4 K "bool") (by rfl) T.isinstance (by right) (Aa (Ah K (qv 0) Ac) (Aa (B3 (v:=.ty "bool") (by rfl) T.bool (by right) rfl) Ab))))))) (Af (An B9)) A2)
   (Ad (Ay (Az (Ba K I.u200) (Ah K (qv 0) Ac) Am (Ax _)) (Af (An (Zdm Ze0 E6 Ac (Ah K (qv 0) Ac) (qv 1)))) A2)
   (Af (An (D5 (Ba K I.u200) (Ah K (qv 0) Ac) Am (Ax _))))))),?_⟩
  obtain⟨Z,a,rfl,j⟩:=U;obtain⟨wd,u⟩:=x;have j:SqT K H a [.str wd,u]:=j;left;refine D0 (b:=true) j rfl ?_;left;refine Dv j ?_;left;refine D6 (Oo rfl) ?_;left;refine Aw j rfl ?_;left;refine Bw (b:=true) (.str _) rfl ?_;left;refine Aw j rfl ?_;rcases O with⟨h,i,e⟩|⟨h,i,e⟩|⟨h,i,e,hi⟩
  all_goals replace h:wd=_:=h
  all_goals replace e:u=_:=e
  all_goals subst h e
  ·left;refine D6 (by right) ?_;left;refine Aw j rfl ?_;left;refine Bw (b:=true) (.int _) rfl ?_;left;refine Aw j rfl ?_;left;refine Bw (b:=false) (.int _) rfl ?_;left;refine Aw j rfl ?_;left;refine D6 (by right) ?_;left;refine Aw j rfl ?_;left;exact q
  ·left;refine G9 (by right) ?_;left;refine Aw j rfl ?_;left;refine Bw (b:=true) (.bl _) rfl ?_;left;exact q
  ·left;refine D6 (by right) ?_;left;refine Aw j rfl ?_;left;refine Bw (b:=true) (.int _) rfl ?_;left;refine Aw j rfl ?_;left;refine Bw (b:=false) (.int _) rfl ?_;left;refine Aw j rfl ?_;left;refine G9 (by right) ?_;left;refine Aw j rfl ?_;left;refine G9 (decide_eq_true (by lia)) ?_;left;rw[decide_eq_true (show(i:Int)<(n:Int) by lia)];exact q
inductive Zi3 (K:Pg)(n:Nat)(vs:List V)(H:Hp)(Q:VK)(e9:XK):Prop
 |mk (v f:V) (t tf:Tr) (p:Addr) (pl:List Nat) (_:vs=[v,.ref p,f]) (_:TrAt K H v t) (_:SqT K H p (A4 pl)) (_:K19.Sub t pl) (_:pl.length<n) (_:pl.length<=1000) (_:t.size<=1000) (_:TrAt K H f tf) (_:∀v' H',Same H H'->TrAt K H' v' (K19.withAt t pl tf)->Q v' H')
def Hb (K:Pg)(n:Nat):Sp:=Zi3 K n
theorem Zfc:A9 ["_law_tree","_law_place","_law_form_here","_law_parts"] ["_law_tree","_law_place","_law_form_here"] (A5 Jq):=by walk_at "sc"
theorem Ztc (F:Fun K "_law_filled" "_law_filled" Jq f fd)(T:Txt K mg)(C__law_filled:A8 P w K mg base (n+1) "_law_filled" ["_law_tree","_law_place","_law_form_here"] (Hb K n)):FnOk P w K mg base Aq (n+2) f fd ["_law_tree","_law_place","_law_form_here"] (Hb K (n+1)):=by
 refine F.okq Zfc (λvs H Q E h=>?_) (λak A outer s H vs Q E hr h=>?_)
 ·obtain⟨v,f,t,tf,p,pl,rfl,_⟩:=h;rfl
 ·obtain⟨v,f,t,tf,p,pl,rfl,ht,hp,hs,hl,ah,hz,hf,q⟩:=h;refine⟨_,Ad (Ay (Az (Zhv K hr.u200) (qv 1) (Ao Ab) (Ax _)) (Af (An (qv 2))) A2)
   (Ad (Av 3 Zfc (D4 (Jf K) (by rfl) T.list (by right) (Aa (Ah K (qv 0) Ac) Ab)))
   (Ad (Fs (A3 C__law_filled (hr.mono (by lia)) (Aa (Ah K (qv 3) (Ah K (qv 1) Ac)) (Aa (Ej (Ff K) (qv 1) (Dr Ac) (Ew)) (Aa (qv 2) Ab)))) (Zn3 (qv 3) (Ah K (qv 1) Ac) Zpm))
   (Af (An (Ao (Aa (Ah K (qv 0) Ac) (Aa (Ah K (qv 0) Ac) (Aa (D4 (Zew K) (by rfl) T.tuple (by right) (Aa (qv 3) Ab)) Ab)))))))),?_⟩
  have bg:=big;left;refine⟨Bm,λa0 h0=>?_⟩;have s0:=Same.upd (o:=.tup []) h0;have e0:SqT K (upd H a0 (.tup [])) a0 (([]:List Int).map V.int):=SqT.of Ae;revert s0 e0;generalize upd H a0 (.tup [])=H0;intro s0 e0;refine Zex (xs:=A1 pl) (ys:=[]) (by rw[Ez];exact s0.tup hp) e0 ?_;left;cases pl with
  |nil =>
   refine G9 (by rfl) ?_;left;refine q _ _ s0 ?_;cases t with
   |mk w nt ts=>exact hf.same s0
  |cons k rest =>
  refine D6 (decide_eq_false (λe=>nomatch e)) ?_;cases hs with
  | @cons w nt ts _ u _ hu aj =>
  cases ht with
  | @mk b pp _ nv _ I _ qb hn qp l ag =>
  have hk:k<ts.length:=(Pt.mp hu).1;have af:k<I.length:=by lia
  have ad:=Pk af;have al:=s0.tup hp;have lz:ts.length<=1000:=by
   have:ts.length<=Bj ts:=Zcy ts;rw[Tr.size]at hz;lia
  left;refine Aw (s0.tup qb) rfl ?_;refine⟨pp,I,rfl,.inr (s0.tup qp),λlp ae=>?_⟩;have s1:=Same.upd (o:=.lst I) ae;have e1:upd H0 lp (.lst I) lp=some (.lst I):=Ae;have n1:H lp=none:=s0.free ae;revert s1 e1;generalize upd H0 lp (.lst I)=H1;intro s1 e1;have aa:=s0.trans s1;left;refine Aw (v:=.int (k:Nat)) (aa.tup hp) (Ck (j:=0) rfl) ?_;left;refine Bd (SqL.of e1) (Ck ad) ?_;left;refine .inr (.inr ⟨p,_,rfl,aa.tup hp,?_,λk1 h1=>?_⟩)
  ·rintro⟨z,_⟩;have:HT.sIx (A4 (k::rest)).length 0 (some ((1:Nat):Int))=0:=z;rw[HT.sIx_nat]at this;rw[show(A4 (k::rest)).length=rest.length+1 by unfold A4;simp]at this;lia
  have ec:B8 (A4 (k::rest)) (some 1) none=A4 rest:=(O8 _ 1).trans rfl;rw[ec];have s2:=Same.upd (o:=.tup (A4 rest)) h1;have e2:SqT K (upd H1 k1 (.tup (A4 rest))) k1 (A4 rest):=SqT.of Ae;revert s2 e2;generalize upd H1 k1 (.tup (A4 rest))=H2;intro s2 e2;have Z:=aa.trans s2;rw[Qc]at hl ah;have am:=Mm hu;rw[Tr.size]at hz;left;refine⟨I[k],f,u,tf,k1,rest,rfl,(ag k _ _ ad hu).same Z,e2,aj,by lia,by lia,by lia,hf.same Z,λv' H3 s3 ai=>?_⟩;have ac:=Z.trans s3;left;refine Aw (v:=.int (k:Nat)) (ac.tup hp) (Ck (j:=0) rfl) ?_;have e3:=(s2.trans s3) _ _ e1;refine Zvg e3 (k:=(k:Nat)) (j:=k) ?_ ?_
  ·unfold E3;rw[if_pos (by lia),if_pos (by lia)];rfl
  have tS:=SameT.set (o:=.lst (I.set k v')) e3;have s4:=ac.over (o:=.lst (I.set k v')) n1;have e4:upd H3 lp (.lst (I.set k v')) lp=some (.lst (I.set k v')):=Ae;have Y:=ai.sameT tS;have O:∀j v t,I[j]?=some v->ts[j]?=some t->TrAt K (upd H3 lp (.lst (I.set k v'))) v t:=λj v t h1 h2=>((ag j v t h1 h2).same ac).sameT tS;revert s4 e4 Y O;generalize upd H3 lp (.lst (I.set k v'))=H4;intro s4 e4 Y O;left;refine Aw (s4.tup qb) rfl ?_;left;refine Aw (s4.tup qb) rfl ?_;left;refine Zfs (SqL.of e4) λp7 h7=>?_;have s7:=Same.upd (o:=.tup (I.set k v')) h7;left;refine⟨Bg,λp8 h8=>?_⟩;have s8:=Same.upd (o:=.tup [.str w,nv,.ref p7]) h8;have U:=s7.trans s8;refine q _ _ (s4.trans U) ?_;rw[K19.with_cons hu];refine .mk (SqT.of Ae) (hn.same (s4.trans U).t) (s8.tup (SqT.of Ae)) (by rw[Sw,Sw,l]) λj v t h1 h2=>?_;by_cases e:j=k
  ·subst e;rw[Sg af]at h1;rw[Sg hk]at h2;cases h1;cases h2;exact Y.same U
  ·rw[Tu (λz=>e z.symm)]at h1 h2;exact(O j v t h1 h2).same U
def Nm (K:Pg):Sp:=λvs H Q _=>∃(tv:V)(t:Tr),vs=[tv]/\TrAt K H tv t/\Tf t/\t.size<=2000 /\
 (∀o,ev (Bu t) 500 501 [] [] [] 0=some o->∀(r rd:Addr)(av:V)(rv:List V)(H':Hp),Same H H'->SqT K H' r [av,.ref rd,.int o.2.2]->ThAt K H' av o.1->H' rd=some (.lst rv)->Al (RwX K (λb=>b=rd\/H b≠none) H') rv o.2.1->H rd=none->Q (.ref r) H')/\(ev (Bu t) 500 501 [] [] [] 0=none->∀H',Same H H'->Q .non H')
theorem sc_law_run:A9 ["_law_tree","_law_found"] ["_law_tree"] (A5 K3):=by walk_at "sc"
theorem Zvf (F:Fun K "_law_run" "_law_run" K3 f fd)(T:Txt K mg)(C_run:Ho P w K mg base 7 "run" ["tree"] (Zdt K TL))(X_TooLong:Lh K TL)(G_TooLong:mg "TooLong"=some (.ref TL))(O:Sa K (.ref TL) (.ref TL)=some true):FnOk P w K mg base Aq 8 f fd ["_law_tree"] (Nm K):=by
 refine F.okq sc_law_run (λvs H Q E h=>?_) (λaa A outer s H vs Q E hr h=>?_)
 ·obtain⟨tv,t,rfl,_⟩:=h;rfl
 ·obtain⟨tv,t,rfl,ht,I,Y,q,q2⟩:=h;obtain⟨m,R⟩:=Ztu I Y;refine⟨_,Ad (Av 1 sc_law_run Dp)
   (Ad (Zgv X_TooLong G_TooLong rfl rfl (Zhe (i:=1) sc_law_run.nd rfl (Or.inl rfl) (Zf2 C_run hr.m (λ_=>Aa (qv 0) Ab))) (λ_ _=>Af (Av 1 sc_law_run Dp)))
   (Af (An (qv 1)))),?_⟩
  left;refine⟨tv,rfl,?_⟩;dsimp only[J1];refine⟨tv,t,m,_,rfl,ht,Y,R,λS' hS=>?_,λj H' s'=>?_⟩
  ·obtain⟨o,ho,rfl⟩:=Rs.mp hS;refine⟨o.1,rfl,λr rd av rv H' s1 qr Z er al _ j=>?_⟩;left;exact q o ho r rd av rv H' s1 qr Z er al j
  ·refine⟨⟨TL,rfl,O⟩,λa1 U=>?_⟩;left;exact q2 (Option.map_eq_none_iff.mp j) _ (s'.trans (Same.upd U))
inductive Jisr (K:Pg)(vs:List V)(H:Hp)(Q:VK)(e9:XK):Prop
 |mk (v:V) (x:Rx) (n:Nat) (A:Addr->Prop) (_:vs=[v,.int (n:Nat)]) (_:RwAt K A H v x) (_:AOk n x.ar) (_:(∀y∈x.ops,TOk n y)) (_:Q (.bl true) H)
def Zgg (K:Pg):Sp:=Jisr K
theorem sc_law_is_row:A9 ["_law_row","_law_k","_law_thing","_law_pair"] ["_law_row","_law_k"] (A5 Ld):=by walk_at "sc"
theorem Zq9 (F:Fun K "_law_is_row" "_law_is_row" Ld f fd)(T:Txt K mg)(C__law_is_thing:A8 P w K mg base 1 "_law_is_thing" ["_law_thing","_law_many"] (O7 K)):FnOk P w K mg base Aq 2 f fd ["_law_row","_law_k"] (Zgg K):=by
 refine F.okq sc_law_is_row (λvs H Q E h=>?_) (λac A outer s H vs Q E U h=>?_)
 ·obtain⟨v,x,n,A,rfl,_⟩:=h;rfl
 ·obtain⟨v,x,n,A',rfl,hx,ha,ho,q⟩:=h;refine⟨_,Ad (Ay (QW.qt (C8 (Cn (Bp (A6 (B4 K "tuple") (by rfl) T.isinstance (by right) (Aa (qv 0) (Aa (B3 (v:=.ty "tuple") (by rfl) T.tuple (by right) rfl) Ab))))) (Dl (Az (Dy K U.u200) (A6 (B7 K) (by rfl) T.len (by right) (Aa (qv 0) Ab)) Ac (Ax _))))) (Af (An B9)) A2)
   (Ad (Ay (QW.qt (C8 (Cn (Bp (A6 (B4 K "str") (by rfl) T.isinstance (by right) (Aa (Ah K (qv 0) Ac) (Aa (B3 (v:=.ty "str") (by rfl) T.str (by right) rfl) Ab))))) (Dl (Cn (Bp (A6 (B4 K "tuple") (by rfl) T.isinstance (by right) (Aa (Ah K (qv 0) Ac) (Aa (B3 (v:=.ty "tuple") (by rfl) T.tuple (by right) rfl) Ab)))))))) (Af (An B9)) A2)
   (Ad (Ay (QW.qt (C8 (Cn (Bp (A6 (B4 K "list") (by rfl) T.isinstance (by right) (Aa (Ah K (qv 0) Ac) (Aa (B3 (v:=.ty "list") (by rfl) T.list (by right) rfl) Ab))))) (Dl (Cn (Bp (A6 (B4 K "list") (by rfl) T.isinstance (by right) (Aa (Ah K (qv 0) Ac) (Aa (B3 (v:=.ty "list") (by rfl) T.list (by right) rfl) Ab)))))))) (Af (An B9)) A2)
   (Ad (Dq Qp rfl (E9 K (Ah K (qv 0) Ac)) (Bc (i:=2) sc_law_is_row.nd rfl (Or.inl rfl)) (Af (Ay (Cn (Bp (A3 C__law_is_thing U.m (Aa (qv 2) (Aa (qv 1) Ab))))) (Af (An B9)) A2)))
   (Ad (Dq Qp rfl (E9 K (Ah K (qv 0) Ac)) (Bc (i:=3) sc_law_is_row.nd rfl (Or.inl rfl)) (Ad (Ay (QW.qt (C8 (Cn (Bp (A6 (B4 K "tuple") (by rfl) T.isinstance (by right) (Aa (qv 3) (Aa (B3 (v:=.ty "tuple") (by rfl) T.tuple (by right) rfl) Ab))))) (C8 (Az (Dy K U.u200) (A6 (B7 K) (by rfl) T.len (by right) (Aa (qv 3) Ab)) Ac (Ax _)) (Dl (Cn (Bp (A6 (B4 K "str") (by rfl) T.isinstance (by right) (Aa (Ah K (qv 3) Ac) (Aa (B3 (v:=.ty "str") (by rfl) T.str (by right) rfl) Ab))))))))) (Af (An B9)) A2)
   (Af (Ay (Cn (Bp (A3 C__law_is_thing U.m (Aa (Ah K (qv 3) Ac) (Aa (qv 1) Ab))))) (Af (An B9)) A2))))
   (Af (An B9)))))),?_⟩
  obtain⟨a,p,o,e,ov,ev,rfl,h2,h3,Z,h5,Y,h7,_,_⟩:=hx;left;refine D0 (b:=true) h2 rfl ?_;left;refine Dv h2 ?_;left;refine D6 (Oo rfl) ?_;left;refine Aw h2 rfl ?_;left;refine Bw (b:=true) (.str _) rfl ?_;left;refine Aw h2 rfl ?_;left;refine D0 (b:=true) h3 rfl ?_;left;refine Aw h2 rfl ?_;left;refine Fq (b:=true) (SqL.of Z) rfl ?_;left;refine Aw h2 rfl ?_;left;refine Fq (b:=true) (SqL.of Y) rfl ?_;left;refine Aw h2 rfl ?_;refine .inl ⟨o,rfl,⟨_,SqL.of Z⟩,?_⟩;refine Zab (K:=K) (a:=o) (xs:=ov) (λi j H'=>∃I,j=[some (.ref a),some (.int (n:Nat)),I,none]/\H'=H) ⟨_,rfl,rfl⟩ ?_ ?_ ?_
  ·rintro i j H' _ ⟨_,_,rfl⟩;exact SqL.of Z
  ·rintro i y j H' hy ⟨I,rfl,rfl⟩;obtain⟨z,hz,aa⟩:=h5.get hy;left;refine⟨y,z,n,rfl,aa,ho z (Qo hz),?_⟩;left;exact⟨_,rfl,rfl⟩
  rintro j H' ⟨I,rfl,rfl⟩;left;refine Aw h2 rfl ?_;refine .inl ⟨e,rfl,⟨_,SqL.of Y⟩,?_⟩;refine Zab (K:=K) (a:=e) (xs:=ev) (λi j H1=>∃v1,j=[some (.ref a),some (.int (n:Nat)),I,v1]/\H1=H') ⟨_,rfl,rfl⟩ ?_ ?_ ?_
  ·rintro i j H1 _ ⟨_,_,rfl⟩;exact SqL.of Y
  ·rintro i y j H1 hy ⟨v1,rfl,rfl⟩;obtain⟨z,hz,ay,uy,rfl,O,ty⟩:=h7.get hy;left;refine D0 (b:=true) O rfl ?_;left;refine Dv O ?_;left;refine D6 (Oo rfl) ?_;left;refine Aw O rfl ?_;left;refine Bw (b:=true) (.str _) rfl ?_;left;refine Aw O rfl ?_;left;refine⟨uy,z.2,n,rfl,ty,ha z (Qo hz),?_⟩;left;exact⟨_,rfl,rfl⟩
  rintro j H1 ⟨v1,rfl,rfl⟩;left;exact q
inductive RcAt (K:Pg)(H:Hp)(v:V)(o:Er):Prop
 |mk (r rd:Addr)(av:V)(rv:List V)(A:Addr->Prop)(_:v=.ref r)(_:SqT K H r [av,.ref rd,.int o.2.2])(_:ThAt K H av o.1)(_:H rd=some (.lst rv))(_:Al (RwAt K A H) rv o.2.1)
def Zda (K:Pg):Sp:=λvs H Q _=>∃(v:V)(o:Er),vs=[v]/\RcAt K H v o/\TOk o.2.1.length o.1/\RLt o.2.1/\o.2.1.length<=3000/\Q (.bl true) H
theorem sc_law_is_record:A9 ["_law_found","_law_k"] ["_law_found"] (A5 K0):=by walk_at "sc"
theorem Zua (F:Fun K "_law_is_record" "_law_is_record" K0 f fd)(T:Txt K mg)(C__law_is_thing:A8 P w K mg base 1 "_law_is_thing" ["_law_thing","_law_many"] (O7 K))(C__law_is_row:A8 P w K mg base 2 "_law_is_row" ["_law_row","_law_k"] (Zgg K)):FnOk P w K mg base Aq 3 f fd ["_law_found"] (Zda K):=by
 refine F.okq sc_law_is_record (λvs H Q E h=>?_) (λaa A outer s H vs Q E Y h=>?_)
 ·obtain⟨v,o,rfl,_⟩:=h;rfl
 ·obtain⟨v,o,rfl,⟨r,rd,av,O,A',rfl,h2,h3,I,Z⟩,ht,hl,ac,q⟩:=h;refine⟨_,Ad (Ay (QW.qt (C8 (Cn (Bp (A6 (B4 K "tuple") (by rfl) T.isinstance (by right) (Aa (qv 0) (Aa (B3 (v:=.ty "tuple") (by rfl) T.tuple (by right) rfl) Ab))))) (C8 (Az (Dy K Y.u200) (A6 (B7 K) (by rfl) T.len (by right) (Aa (qv 0) Ab)) Ac (Ax _)) (Dl (Cn (Bp (A6 (B4 K "list") (by rfl) T.isinstance (by right) (Aa (Ah K (qv 0) Ac) (Aa (B3 (v:=.ty "list") (by rfl) T.list (by right) rfl) Ab))))))))) (Af (An B9)) A2)
   (Ad (Dq Qp rfl (Ey rfl T.range (Aa (A6 (B7 K) (by rfl) T.len (by right) (Aa (Ah K (qv 0) Ac) Ab)) Ab)) (Bc (i:=1) sc_law_is_record.nd rfl (Or.inl rfl)) (Af (Ay (Cn (Bp (A3 C__law_is_row Y.m (Aa (Ah K (Ah K (qv 0) Ac) (qv 1)) (Aa (qv 1) Ab))))) (Af (An B9)) A2)))
   (Ad (Ay (QW.qt (C8 (Cn (Bp (A6 (B4 K "int") (by rfl) T.isinstance (by right) (Aa (Ah K (qv 0) Ac) (Aa (B3 (v:=.ty "int") (by rfl) T.int (by right) rfl) Ab))))) (Dl (Bp (A6 (B4 K "bool") (by rfl) T.isinstance (by right) (Aa (Ah K (qv 0) Ac) (Aa (B3 (v:=.ty "bool") (by rfl) T.bool (by right) rfl) Ab))))))) (Af (An B9)) A2)
   (Af (An (A3 C__law_is_thing Y.m (Aa (Ah K (qv 0) Ac) (Aa (A6 (B7 K) (by rfl) T.len (by right) (Aa (Ah K (qv 0) Ac) Ab)) Ab))))))),?_⟩
  have el:=Z.1;left;refine D0 (b:=true) h2 rfl ?_;left;refine Dv h2 ?_;left;refine D6 (Oo rfl) ?_;left;refine Aw h2 rfl ?_;left;refine Fq (b:=true) (SqL.of I) rfl ?_;left;refine Aw h2 rfl ?_;left;refine Cp (SqL.of I) ?_;left;refine⟨by lia,by lia,?_⟩;refine Fa (n:=(O.length:Int).toNat) (λi j H'=>∃U,j=[some (.ref r),U]/\H'=H) ⟨_,rfl,rfl⟩ ?_ ?_
  ·rintro i j H' hi ⟨U,rfl,rfl⟩;have hi:i<O.length:=by lia
   have e0:(0:Int)+(i:Int)=((i:Nat):Int):=by lia
   rw[e0];obtain⟨z,hz,rz⟩:=Z.get (Pk hi);obtain⟨l1,l2⟩:=hl i z hz;left;refine Aw h2 rfl ?_;left;refine Bd (SqL.of I) (Ck (Pk hi)) ?_;left;refine⟨O[i],z,i,A',rfl,rz,l1,l2,?_⟩;left;exact⟨_,rfl,rfl⟩
  rintro j H' ⟨U,rfl,rfl⟩;left;refine Aw h2 rfl ?_;left;refine Bw (b:=true) (.int _) rfl ?_;left;refine Aw h2 rfl ?_;left;refine Bw (b:=false) (.int _) rfl ?_;left;refine Aw h2 rfl ?_;left;refine Aw h2 rfl ?_;left;refine Cp (SqL.of I) ?_;left;refine⟨av,o.1,O.length,rfl,h3,by rw[el];exact ht,?_⟩;exact q
def AD (H:Hp)(D:Addr):Addr->Prop:=λb=>b=D\/H b≠none
inductive Zpa (K:Pg)(vs:List V)(H:Hp)(Q:VK)(e9:XK):Prop
 |mk (q0 rl:Addr) (av:V) (n:Int) (rv:List V) (rows:List Rx) (A:Addr->Prop) (_:vs=[.ref q0]) (_:SqT K H q0 [av,.ref rl,.int n]) (_:H rl=some (.lst rv)) (_:Al (RwX K A H) rv rows) (_:rows.length<=3000) (_:∀(r q:Addr)(ws:List V)(H':Hp),Same H H'->SqT K H' r [av,.ref q,.int n]->H q=none->H' q=some (.lst ws)->Al (RwX K (AD H q) H') ws rows->Q (.ref r) H')
def Zep (K:Pg):Sp:=Zpa K
theorem Zju:(["_law_row"]:List Str).Nodup:=by right
theorem sc_law_copy:A9 ["_law_record","_law_rows"] ["_law_record"] (A5 Lg):=by walk_at "sc"
theorem Zkg {α:Type}{l:List α}{i:Nat}{c:α}(h:l[i]?=some c):l.take (i+1)=l.take i++[c]:=by rw[R6,h];rfl
theorem Zt0 (F:Fun K "_law_copy" "_law_copy" Lg f fd)(T:Txt K mg):FnOk P w K mg base Aq 1 f fd ["_law_record"] (Zep K):=by
 refine F.okq sc_law_copy (λvs H Q E h=>?_) (λas A outer s H vs Q E hr h=>?_)
 ·obtain⟨q0,rl,av,n,rv,rows,A,rfl,_⟩:=h;rfl
 ·obtain⟨q0,rl,av,n,rv,rows,A,rfl,af,ad,ac,ak,q⟩:=h;refine⟨_,Ad (Nf (i:=1) (N:=["_law_row"]) (σ0:=Ed 1 []) rfl (Fz rfl (by right) (by right) (by right)) (E9 K (Ah K (qv 0) Ac)) (Fy rfl (by rfl)) (λ_ _ _ _=>Bc (i:=0) Zju rfl (Or.inl rfl)) (λ_ _ _ _=>Ip) (λ_ _ _ _=>Ao (Aa (Ah K (qv 0) Ac) (Aa (Ah K (qv 0) Ac) (Aa (D4 (Jf K) (by rfl) T.list (by right) (Aa (Ah K (qv 0) Ac) Ab)) (Aa (D4 (Jf K) (by rfl) T.list (by right) (Aa (Ah K (qv 0) Ac) Ab)) Ab))))) sc_law_copy.nd rfl (Or.inl rfl))
   (Af (An (Ao (Aa (Ah K (qv 0) Ac) (Aa (qv 1) (Aa (Ah K (qv 0) Ac) Ab)))))),?_⟩
  have bg:=big;have aq:rv.length<=3000:=by rw[ac.1];exact ak
  left;refine Aw af rfl ?_;refine .inl ⟨rl,rfl,⟨_,SqL.of ad⟩,λD hD=>?_⟩;have nD:rl≠D:=Cy ad hD;refine Lo (K:=K) (a:=rl) (xs:=rv) (Pv:=λi ys aa H'=>∃v0,aa=[v0]/\H' rl=some (.lst rv)/\ys.length=i/\Al (RwX K (AD H D) H') ys (rows.take i)/\Same H H') ⟨none,rfl,by rw[Ag nD];exact ad,rfl,.nil,Same.upd hD⟩ ?_ ?_ ?_
  ·rintro i ys aa H' _ ⟨_,_,e,_⟩;exact SqL.of e
  ·rintro i x ys aa H' hx O ⟨v0,rfl,e,ai,Z,sm⟩;have hi:=(Pt.mp hx).1;obtain⟨rz,an,am⟩:=ac.get hx;obtain⟨⟨a,_,o,er,ov,ev,rfl,h2,_,h4,h5,h6,h7,_,_⟩,a2,p,o2,au,ea,al,ap⟩:=RwX.same sm.a _ _ am;cases ea;left;refine Aw h2 rfl ?_;left;refine Aw al rfl ?_;left;refine Aw h2 rfl ?_;refine⟨o,ov,rfl,.inl (SqL.of h4),λc1 ag=>?_⟩;have s1:=Same.upd (o:=.lst ov) ag;left;refine Aw (s1.tup h2) rfl ?_;refine⟨er,ev,rfl,.inl (SqL.of (s1 _ _ h6)),λc2 ah=>?_⟩;have s2:=Same.upd (o:=.lst ev) ah;have e1:=s2 c1 _ (Ae (H:=H') (o:=.lst ov));have e2:upd (upd H' c1 (.lst ov)) c2 (.lst ev) c2=some (.lst ev):=Ae;have ae:=s1.trans s2;have Y:H' c1=none:=ag;have I:H' c2=none:=s1.free ah;revert e1 e2 ae;generalize upd (upd H' c1 (.lst ov)) c2 (.lst ev)=H2;intro e1 e2 ae;left;refine⟨sz4,λt ht=>?_⟩;have s3:=Same.upd (o:=.tup [.str rz.wd,.ref p,.ref c1,.ref c2]) ht;have j:=ae.trans s3;have U:=j _ _ O;have n1:c1≠D:=λz=>by rw[z,O]at Y;cases Y
   have n2:c2≠D:=λz=>by rw[z,O]at I;cases I
   have tS:=SameT.set (o:=.lst (ys++[.ref t])) U;left;refine⟨_,U,by lia,_,Ae,?_⟩;refine⟨_,rfl,?_,by simp[ai],?_,(sm.trans j).over hD⟩
   ·rw[Ag nD];exact j _ _ e
   ·rw[Zkg an];refine(Z.mono (RwX.same (j.a.trans (SameA.set U (.inl rfl))))).snoc ?_;have aj:upd (upd H2 t (.tup [.str rz.wd,.ref p,.ref c1,.ref c2])) D (.lst (ys++[.ref t])) p=some (.tup (rz.pl.map V.int)):=((j.t.trans tS) p).1 _ ap;refine⟨⟨t,p,c1,c2,ov,ev,rfl,tS.tup (SqT.of Ae),SqT.of aj,?_,h5.mono (ThAt.same (j.t.trans tS)),?_,h7.mono (PrAt.same (j.t.trans tS)),?_,?_⟩,t,p,c1,c2,rfl,tS.tup (SqT.of Ae),aj⟩
    ·rw[Ag n1];exact s3 _ _ e1
    ·rw[Ag n2];exact s3 _ _ e2
    ·rintro(z|z)
     ·exact n1 z
     ·exact z (sm.free Y)
    ·rintro(z|z)
     ·exact n2 z
     ·exact z (sm.free I)
  ·rintro ys aa H' O ⟨v0,rfl,e,ai,Z,sm⟩;rw[ac.1,T8]at Z;left;refine Aw (sm.tup af) rfl ?_;left;refine Aw (sm.tup af) rfl ?_;left;refine⟨Bg,λr ao=>?_⟩;have s9:Same H' (upd H' r (.tup [av,.ref D,.int n])):=Same.upd ao;exact q r D ys _ (sm.trans s9) (SqT.of Ae) hD (s9 _ _ O) (Z.mono (RwX.same s9.a))
def GpAt (K:Pg)(AG:Addr->Prop)(H:Hp)(v:V)(x:List Nat×Tr):Prop:=eX3 λa p b=>v=.ref a/\SqT K H a [.ref p,.ref b]/\H p=some (.tup (A4 x.1))/\BdAt K H b 420/\¬AG b
theorem GpAt.same (s:Same H H')(v:V)(x:List Nat×Tr)(h:GpAt K AG H v x):GpAt K AG H' v x:=let ⟨a,p,b,e,q,q',d,n⟩:=h;⟨a,p,b,e,s.tup q,s _ _ q',d.same s,n⟩
noncomputable def isG (x:List Nat×Tr):Bool:=decide (x.2.wd="gap")
inductive Znh (K:Pg)(n:Nat)(vs:List V)(H:Hp)(Q:VK)(e9:XK):Prop
 |mk (v:V) (t:Tr) (p b:Addr) (pl:List Nat) (m:Nat) (AG:Addr->Prop) (_:vs=[v,.ref p,.ref b]) (_:TrAt K H v t) (_:Tf t) (_:H p=some (.tup (A4 pl))) (_:BdAt K H b m) (_:t.size<=n) (_:pl.length+t.size<=1000) (_:m+2*t.size<=420) (_:(∀z,AG z->H z≠none)) (_:¬AG b) (_:∀(r:Addr)(ws:List V)(H':Hp),Same H H'->H' r=some (.lst ws)->Al (GpAt K AG H') ws ((walk pl t).filter isG)->Q (.ref r) H')
def Ht (K:Pg)(n:Nat):Sp:=Znh K n
theorem sc_law_gaps:A9 ["_law_form_here","_law_place","_law_bound","_law_word","_law_note","_law_parts","_law_found","_law_k","_law_more"] ["_law_form_here","_law_place","_law_bound"] (A5 Io):=by walk_at "sc"
theorem Zna (F:Fun K "_law_gaps" "_law_gaps" Io f fd)(T:Txt K mg)(C__law_gaps:A8 P w K mg base (n+1) "_law_gaps" ["_law_form_here","_law_place","_law_bound"] (Ht K n)):FnOk P w K mg base Aq (n+2) f fd ["_law_form_here","_law_place","_law_bound"] (Ht K (n+1)):=by
 refine F.okq sc_law_gaps (λvs H Q E h=>?_) (λbh A outer s H vs Q E hr h=>?_)
 ·obtain⟨v,t,p,b,pl,m,AG,rfl,_⟩:=h;rfl
 ·obtain⟨v,t,p,bb,pl,m,AG,rfl,ht,tf,hp,ak,hz,hd,hm,ao,ay,q⟩:=h;refine⟨_,Ad (Fs (qv 0) (Ep K (n:=3) rfl (Ci (Bc (i:=3) sc_law_gaps.nd rfl (Or.inl rfl)) (Ci (Bc (i:=4) sc_law_gaps.nd rfl (Or.inl rfl)) (Ci (Bc (i:=5) sc_law_gaps.nd rfl (Or.inl rfl)) (Ei))))))
   (Ad (Av 6 sc_law_gaps (Bq Ab))
   (Ad (Ay (Az (Ba K hr.u200) (qv 3) Am (Ax _)) (Af (B2 (Cv K P5 Qe Qf C7 (qv 6) (Aa (Ao (Aa (qv 1) (Aa (qv 2) Ab))) Ab)))) A2)
   (Ad (Dq Qp rfl (Ey rfl T.range (Aa (A6 (B7 K) (by rfl) T.len (by right) (Aa (qv 5) Ab)) Ab)) (Bc (i:=7) sc_law_gaps.nd rfl (Or.inl rfl)) (Ad (Av 8 sc_law_gaps (Bq Ab))
   (Ad (Ay (QW.qt (C8 (Az (Ba K hr.u200) (qv 3) Am (Ax _)) (Dl (QW.qt (Ef (Az (Ba K hr.u200) (qv 3) Am (Ax _)) (D7 (Az (Ba K hr.u200) (qv 7) Ac (Ax _)))))))) (Af (Av 8 sc_law_gaps (Bq (Aa (Ao (Aa (qv 4) (Aa Am Ab))) Ab)))) A2)
   (Ad (Ay (Az (Ba K hr.u200) (qv 3) Am (Ax _)) (Af (Av 8 sc_law_gaps (Bq (Aa (Ao (Aa (Ah K (qv 4) Ac) (Aa Am Ab))) (Aa (Ao (Aa (Ah K (qv 4) Ac) (Aa Am Ab))) Ab))))) A2)
   (Af (Av 6 sc_law_gaps (Ai (B6 K) (qv 6) (A3 C__law_gaps (hr.mono (by lia)) (Aa (Ah K (qv 5) (qv 7)) (Aa (Ai (Lm K) (qv 1) (Ao (Aa (qv 7) Ab))) (Aa (Ai (B6 K) (qv 2) (qv 8)) Ab)))))))))))
   (Af (An (qv 6)))))),?_⟩
  have bg:=big;have bf:=ht;cases ht with
  | @mk b pp wd Z nt us ts qb hn qp l ax =>
  cases tf with
  |mk be a3 =>
  have af:=be.b;rw[Tr.size]at hz hd hm;have flat:∀z,nt=.flat (.str z)->Z=.str z:=by
   intro z e;rcases hn with⟨_,h⟩|⟨_,_,_,_,_,h⟩
   ·rw[e]at h;injection h with h;exact h.symm
   ·rw[e]at h;cases h
  left;refine Dz qb rfl ?_;left;refine⟨Bm,λa1 h1=>?_⟩;obtain⟨H1,s1,e1,z9⟩:=Cf h1 (.lst []);rw[z9];refine s_gname ?_;with_reducible refine s_seq ?_;refine Dd (t:=Cr _ _ _) (R:=λI H'=>∃ws,I=[some (.ref b),some (.ref p),some (.ref bb),some (.str wd),some Z,some (.ref pp),some (.ref a1),none,none]/\Same H H'/\H' a1=some (.lst ws)/\Al (GpAt K AG H') ws ([(pl,Tr.mk wd nt ts)].filter isG)) ?_ ?_;rotate_left
  ·intro Y hY;left;rw[Bl];by_cases hg:wd="gap"
   ·rw[decide_eq_true hg];left;refine Ce (SqL.of e1) ?_;left;refine⟨B1,λa2 h2=>?_⟩;have s2:=Same.upd (o:=.tup [.ref p,.ref bb]) h2;have e2:=s2 _ _ e1;left;refine C6 e2 (by show 0<sizeLine;decide) ?_;have a0:=(s1.trans s2);have ag:=a0.over (o:=.lst [.ref a2]) h1;have au:a2≠a1:=λz=>by rw[z,e1]at h2;cases h2
    refine hY _ _ ⟨[.ref a2],rfl,ag,Ae,?_⟩;rw[List.filter_cons,if_pos (show isG (pl,Tr.mk wd nt ts)=true from decide_eq_true hg)];refine Al.nil.snoc ⟨a2,p,bb,rfl,SqT.of ((Ag au).trans Ae),ag _ _ hp,?_,ay⟩;obtain⟨bs,zs,c1,c2,c3⟩:=ak.same ag;exact⟨bs,zs,c1,c2,by lia⟩
   ·rw[decide_eq_false hg];left;refine hY _ _ ⟨[],rfl,s1,e1,?_⟩;rw[List.filter_cons,if_neg (show ¬isG (pl,Tr.mk wd nt ts)=true from λz=>hg (of_decide_eq_true z))];exact .nil
  ·rintro _ H2 ⟨as,rfl,s2,e2,aw⟩;left;refine Dv (s2.tup qp) ?_;left;have bi:us.length<=1000:=by
    have:ts.length<=Bj ts:=Zcy ts;lia
   refine⟨by lia,by lia,?_⟩;refine Fa (n:=(us.length:Int).toNat) (λj I H'=>eX4 λv7 v8 r ws=>I=[some (.ref b),some (.ref p),some (.ref bb),some (.str wd),some Z,some (.ref pp),some (.ref r),v7,v8]/\H' r=some (.lst ws)/\Al (GpAt K AG H') ws (((pl,Tr.mk wd nt ts)::Bk pl 0 (ts.take j)).filter isG)/\Same H H') ⟨none,none,a1,as,rfl,e2,by rw[List.take_zero,Bk];exact aw,s2⟩ ?_ ?_
   ·rintro j I H3 hj ⟨v7,v8,r,ws,rfl,e3,al,s3⟩;have hj:j<us.length:=by lia
    have e0:(0:Int)+(j:Int)=((j:Nat):Int):=by lia
    rw[e0];have aq:j<ts.length:=by lia
    have hu:=Pk hj;have ae:=Pk aq;have bj:=Mm ae;left;refine⟨Bm,λa4 h4=>?_⟩;obtain⟨H4,s4,e4,z9⟩:=Cf h4 (.lst []);rw[z9];refine s_gname ?_;with_reducible refine s_seq ?_;refine Dd (t:=Cr _ _ _) (R:=λI H'=>∃am,I=[some (.ref b),some (.ref p),some (.ref bb),some (.str wd),some Z,some (.ref pp),some (.ref r),some (.int ((j:Nat):Int)),some (.ref am)]/\Same H3 H'/\BdAt K H' am 2) ?_ ?_;rotate_left
    ·intro Y hY;have none:Y [some (.ref b),some (.ref p),some (.ref bb),some (.str wd),some Z,some (.ref pp),some (.ref r),some (.int ((j:Nat):Int)),some (.ref a4)] H4:=hY _ _ ⟨a4,rfl,s4,[],[],e4,.nil,by decide⟩;have one:∀z,Z=.str z->∀O,H4 O=.none->∀U,upd H4 O (.tup [Z,.str "num"]) U=.none->Y [some (.ref b),some (.ref p),some (.ref bb),some (.str wd),some Z,some (.ref pp),some (.ref r),some (.int ((j:Nat):Int)),some (.ref U)] (upd (upd H4 O (.tup [Z,.str "num"])) U (.lst [.ref O])):=λz hz O h5 U h6=>by
      have s5:=Same.upd (o:=.tup [Z,.str "num"]) h5;have s6:=Same.upd (o:=.lst [.ref O]) h6;have e5:SqT K (upd (upd H4 O (.tup [Z,.str "num"])) U (.lst [.ref O])) O [.str z,.str "num"]:=by rw[<- hz];exact SqT.of (s6 _ _ Ae)
      exact hY _ _ ⟨U,rfl,s4.trans (s5.trans s6),[.ref O],[(z,"num")],Ae,Al.nil.snoc ⟨O,rfl,e5⟩,by show 1<=2;decide⟩
     left;rw[Bl];by_cases hf:wd="fn"
     ·obtain⟨z,e⟩:=af.1 (.inl hf);rw[decide_eq_true hf];left;refine⟨B1,λO h5=>?_⟩;left;refine⟨C9,λU h6=>?_⟩;exact one z (flat z e) O h5 U h6
     ·rw[decide_eq_false hf];left;rw[Bl];by_cases hl:wd="let"
      ·obtain⟨z,e⟩:=af.1 (.inr hl);rw[decide_eq_true hl];left;refine Be (λ_=>?_) (λ_=>?_)
       ·left;refine⟨B1,λO h5=>?_⟩;left;refine⟨C9,λU h6=>?_⟩;exact one z (flat z e) O h5 U h6
       ·exact none
      ·rw[decide_eq_false hl];left;exact none
    ·rintro _ H5 ⟨am,rfl,s5,ap⟩;with_reducible refine s_seq ?_;refine Dd (t:=Cr _ _ _) (R:=λI H'=>∃am,I=[some (.ref b),some (.ref p),some (.ref bb),some (.str wd),some Z,some (.ref pp),some (.ref r),some (.int ((j:Nat):Int)),some (.ref am)]/\Same H3 H'/\BdAt K H' am 2) ?_ ?_;rotate_left
     ·intro Y hY;left;rw[Bl];by_cases hc:wd="rec"
      ·obtain⟨y,z,e⟩:=af.2 hc;obtain⟨a,ea,qa⟩:∃a,Z=.ref a/\SqT K H a [.str y,.str z]:=by
        rcases hn with⟨_,h⟩|⟨a,us,e',qa,_,h⟩
        ·rw[e]at h;cases h
        ·refine⟨a,e',?_⟩;rw[e]at h;injection h with h;obtain⟨u1,u2,rfl⟩:=lz2 (vs:=us) (by first|exact h|(have:=congrArg Th h;rw[Pp]at this;exact this.symm));simp only[Qs,Vu,Ww,Dt.flat.injEq,and_true]at h;rw[h.1,h.2];exact qa
       subst ea;rw[decide_eq_true hc];have aj:=s3.trans s5;left;refine Aw (aj.tup qa) rfl ?_;left;refine⟨B1,λU h6=>?_⟩;have s6:=Same.upd (o:=.tup [.str y,.str "fun"]) h6;left;refine Aw ((aj.trans s6).tup qa) rfl ?_;left;refine⟨B1,λa7 h7=>?_⟩;have s7:=Same.upd (o:=.tup [.str z,.str "num"]) h7;left;refine⟨B1,λa8 h8=>?_⟩;have s8:=Same.upd (o:=.lst [.ref U,.ref a7]) h8;refine hY _ _ ⟨a8,rfl,s5.trans (s6.trans (s7.trans s8)),[.ref U,.ref a7],[(y,"fun"),(z,"num")],Ae,(Al.nil.snoc ⟨U,rfl,SqT.of ((s7.trans s8) _ _ Ae)⟩).snoc ⟨a7,rfl,SqT.of (s8 _ _ Ae)⟩,by show 2<=2;decide⟩
      ·rw[decide_eq_false hc];left;exact hY _ _ ⟨am,rfl,s5,ap⟩
     ·rintro _ H6 ⟨am,rfl,s6,mv,mz,em,av,lm⟩;have aa:=s3.trans s6;obtain⟨bs,zs,c1,c2,c3⟩:=ak.same aa;left;refine Aw (aa.tup qp) (Ck hu) ?_;left;refine⟨C9,λa7 h7=>?_⟩;have s7:=Same.upd (o:=.tup [.int ((j:Nat):Int)]) h7;refine .inr ⟨p,a7,_,_,rfl,rfl,(aa.trans s7) _ _ hp,Ae,by rw[Zcx];simp;lia,λr8 H8 s8 q8=>?_⟩;have ad:=s7.trans s8;have q8:H8 r8=some (.tup (A4 (pl++[j]))):=by
       have e:A4 pl++[V.int ((j:Nat):Int)]=A4 (pl++[j]):=by unfold A4;rw[Qh];rfl
       rw[<- e];exact q8
      left;refine Gv (ad _ _ c1) (ad _ _ em) (by lia) λa9 h9=>?_;have s9:=Same.upd (o:=.lst (bs++mv)) h9;have ac:=ad.trans s9;have an:=aa.trans ac;left;refine⟨us[j],ts[j],r8,a9,pl++[j],m+2,AG,rfl,(ax j _ _ hu ae).same an,a3 _ (Qo ae),s9 _ _ q8,⟨bs++mv,zs++mz,Ae,(c2.mono (PrW.same ac.t)).append (av.mono (PrW.same ac.t)),by rw[Pn];lia⟩,by lia,by rw[Pn,Py];lia,by lia,(λz hz hn=>ao z hz (an.free hn)),(λz=>ao a9 z ((aa.trans ad).free h9)),λrr ww HR sR eR ai=>?_⟩;have ah:=s6.trans (ac.trans sR);have l1:ws.length<=1001:=by
       rw[al.1];refine Qg (List.length_filter_le _ _) ?_;rw[Qc,Zdc];have:=Ztz ts j;lia
      have l2:ww.length<=1001:=by
       rw[ai.1];refine Qg (List.length_filter_le _ _) ?_;rw[Op];lia
      refine Gv (ah _ _ e3) eR (by lia) λaF hF=>?_;have sF:=Same.upd (o:=.lst (ws++ww)) hF;left;refine⟨_,_,aF,ws++ww,rfl,Ae,?_,s3.trans (ah.trans sF)⟩;have ba:=(al.mono (GpAt.same (ah.trans sF))).append (ai.mono (GpAt.same sF));rw[Zpr ae,Zf1,Vx,Qm,Ud (by lia),<- Su,List.filter_append];exact ba
   ·rintro I H3 ⟨v7,v8,r,ws,rfl,e3,al,s3⟩;left;refine q r ws H3 s3 e3 ?_;rw[walk];rw[Q9 (by lia)]at al;exact al
noncomputable def nm (i:Int):Str×V:=(("num":Str),.int i)
inductive Ap (K:Pg)(H H':Hp)(j:Nat)(y:Rx×Addr×Addr):Prop
 |mk (ov ev:List V)(t u z:Addr)(_:H y.2.1=some (.lst ov))(_:H y.2.2=some (.lst ev))(_:H' y.2.1=some (.lst (ov++[.ref t])))(_:H' y.2.2=some (.lst (ev++[.ref u])))(_:SqT K H' t [.str "num",.int (j:Nat)])(_:SqT K H' u [.str "z",.ref z])(_:SqT K H' z [.str "num",.int (j:Nat)])
def Nt (H H':Hp)(y:Rx×Addr×Addr):Prop:=∀xs,(H y.2.1=some (.lst xs)->H' y.2.1=some (.lst xs))/\(H y.2.2=some (.lst xs)->H' y.2.2=some (.lst xs))
inductive Zsb (K:Pg)(vs:List V)(H:Hp)(Q:VK)(e9:XK):Prop
 |mk (rd dd:Addr) (rv dv:List V) (rs:List Rx) (Y:Addr->Prop) (_:vs=[.ref rd,.ref dd]) (_:H rd=some (.lst rv)) (_:SepR K (λb=>¬Y b) H rv rs) (_:¬Y rd) (_:H dd=some (.lst dv)) (_:Al (RwAt K Y H) dv rs) (_:¬Y dd) (_:rs.length<=3000) (_:(∀x∈rs,x.ops.length<=1000/\x.ar.length<=1000)) (_:∀H',SameA Y H H'->Q (.bl true) H')
def Zdl (K:Pg):Sp:=Zsb K
theorem sc_law_apart:A9 ["_law_rows","_law_due","_law_k"] ["_law_rows","_law_due"] (A5 Lz):=by walk_at "sc"
theorem Zuf (F:Fun K "_law_apart" "_law_apart" Lz f fd)(T:Txt K mg):FnOk P w K mg base Aq 1 f fd ["_law_rows","_law_due"] (Zdl K):=by
 refine F.okq sc_law_apart (λvs H Q E h=>?_) (λcp A outer s H vs Q E hr h=>?_)
 ·obtain⟨rd,dd,rv,dv,rs,Y,rfl,_⟩:=h;rfl
 ·obtain⟨rd,dd,rv,dv,rs,Y,rfl,ai,cc,as,bj,ch,br,hl,a3,q⟩:=h;refine⟨_,Ad (Dq Qp rfl (Ey rfl T.range (Aa (A6 (B7 K) (by rfl) T.len (by right) (Aa (qv 0) Ab)) Ab)) (Bc (i:=2) sc_law_apart.nd rfl (Or.inl rfl)) (Ad (B2 (Cv K P5 Qe Qf C7 (Ah K (Ah K (qv 0) (qv 2)) Ac) (Aa (Ao (Aa Am (Aa (qv 2) Ab))) Ab)))
   (Af (B2 (Cv K P5 Qe Qf C7 (Ah K (Ah K (qv 0) (qv 2)) Ac) (Aa (Ao (Aa Am (Aa (Ao (Aa Am (Aa (qv 2) Ab))) Ab))) Ab))))))
   (Ad (Dq Qp rfl (Ey rfl T.range (Aa (A6 (B7 K) (by rfl) T.len (by right) (Aa (qv 0) Ab)) Ab)) (Bc (i:=2) sc_law_apart.nd rfl (Or.inl rfl)) (Af (Ay (QW.qt (C8 (Az (Dy K hr.u200) (Ah K (Ah K (qv 0) (qv 2)) Ac) (Ai (B6 K) (Ah K (Ah K (qv 1) (qv 2)) Ac) (Bq (Aa (Ao (Aa Am (Aa (qv 2) Ab))) Ab))) (Ax _)) (Dl (Az (Dy K hr.u200) (Ah K (Ah K (qv 0) (qv 2)) Ac) (Ai (B6 K) (Ah K (Ah K (qv 1) (qv 2)) Ac) (Bq (Aa (Ao (Aa Am (Aa (Ao (Aa Am (Aa (qv 2) Ab))) Ab))) Ab))) (Ax _))))) (Af (An B9)) A2)))
   (Af (An B9))),?_⟩
  have bg:=big;obtain⟨ys,ey,aq,au⟩:=cc;have cn:rv.length=rs.length:=by rw[aq.1,<- ey,Pp]
  left;refine Cp (SqL.of ai) ?_;left;refine⟨by lia,by lia,?_⟩;refine Fa (n:=rv.length) (λi I H'=>∃v2,I=[some (.ref rd),some (.ref dd),v2]/\SameA Y H H'/\∀j y,ys[j]?=some y->(j<i->Ap K H H' j y)/\(i<=j->Nt H H' y)) ⟨none,rfl,SameA.refl _ _,λj y _=>⟨λh=>absurd h (Vj _),λ_ xs=>⟨id,id⟩⟩⟩ ?_ ?_
  ·rintro i I HA hi ⟨v2,rfl,Z,U⟩;obtain⟨v,hv⟩:∃v,rv[i]?=some v:=⟨_,Pk hi⟩;obtain⟨y,hy,a,p,ov,ev,rfl,qa,_,ho,ah,he,ad,am,an,bh⟩:=aq.get hv;have am:Y y.2.1:=Classical.not_not.mp am;have an:Y y.2.2:=Classical.not_not.mp an;have hx:y.1∈rs:=by rw[<- ey];exact List.mem_map_of_mem (Qo hy)
   obtain⟨z1,z2⟩:=a3 _ hx;have lo:=ah.1;have le:=ad.1;have ao:=(((U i y hy).2 (Pj _)) ov).1 ho;have cj:=(((U i y hy).2 (Pj _)) ev).2 he;have ag:=Z.2 _ _ as ai;have ik:(0:Int)+(i:Int)=((i:Nat):Int):=by lia
   rw[ik];left;refine Bd (SqL.of ag) (Ck hv) ?_;left;refine Aw (Z.1.tup qa) rfl ?_;refine Ce (SqL.of ao) ?_;left;refine⟨B1,λt ht=>?_⟩;obtain⟨HB,s1,e1,z9⟩:=Cf ht (.tup [.str "num",.int (i:Nat)]);rw[z9];left;refine C6 (s1 _ _ ao) (by lia) ?_;have a2:SameA Y HB (upd HB y.2.1 (.lst (ov++[.ref t]))):=SameA.set (s1 _ _ ao) am;have e2:upd HB y.2.1 (.lst (ov++[.ref t])) y.2.1=some (.lst (ov++[.ref t])):=Ae;have k2:∀b o,b≠y.2.1->HB b=some o->upd HB y.2.1 (.lst (ov++[.ref t])) b=some o:=λb o n h=>by rw[Ag n];exact h
   revert a2 e2 k2;generalize upd HB y.2.1 (.lst (ov++[.ref t]))=HC;intro a2 e2 k2;have aC:SameA Y HA HC:=s1.a.trans a2;have a6:=Z.trans aC;have ap:=k2 _ _ (Ps bh) (s1 _ _ cj);have bq:=a6.2 _ _ as ai;left;refine Bd (SqL.of bq) (Ck hv) ?_;left;refine Aw (a6.1.tup qa) rfl ?_;refine Ce (SqL.of ap) ?_;left;refine⟨B1,λz hz=>?_⟩;obtain⟨HD,s3,e3,z9⟩:=Cf hz (.tup [.str "num",.int (i:Nat)]);rw[z9];left;refine⟨B1,λu hu=>?_⟩;obtain⟨HE,s4,e4,z9⟩:=Cf hu (.tup [.str "z",.ref z]);rw[z9];have ac:=s3.trans s4;left;refine C6 (ac _ _ ap) (by lia) ?_;have a5:SameA Y HE (upd HE y.2.2 (.lst (ev++[.ref u]))):=SameA.set (ac _ _ ap) an;have e5:upd HE y.2.2 (.lst (ev++[.ref u])) y.2.2=some (.lst (ev++[.ref u])):=Ae;have k5:∀b o,b≠y.2.2->HE b=some o->upd HE y.2.2 (.lst (ev++[.ref u])) b=some o:=λb o n h=>by rw[Ag n];exact h
   revert a5 e5 k5;generalize upd HE y.2.2 (.lst (ev++[.ref u]))=HF;intro a5 e5 k5;have ax:SameA Y HC HF:=ac.a.trans a5;have ae:=aC.trans ax;have keep:∀b o,b≠y.2.1->b≠y.2.2->HA b=some o->HF b=some o:=λb o n1 n2 h=>k5 b o n2 (ac _ _ (k2 b o n1 (s1 _ _ h)));refine⟨_,rfl,Z.trans ae,λj x hj=>?_⟩;by_cases e:j=i
   ·subst e;rw[hy]at hj;cases hj;exact⟨λ_=>⟨ov,ev,t,u,z,ho,he,k5 _ _ bh (ac _ _ e2),e5,(a2.1.trans ax.1).tup (SqT.of e1),a5.1.tup (SqT.of e4),(s4.t.trans a5.1).tup (SqT.of e3)⟩,λh=>absurd h (by lia)⟩
   ·have nn:x.2.1≠y.2.1/\x.2.1≠y.2.2/\x.2.2≠y.2.1/\x.2.2≠y.2.2:=by
     rcases Nat.lt_or_gt_of_ne e with h|h
     ·exact au j i x y hj hy h
     ·obtain⟨n1,n2,n3,n4⟩:=au i j y x hy hj h;exact⟨Ps n1,Ps n3,Ps n2,Ps n4⟩
    obtain⟨n1,n2,n3,n4⟩:=nn;refine⟨λh=>?_,λh xs=>?_⟩
    ·obtain⟨bv,bn,t',u',z',b1,b2,b3,b4,b5,b6,b7⟩:=(U j x hj).1 (by lia);exact⟨bv,bn,t',u',z',b1,b2,keep _ _ n1 n2 b3,keep _ _ n3 n4 b4,ae.1.tup b5,ae.1.tup b6,ae.1.tup b7⟩
    ·obtain⟨c1,c2⟩:=(U j x hj).2 (by lia) xs;exact⟨λh=>keep _ _ n1 n2 (c1 h),λh=>keep _ _ n3 n4 (c2 h)⟩
  ·rintro I HA ⟨v2,rfl,Z,U⟩;have ag:=Z.2 _ _ as ai;left;refine Cp (SqL.of ag) ?_;left;refine⟨by lia,by lia,?_⟩;refine Fa (n:=rv.length) (λi I H'=>∃v2,I=[some (.ref rd),some (.ref dd),v2]/\Same HA H') ⟨_,rfl,Same.refl _⟩ ?_ ?_
   ·rintro i I HB hi ⟨ck,rfl,sB⟩;obtain⟨v,hv⟩:∃v,rv[i]?=some v:=⟨_,Pk hi⟩;obtain⟨y,hy,a,p,bo,bp,rfl,qa,_,bx,ah,bu,ad,_,_,_⟩:=aq.get hv;have bb:rs[i]?=some y.1:=by rw[<- ey,Qy,hy];rfl
    obtain⟨cm,ay,da,dp,d1,d2,bf,a7,rfl,qd,_,b9,al,ci,ak,bi,bw⟩:=ch.get' bb;obtain⟨z1,z2⟩:=a3 _ (Qo bb);obtain⟨ov,ev,t,u,z,b1,b2,b3,b4,b5,b6,b7⟩:=(U i y hy).1 hi;have eo:ov=bo:=by rw[bx]at b1;cases b1;rfl
    have ee:ev=bp:=by rw[bu]at b2;cases b2;rfl
    subst eo ee;have aw:=sB _ _ ag;have a4:=sB _ _ (Z.2 _ _ br bj);have af:SameA Y H HB:=Z.trans sB.a;have av:=af.1.tup qa;have a8:=af.1.tup qd;have be:=af.2 _ _ bi b9;have ba:=af.2 _ _ bw ci;have lo:=ah.1;have le:=ad.1;have l1:=al.1;have l2:=ak.1;have ik:(0:Int)+(i:Int)=((i:Nat):Int):=by lia
    rw[ik];left;refine Bd (SqL.of aw) (Ck hv) ?_;left;refine Aw av rfl ?_;left;refine Bd (SqL.of a4) (Ck ay) ?_;left;refine Aw a8 rfl ?_;left;refine⟨B1,λc1 ce=>?_⟩;obtain⟨HC,s1,e1,z9⟩:=Cf ce (.tup [.str "num",.int (i:Nat)]);rw[z9];left;refine⟨C9,λc2 cf=>?_⟩;obtain⟨HD,s2,e2,z9⟩:=Cf cf (.lst [.ref c1]);rw[z9];have a0:=s1.trans s2;refine Gv (a0 _ _ be) e2 (by show bf.length+1<=_;lia) λc3 ca=>?_;obtain⟨HE,s3,e3,z9⟩:=Cf ca (.lst (bf++[.ref c1]));rw[z9];have O:=a0.trans s3;have aj:=sB.trans O;have tE:SameT H HE:=Z.1.trans aj.t;refine Zdq (n:=2) (d:=.lst ((y.1.ops++[nm (i:Nat)]).map Hy)) (by decide) (Al.lstD ((ah.mono (ThAt.same tE)).snoc ⟨rfl,t,rfl,aj.tup b5⟩) (SqL.of (aj _ _ b3)) λv x h=>ThAt.d h) (Al.lstD ((al.mono (ThAt.same tE)).snoc ⟨rfl,c1,rfl,SqT.of ((s2.trans s3) _ _ e1)⟩) (SqL.of e3) λv x h=>ThAt.d h) ?_;left;refine Bd (SqL.of (O _ _ aw)) (Ck hv) ?_;left;refine Aw (O.tup av) rfl ?_;left;refine Bd (SqL.of (O _ _ a4)) (Ck ay) ?_;left;refine Aw (O.tup a8) rfl ?_;left;refine⟨B1,λc4 cg=>?_⟩;obtain⟨HF,s4,e4,z9⟩:=Cf cg (.tup [.str "num",.int (i:Nat)]);rw[z9];left;refine⟨B1,λc5 cb=>?_⟩;obtain⟨HG,s5,e5,z9⟩:=Cf cb (.tup [.str "z",.ref c4]);rw[z9];left;refine⟨C9,λc6 b8=>?_⟩;obtain⟨HI,s6,e6,z9⟩:=Cf b8 (.lst [.ref c5]);rw[z9];have a9:=s4.trans (s5.trans s6);refine Gv (a9 _ _ (O _ _ ba)) e6 (by show a7.length+1<=_;lia) λc7 b0=>?_;obtain⟨HJ,s7,e7,z9⟩:=Cf b0 (.lst (a7++[.ref c5]));rw[z9];have bt:=a9.trans s7;have aa:=aj.trans bt;have tJ:SameT H HJ:=Z.1.trans aa.t;refine Zdq (n:=3) (d:=.lst ((y.1.ar++[(("z":Str),nm (i:Nat))]).map prD)) (by decide) (Al.lstD ((ad.mono (PrAt.same tJ)).snoc ⟨u,.ref z,rfl,aa.tup b6,rfl,z,rfl,aa.tup b7⟩) (SqL.of (aa _ _ b4)) λv x h=>PrAt.d h) (Al.lstD ((ak.mono (PrAt.same tJ)).snoc ⟨c5,.ref c4,rfl,SqT.of ((s6.trans s7) _ _ e5),rfl,c4,rfl,SqT.of ((s5.trans (s6.trans s7)) _ _ e4)⟩) (SqL.of e7) λv x h=>PrAt.d h) ?_;left;exact⟨_,rfl,aa⟩
   ·rintro I HB ⟨ck,rfl,sB⟩;left;exact q _ (Z.trans sB.a)
def Zaf (K:Pg):Sp:=λvs H Q _=>∃(a:Addr)(k:Int),vs=[.ref a,.int k]/\Script K H a/\0<=k/\k<=1000/\∀z:Int,Q (.int z) H
theorem Zi5:A9 ["_law_script","_law_k"] ["_law_script","_law_k"] (A5 Lv):=by walk_at "sc"
theorem Zlo (F:Fun K "_law_cell" "_law_cell" Lv f fd)(T:Txt K mg):FnOk P w K mg base Aq 1 f fd ["_law_script","_law_k"] (Zaf K):=by
 refine F.okq Zi5 (λvs H Q E h=>?_) (λO A outer s H vs Q E Z h=>?_)
 ·obtain⟨a,k,rfl,_⟩:=h;rfl
 ·obtain⟨a,k,rfl,S,I,h9,q⟩:=h;obtain⟨ns,j,Y⟩:=S.ex;refine⟨_,Ad (Ay (Az E6 (qv 1) (A6 (B7 K) (by rfl) T.len (by right) (Aa (qv 0) Ab)) (Ax _)) (Af (An (Ah K (qv 0) (qv 1)))) A2)
   (Af (An (Ai (B6 K) (Ai Im (qv 1) Ac) Ac))),?_⟩
  left;refine Cp j ?_;left;refine Be (λh=>?_) (λh=>?_)
  ·have h1:k<(ns.map V.int).length:=by simpa using h
   obtain⟨v,U,m⟩:=G3 I h1;obtain⟨z,_,rfl⟩:=Rf.mp m;left;exact Bd j U (q z)
  ·left;exact q _
def K6:Sp:=λvs H Q _=>∃(c k:Int),vs=[.int c,.int k]/\0<=k/\k<=1000/\∀z:Int,0<=z->z<999999999999999989->Q (.int z) H
theorem Zmk:A9 ["_law_cell_here","_law_k"] ["_law_cell_here","_law_k"] (A5 Ln):=by walk_at "sc"
theorem Zri (F:Fun K "_law_mixed" "_law_mixed" Ln f fd)(T:Txt K mg):FnOk P w K mg base Aq 1 f fd ["_law_cell_here","_law_k"] K6:=by
 refine F.okq Zmk (λvs H Q E h=>?_) (λj A outer s H vs Q E O h=>?_)
 ·obtain⟨a,k,rfl,_⟩:=h;rfl
 ·obtain⟨a,k,rfl,I,U,q⟩:=h;refine⟨_,Af (An (Ai Bf (Ai Im (Ai (B6 K) (Ai (B6 K) (qv 0) (Ai Im Ac (qv 1))) Ac) Ac) Ac)),?_⟩;left;exact q _ (Qi _ (by decide)) (Qx _ (by decide))
inductive Zuq (K:Pg)(n:Nat)(vs:List V)(H:Hp)(Q:VK)(e9:XK):Prop
 |mk (x y:V) (d:Dt) (m:Nat) (_:vs=[x,y]) (_:m<n) (_:IsD K H m x d) (_:IsD K H m y d) (_:Eg d) (_:∀H',Same H H'->Q (.bl true) H')
def He (K:Pg)(n:Nat):Sp:=Zuq K n
theorem sc_law_same:A9 ["_law_found","_law_due","_law_k"] ["_law_found","_law_due"] (A5 Jm):=by walk_at "sc"
theorem Ziz (F:Fun K "_law_same" "_law_same" Jm f fd)(T:Txt K mg)(C__law_same:A8 P w K mg base (n+1) "_law_same" ["_law_found","_law_due"] (He K n)):FnOk P w K mg base Aq (n+2) f fd ["_law_found","_law_due"] (He K (n+1)):=by
 refine F.okq sc_law_same (λvs H Q E h=>?_) (λac A outer s H vs Q E hr h=>?_)
 ·obtain⟨x,y,d,m,rfl,_⟩:=h;rfl
 ·obtain⟨x,y,d,m,rfl,hm,hx,hy,hd,q⟩:=h;refine⟨_,Ad (Ay (QW.qt (C8 (Bp (A6 (B4 K "bool") (by rfl) T.isinstance (by right) (Aa (qv 0) (Aa (B3 (v:=.ty "bool") (by rfl) T.bool (by right) rfl) Ab)))) (Dl (Bp (A6 (B4 K "bool") (by rfl) T.isinstance (by right) (Aa (qv 1) (Aa (B3 (v:=.ty "bool") (by rfl) T.bool (by right) rfl) Ab))))))) (Af (An (Fo (A6 (B4 K "bool") (by rfl) T.isinstance (by right) (Aa (qv 0) (Aa (B3 (v:=.ty "bool") (by rfl) T.bool (by right) rfl) Ab))) (Fo (A6 (B4 K "bool") (by rfl) T.isinstance (by right) (Aa (qv 1) (Aa (B3 (v:=.ty "bool") (by rfl) T.bool (by right) rfl) Ab))) (Fk (D5 (Ba K hr.u200) (qv 0) (qv 1) (Ax _))))))) A2)
   (Ad (Ay (QW.qt (C8 (Bp (A6 (B4 K "list") (by rfl) T.isinstance (by right) (Aa (qv 1) (Aa (B3 (v:=.ty "list") (by rfl) T.list (by right) rfl) Ab)))) (Dl (Bp (A6 (B4 K "tuple") (by rfl) T.isinstance (by right) (Aa (qv 1) (Aa (B3 (v:=.ty "tuple") (by rfl) T.tuple (by right) rfl) Ab))))))) (Ad (Ay (QW.qt (Ef (Cn (Bp (A6 (B4 K "list") (by rfl) T.isinstance (by right) (Aa (qv 0) (Aa (B3 (v:=.ty "list") (by rfl) T.list (by right) rfl) Ab))))) (D7 (Cn (Bp (A6 (B4 K "tuple") (by rfl) T.isinstance (by right) (Aa (qv 0) (Aa (B3 (v:=.ty "tuple") (by rfl) T.tuple (by right) rfl) Ab)))))))) (Af (An B9)) A2)
   (Ad (Ay (QW.qt (C8 (Az (Dy K hr.u200) (A6 (B4 K "list") (by rfl) T.isinstance (by right) (Aa (qv 0) (Aa (B3 (v:=.ty "list") (by rfl) T.list (by right) rfl) Ab))) (A6 (B4 K "list") (by rfl) T.isinstance (by right) (Aa (qv 1) (Aa (B3 (v:=.ty "list") (by rfl) T.list (by right) rfl) Ab))) (Ax _)) (Dl (Az (Dy K hr.u200) (A6 (B7 K) (by rfl) T.len (by right) (Aa (qv 0) Ab)) (A6 (B7 K) (by rfl) T.len (by right) (Aa (qv 1) Ab)) (Ax _))))) (Af (An B9)) A2)
   (Ad (Dq Qp rfl (Ey rfl T.range (Aa (A6 (B7 K) (by rfl) T.len (by right) (Aa (qv 1) Ab)) Ab)) (Bc (i:=2) sc_law_same.nd rfl (Or.inl rfl)) (Af (Ay (Cn (Bp (A3 C__law_same (hr.mono (by lia)) (Aa (Ah K (qv 0) (qv 2)) (Aa (Ah K (qv 1) (qv 2)) Ab))))) (Af (An B9)) A2)))
   (Af (An B9))))) A2)
   (Ad (Ay (Bp (A6 (B4 K "str") (by rfl) T.isinstance (by right) (Aa (qv 1) (Aa (B3 (v:=.ty "str") (by rfl) T.str (by right) rfl) Ab)))) (Af (An (Fo (A6 (B4 K "str") (by rfl) T.isinstance (by right) (Aa (qv 0) (Aa (B3 (v:=.ty "str") (by rfl) T.str (by right) rfl) Ab))) (Fk (D5 (Ba K hr.u200) (qv 0) (qv 1) (Ax _)))))) A2)
   (Ad (Ay (Bp (A6 (B4 K "int") (by rfl) T.isinstance (by right) (Aa (qv 1) (Aa (B3 (v:=.ty "int") (by rfl) T.int (by right) rfl) Ab)))) (Af (An (Fo (A6 (B4 K "int") (by rfl) T.isinstance (by right) (Aa (qv 0) (Aa (B3 (v:=.ty "int") (by rfl) T.int (by right) rfl) Ab))) (Fk (D5 (Ba K hr.u200) (qv 0) (qv 1) (Ax _)))))) A2)
   (Af (An (Fo (J6 (Gh (qv 0))) (Fk (J6 (Gh (qv 1)))))))))),?_⟩
  have bg:=big;cases hx with
  |flat hv =>
   cases hy with
   |flat _ =>
   cases x with
   |non =>
    left;refine Bw (b:=false) .non rfl ?_;left;refine Bw (b:=false) .non rfl ?_;left;refine Bw (b:=false) .non rfl ?_;left;refine Bw (b:=false) .non rfl ?_;left;refine Bw (b:=false) .non rfl ?_;left;refine Bw (b:=false) .non rfl ?_;left;rw[decide_eq_true (Eq.refl _)];left;rw[decide_eq_true (Eq.refl _)];left;exact q H (Same.refl _)
   |bl b =>
    left;refine Bw (b:=true) (.bl b) rfl ?_;left;refine Bw (b:=true) (.bl b) rfl ?_;left;refine Bw (b:=true) (.bl b) rfl ?_;left;rw[decide_eq_true (Eq.refl _)];left;exact q H (Same.refl _)
   |int b =>
    left;refine Bw (b:=false) (.int b) rfl ?_;left;refine Bw (b:=false) (.int b) rfl ?_;left;refine Bw (b:=false) (.int b) rfl ?_;left;refine Bw (b:=false) (.int b) rfl ?_;left;refine Bw (b:=false) (.int b) rfl ?_;left;refine Bw (b:=true) (.int b) rfl ?_;left;refine Bw (b:=true) (.int b) rfl ?_;left;rw[decide_eq_true (Eq.refl _)];left;exact q H (Same.refl _)
   |str b =>
    left;refine Bw (b:=false) (.str b) rfl ?_;left;refine Bw (b:=false) (.str b) rfl ?_;left;refine Bw (b:=false) (.str b) rfl ?_;left;refine Bw (b:=false) (.str b) rfl ?_;left;refine Bw (b:=true) (.str b) rfl ?_;left;refine Bw (b:=true) (.str b) rfl ?_;left;rw[decide_eq_true (Eq.refl _)];left;exact q H (Same.refl _)
   |_=>exact absurd hv (by simp[C2])
  | @tup k a vs ds U la ha =>
   cases hy with
   | @tup _ c ws _ O lc hc =>
   cases hd with
   |tup hl aa =>
   left;refine D0 (b:=false) U rfl ?_;left;refine D0 (b:=false) O rfl ?_;left;refine D0 (b:=false) O rfl ?_;left;refine D0 (b:=true) O rfl ?_;left;refine D0 (b:=false) U rfl ?_;left;refine D0 (b:=true) U rfl ?_;left;refine D0 (b:=false) U rfl ?_;left;refine D0 (b:=false) O rfl ?_;left;rw[decide_eq_true (Eq.refl _)];left;refine Dv U ?_;left;refine Dv O ?_;left;rw[la,lc,decide_eq_true (Eq.refl _)];left;refine Dv O ?_;left;rw[lc];refine⟨by lia,by lia,?_⟩;refine Fa (n:=(ds.length:Int).toNat) (λi j H'=>∃v2,j=[some (.ref a),some (.ref c),v2]/\Same H H') ⟨none,rfl,Same.refl _⟩ ?_ ?_
   ·rintro i j H' hi ⟨v2,rfl,I⟩;have hi:i<ds.length:=by lia
    have e0:(0:Int)+(i:Int)=((i:Nat):Int):=by lia
    rw[e0];have Y:i<vs.length:=by lia
    have Z:i<ws.length:=by lia
    left;refine Aw (I.tup U) (Ck (Pk Y)) ?_;left;refine Aw (I.tup O) (Ck (Pk Z)) ?_;left;refine⟨vs[i],ws[i],ds[i],k,rfl,by lia,(ha i _ _ (Pk Y) (Pk hi)).same I,(hc i _ _ (Pk Z) (Pk hi)).same I,aa _ (Vb hi),λH2 s2=>?_⟩;left;exact⟨_,rfl,I.trans s2⟩
   ·rintro j H' ⟨v2,rfl,I⟩;left;exact q H' I
  | @lst k a vs ds U la ha =>
   cases hy with
   | @lst _ c ws _ O lc hc =>
   cases hd with
   |lst hl aa =>
   left;refine Fq (b:=false) U rfl ?_;left;refine Fq (b:=false) O rfl ?_;left;refine Fq (b:=true) O rfl ?_;left;refine Fq (b:=true) U rfl ?_;left;refine Fq (b:=true) U rfl ?_;left;refine Fq (b:=true) O rfl ?_;left;rw[decide_eq_true (Eq.refl _)];left;refine Cp U ?_;left;refine Cp O ?_;left;rw[la,lc,decide_eq_true (Eq.refl _)];left;refine Cp O ?_;left;rw[lc];refine⟨by lia,by lia,?_⟩;refine Fa (n:=(ds.length:Int).toNat) (λi j H'=>∃v2,j=[some (.ref a),some (.ref c),v2]/\Same H H') ⟨none,rfl,Same.refl _⟩ ?_ ?_
   ·rintro i j H' hi ⟨v2,rfl,I⟩;have hi:i<ds.length:=by lia
    have e0:(0:Int)+(i:Int)=((i:Nat):Int):=by lia
    rw[e0];have Y:i<vs.length:=by lia
    have Z:i<ws.length:=by lia
    left;refine Bd (I.seq U) (Ck (Pk Y)) ?_;left;refine Bd (I.seq O) (Ck (Pk Z)) ?_;left;refine⟨vs[i],ws[i],ds[i],k,rfl,by lia,(ha i _ _ (Pk Y) (Pk hi)).same I,(hc i _ _ (Pk Z) (Pk hi)).same I,aa _ (Vb hi),λH2 s2=>?_⟩;left;exact⟨_,rfl,I.trans s2⟩
   ·rintro j H' ⟨v2,rfl,I⟩;left;exact q H' I
structure RGd (o:Er):Prop where
 t:TOk o.2.1.length o.1
 l:RLt o.2.1
 n:o.2.1.length<=3000
 z:∀r∈o.2.1,r.pl.length<=5000/\r.ops.length<=2/\r.ar.length<=1000
 s:o.2.2<=500
theorem Zuv (tf:Tf t)(hz:t.size<=2000)(h:ev (Bu t) 500 501 [] [] [] 0=some o):RGd o:=by
 have S:=Ix tf (show t.size<=5000 by lia);have j:=B0 S 501 _ _ _ _ _ (Fi _) h;have I:=j.b;have O:=j.m;have U:(([]:List Rx).length:Int)=0:=rfl;refine⟨j.t,Gn S 501 _ _ _ _ _ (Fi _) (λk r F=>by simp at F) h,by lia,λr F=>?_,I⟩;obtain⟨i,hi⟩:=Wb F;obtain⟨_,⟨k1,k2,k3⟩,_⟩:=j.r i r hi;exact⟨k1,k2,by lia⟩
inductive RcX (K:Pg)(A:Addr->Prop)(H:Hp)(v:V)(o:Er):Prop
 |mk (r rd:Addr)(av:V)(rv:List V)(_:v=.ref r)(_:SqT K H r [av,.ref rd,.int o.2.2])(_:ThAt K H av o.1)(_:H rd=some (.lst rv))(_:¬A rd)(_:Al (RwX K A H) rv o.2.1)
theorem RcX.same (h:RcX K A H v o)(s:SameA A H H'):RcX K A H' v o:=by
 obtain⟨r,rd,U,I,h1,h2,O,Y,j,F⟩:=h;exact⟨r,rd,U,I,h1,s.1.tup h2,ThAt.same s.1 _ _ O,s.2 _ _ j Y,j,F.mono (RwX.same s)⟩
theorem RcX.mono (h:RcX K A H v o)(s:∀b,B b->H b≠none->A b):RcX K B H v o:=by
 obtain⟨r,rd,Y,O,h1,h2,U,j,I,F⟩:=h;exact⟨r,rd,Y,O,h1,h2,U,j,λz=>I (s _ z (by rw[j];exact λe=>nomatch e)),F.mono (RwX.mono s)⟩
theorem RcX.at (h:RcX K A H v o):RcAt K H v o:=by
 obtain⟨r,rd,O,F,h1,h2,I,U,_,j⟩:=h;exact⟨r,rd,O,F,A,h1,h2,I,U,j.mono λ_ _ h=>h.1⟩
def F0:Addr->Prop:=λ_=>False
def RnX (K:Pg)(A:Addr->Prop)(H:Hp)(v:V)(r:Option Er):Prop:=(∀o,r=some o->RcX K A H v o/\RGd o)/\(r=none->v=.non)
theorem RnX.same (h:RnX K A H v r)(s:SameA A H H'):RnX K A H' v r:=⟨λo e=>⟨(h.1 o e).1.same s,(h.1 o e).2⟩,h.2⟩
theorem RnX.mono (h:RnX K A H v r)(s:∀b,B b->H b≠none->A b):RnX K B H v r:=⟨λo e=>⟨(h.1 o e).1.mono s,(h.1 o e).2⟩,h.2⟩
noncomputable def recD (x:Str×V)(rs:List Rx)(n:Int):Dt:=.tup [Hy x,.lst (rs.map rzD),.flat (.int n)]
theorem RcAt.d (h:RcAt K H v o):IsD K H 6 v (recD o.1 o.2.1 o.2.2):=by
 obtain⟨r,rd,Y,U,A,rfl,q,O,F,I⟩:=h;refine .tup q rfl λj v d h1 h2=>?_
 match j,h1,h2 with
 |0,h1,h2=>cases h1;cases h2;exact(ThAt.d O).up (by decide)
 |1,h1,h2=>cases h1;cases h2;exact Al.lstD I (SqL.of F) λv x h=>RwAt.d h
 |2,h1,h2=>cases h1;cases h2;exact .flat rfl
theorem Zbj (g:RGd o):Eg (recD o.1 o.2.1 o.2.2):=.tup (by show 3<=5000;decide) λd hd=>by
 simp only[Po,Px,or_false]at hd;rcases hd with rfl|rfl|rfl
 ·exact Zcv _
 ·exact Ot (by have:=g.n;lia) λx j=>Zlw ⟨(g.z x j).1,by have:=(g.z x j).2.1;lia,by have:=(g.z x j).2.2;lia⟩
 ·exact .flat _
theorem Zk9 (s:Same H H1)(a:SameA A H1 H2)(h:∀b,A b->H b=none):SameA F0 H H2:=⟨s.t.trans a.1,λb xs _ e=>a.2 b xs (λz=>by rw[h b z]at e;cases e) (s _ _ e)⟩
theorem lrX (A:Addr->Prop)(hA:∀z,A z->H z≠none)(hT:TrAt K H tv t)(tf:Tf t)(hz:t.size<=2000)(h:∀v H',Same H H'->RnX K A H' v (ev (Bu t) 500 501 [] [] [] 0)->Q v H'):Nm K [tv] H Q E:=⟨tv,t,rfl,hT,tf,hz,λo j r rd Z Y H' s' q' ta er al O=>h _ _ s' ⟨λo' F=>by rw[j]at F;cases F;exact⟨⟨r,rd,Z,Y,rfl,q',ta,er,(λz=>hA rd z O),al.mono (RwX.mono λb U _=>.inr (hA b U))⟩,Zuv tf hz j⟩,λI=>by rw[j]at I;cases I⟩,λI H' s'=>h _ _ s' ⟨λo j=>(by rw[I]at j;cases j),λ_=>rfl⟩⟩
def FdX (K:Pg)(H H':Hp)(v:V)(r:Option Er):Prop:=(∀o,r=some o->eX4 λ(q rd:Addr)(av:V)(rv:List V)=>v=.ref q/\SqT K H' q [av,.ref rd,.int o.2.2]/\ThAt K H' av o.1/\H' rd=some (.lst rv)/\Al (RwX K (λb=>b=rd\/H b≠none) H') rv o.2.1/\SepR K (λb=>b=rd\/H b≠none) H' rv o.2.1/\H rd=none)/\(r=none->v=.non)
theorem lgX (T:TrAt K H tv t)(tf:Tf t)(ff:Tf f)(hz:t.size+f.size<=1000)(hp:SqT K H p (A4 pl))(hl:pl.length<=1000)(hs:K19.Sub t pl)(hg:Co t pl=some g)(hw:g.wd="gap")(F:TrAt K H fv f)(ho:ev (Bu t) 500 501 [] [] [] 0=some o)(G:RGd o)(qr:SqT K H r [av,.ref q,.int o.2.2])(ha:ThAt K H av o.1)(eq:H q=some (.lst ws))(al:Al (RwX K (λb=>b=q) H) ws o.2.1)(h:∀v H',Same H H'->FdX K H H' v (ev (Bu (K19.withAt t pl f)) 500 501 [] [] [] 0)->Q v H'):O3 K TL [tv,.ref r,.ref p,fv] H Q E:=by
 have z1:=K19.with_cons (w:="gap") (n:=.flat .non) (ts:=[t]) (j:=0) (t:=t) (f:=f) (r:=[]) rfl;have ae:=Pd (f:=f) hs;have aa:=Zbd hs tf ff;obtain⟨Y,O⟩:=Zg7 (f:=f) tf hs hg hw;obtain⟨oo,GO,g1,g2⟩:=Zlc (Ix tf (by lia)) (Ix aa (by lia)) Y (by rw[Gg,Es];rfl) O ho;have ad:(K19.path t pl)[pl.length]?=some (.mk "gap" (Ft g) g.ps):=by rw[Zif hs,hg,<- hw,<- Ze3]
 have gn:=G.n;refine⟨tv,.ref r,.ref p,fv,λH'=>Same H H'/\oo=none,rfl,⟨tv,fv,av,t,f,p,r,q,pl,_,_,o.2.2,ws,o.2.1,o.1,oo,rfl,T,by lia,hp,hs,hl,ad,F,by lia,qr,G.s,eq,al,by lia,ha,GO,λbc S' e=>?_,λe H' s=>⟨rfl,rfl,s,e⟩⟩,λH' H2 n s=>?_⟩
 ·obtain⟨k1,k2⟩:=g1 bc S' e;refine⟨k1,λr' U ac Z H' s b1 b2 b3 b4 b5 b6=>h _ _ s ⟨λo' I=>?_,λhn=>by rw[k2]at hn;cases hn⟩⟩;rw[k2]at I;cases I;exact⟨r',U,ac,Z,rfl,b1,b2,b3,b4,b5,b6⟩
 ·have k2:=g2 n.2;exact h _ _ (n.1.trans s) ⟨λo' I=>(by rw[k2]at I;cases I),λ_=>rfl⟩
inductive Zqr (K:Pg)(vs:List V)(H:Hp)(Q:VK)(e9:XK):Prop
 |mk (tv v fv:V) (t f g:Tr) (p:Addr) (pl:List Nat) (AG:Addr->Prop) (_:vs=[tv,v,.ref p,fv]) (_:(∀z,AG z->H z≠none)) (_:TrAt K H tv t) (_:Tf t) (_:t.size+f.size<=1000) (_:SqT K H p (A4 pl)) (_:pl.length<=200) (_:K19.Sub t pl) (_:Co t pl=some g) (_:g.wd="gap") (_:TrAt K H fv f) (_:Tf f) (_:RnX K F0 H v (ev (Bu t) 500 501 [] [] [] 0)) (_:∀(r:Addr)(tv' v':V)(H':Hp),SameA F0 H H'->SqT K H' r [.bl true,tv',v']->TrAt K H' tv' (K19.withAt t pl f)->RnX K AG H' v' (ev (Bu (K19.withAt t pl f)) 500 501 [] [] [] 0)->Q (.ref r) H')
def Zft (K:Pg):Sp:=Zqr K
theorem Jo:A9 ["_law_tree","_law_record","_law_place","_law_form_here","_law_filled_here","_law_due","_law_handed","_law_found","_law_kept"] ["_law_tree","_law_record","_law_place","_law_form_here"] (A5 K9):=by walk_at "sc"
theorem Zrg (F:Fun K "_law_step" "_law_step" K9 f fd)(T:Txt K mg)(C__law_filled:A8 P w K mg base 202 "_law_filled" ["_law_tree","_law_place","_law_form_here"] (Hb K 201))(C__law_run:A8 P w K mg base 8 "_law_run" ["_law_tree"] (Nm K))(C__law_copy:A8 P w K mg base 1 "_law_copy" ["_law_record"] (Zep K))(C__law_go_on:A8 P w K mg base 9 "_law_go_on" ["_law_tree","_law_record","_law_place","_law_form_here"] (O3 K TL))(C__law_same:A8 P w K mg base 8 "_law_same" ["_law_found","_law_due"] (He K 7))(C__law_is_record:A8 P w K mg base 3 "_law_is_record" ["_law_found"] (Zda K))(C__law_apart:A8 P w K mg base 1 "_law_apart" ["_law_rows","_law_due"] (Zdl K)):FnOk P w K mg base Aq 203 f fd ["_law_tree","_law_record","_law_place","_law_form_here"] (Zft K):=by
 refine F.okq Jo (λvs H Q E h=>?_) (λbx A outer s H vs Q E Z h=>?_)
 ·obtain⟨tv,v,fv,t,f,g,p,pl,AG,rfl,_⟩:=h;rfl
 ·obtain⟨tv,v,fv,t,f,g,p,pl,AG,rfl,ay,hT,tf,hz,hp,hl,hs,hg,hw,hF,ff,R,q⟩:=h;refine⟨_,Ad (Av 4 Jo (A3 C__law_filled Z.m (Aa (qv 0) (Aa (qv 2) (Aa (qv 3) Ab)))))
   (Ad (Av 5 Jo (A3 C__law_run Z.m (Aa (qv 4) Ab)))
   (Ad (Ay (L0 (Gh (qv 1))) (Af (An (Ao (Aa (J6 (Gh (qv 5))) (Aa (qv 4) (Aa Dp Ab)))))) A2)
   (Ad (Av 6 Jo (A3 C__law_copy Z.m (Aa (qv 1) Ab)))
   (Ad (Av 7 Jo (A3 C__law_go_on Z.m (Aa (qv 0) (Aa (qv 6) (Aa (qv 2) (Aa (qv 3) Ab))))))
   (Ad (Ay (Cn (Bp (A3 C__law_same Z.m (Aa (qv 6) (Aa (qv 1) Ab))))) (Af (An (Ao (Aa B9 (Aa (qv 4) (Aa Dp Ab)))))) A2)
   (Ad (Ay (QW.qt (C8 (L0 (Gh (qv 5))) (Dl (L0 (Gh (qv 7)))))) (Af (An (Ao (Aa (Fo (J6 (Gh (qv 5))) (Fk (J6 (Gh (qv 7))))) (Aa (qv 4) (Aa Dp Ab)))))) A2)
   (Ad (Ay (QW.qt (C8 (Cn (Bp (A3 C__law_is_record Z.m (Aa (qv 5) Ab)))) (Dl (Cn (Bp (A3 C__law_same Z.m (Aa (qv 7) (Aa (qv 5) Ab)))))))) (Af (An (Ao (Aa B9 (Aa (qv 4) (Aa Dp Ab)))))) A2)
   (Ad (Av 8 Jo (A3 C__law_copy Z.m (Aa (qv 7) Ab)))
   (Af (An (Ao (Aa (Fo (A3 C__law_apart Z.m (Aa (Ah K (qv 7) Ac) (Aa (Ah K (qv 5) Ac) Ab))) (Fk (A3 C__law_same Z.m (Aa (qv 6) (Aa (qv 1) Ab))))) (Aa (qv 4) (Aa (qv 8) Ab)))))))))))))),?_⟩
  have bg:=big;have bu:=Pd (f:=f) hs;have a0:=Zbd hs tf ff;have Y:=(Zfm (Ix tf (by lia)) (Ix a0 (by lia)) (Zg7 (f:=f) tf hs hg hw).1 (by rw[Gg,Es];rfl)).1;left;refine⟨tv,fv,t,f,p,pl,rfl,hT,hp,hs,by lia,by lia,by lia,hF,λv1 H1 s1 T1=>?_⟩;left;refine lrX F0 (λ_ h=>h.elim) T1 a0 (by lia) λw1 H2 s2 R1=>?_;have ah:=s1.trans s2;have T2:=T1.same s2;generalize hN:ev (Bu (K19.withAt t pl f)) 500 501 [] [] [] 0=N at R1 q Y;left;cases hO:ev (Bu t) 500 501 [] [] [] 0 with
  |none =>
   obtain rfl:=R.2 hO;refine G9 (by simp) ?_;have hn:=Y hO;subst hn;obtain rfl:=R1.2 rfl;left;refine⟨Bg,λr bo=>?_⟩;have s3:=Same.upd (o:=.tup [.bl true,v1,.non]) bo;exact q r v1 .non _ (ah.trans s3).a (SqT.of Ae) (T2.same s3) ⟨λo ho=>(by cases ho),λ_=>rfl⟩
  |some o =>
  obtain⟨rc,G⟩:=R.1 o hO;have aq:=rc.same ah.a;obtain⟨q0,rl,av,rv,rfl,bt,bj,br,_,bn⟩:=id aq;refine D6 (by simp) ?_;left;refine⟨q0,rl,av,o.2.2,rv,o.2.1,F0,rfl,bt,br,bn,G.n,λr qh ws H3 s3 qr nq eq ap=>?_⟩;have U:=ah.trans s3;have ad:=ThAt.same s3.t _ _ bj;left;refine lgX (TL:=TL) (hT.same U) tf ff hz (U.tup hp) (by lia) hs hg hw (hF.same U) hO G qr ad eq (ap.mono (RwX.mono λb j _=>.inl j)) λvf HF sF FD=>?_;rw[hN]at FD;have am:RcX K F0 H3 (.ref r) o:=⟨r,qh,av,ws,rfl,qr,ad,eq,id,ap.mono (RwX.mono λb j _=>j.elim)⟩;have as:=aq.same s3.a;left;refine⟨_,_,_,6,rfl,by decide,(am.same sF.a).at.d,(as.same sF.a).at.d,Zbj G,λH4 s4=>?_⟩;have ac:=sF.trans s4;left;cases N with
  |none =>
   obtain rfl:=R1.2 rfl;obtain rfl:=FD.2 rfl;refine G9 (by simp) ?_;left;refine G9 (by simp) ?_;left;refine⟨Bg,λr8 ba=>?_⟩;have s8:=Same.upd (o:=.tup [.bl true,v1,.non]) ba;exact q r8 v1 .non _ (U.trans (ac.trans s8)).a (SqT.of Ae) (T2.same (s3.trans (ac.trans s8))) ⟨λo ho=>(by cases ho),λ_=>rfl⟩
  |some o' =>
  obtain⟨rn,G'⟩:=R1.1 o' rfl;have al:=rn.same s3.a;obtain⟨qf,rf,af,ai,rfl,ae,ax,ag,au,bp,bw⟩:=FD.1 o' rfl;have a9:RcX K F0 HF (.ref qf) o':=⟨qf,rf,af,ai,rfl,ae,ax,ag,id,au.mono (RwX.mono λb j _=>j.elim)⟩;have aj:∀{v o},RcX K F0 H3 v o->RcX K (λb=>HF b≠none/\b≠rf/\H3 b=none) H3 v o:=λh=>h.mono λb j ak=>absurd j.2.2 ak;obtain⟨q5,d5,a5,v5,rfl,a8,bv,bb,a6,a3⟩:=id (aj al);refine D6 (by simp) ?_;left;refine D6 (by simp) ?_;left;refine⟨_,o',rfl,(al.same ac.a).at,G'.t,G'.l,G'.n,?_⟩;left;refine⟨_,_,_,6,rfl,by decide,(a9.same s4.a).at.d,(al.same ac.a).at.d,Zbj G',λH5 s5=>?_⟩;have I:=s4.trans s5;have aw:=sF.trans I;left;refine⟨qf,rf,af,o'.2.2,ai,o'.2.1,F0,rfl,I.tup ae,I _ _ ag,(au.mono (RwX.mono λb j _=>j.elim)).mono (RwX.same I.a),G'.n,λrk qk wk H6 s6 bi ao bq be=>?_⟩;have aa:=I.trans s6;have O:=aw.trans s6;left;refine Aw (aa.tup ae) rfl ?_;left;refine Aw (O.tup a8) rfl ?_;left;refine⟨rf,d5,ai,v5,o'.2.1,λb=>HF b≠none/\b≠rf/\H3 b=none,rfl,aa _ _ ag,?_,λz=>z.2.1 rfl,O _ _ bb,(a3.mono (RwX.same O.a)).mono λ_ _ h=>h.1,a6,G'.n,λx hx=>⟨by have:=(G'.z x hx).2.1;lia,(G'.z x hx).2.2⟩,λH7 a7=>?_⟩
  ·refine(bp.mono λb j ak=>?_).same aa.a;by_cases e1:b=rf
   ·exact .inl e1
   ·by_cases e2:H3 b=none
    ·exact absurd ⟨ak,e1,e2⟩ j
    ·exact .inr e2
  have a4:=((aj am).same O.a).same a7;have bh:=((aj as).same O.a).same a7;left;refine⟨_,_,_,6,rfl,by decide,a4.at.d,bh.at.d,Zbj G,λH8 s8=>?_⟩;left;refine⟨Bg,λr9 bf=>?_⟩;have s9:=s8.trans (Same.upd (o:=.tup [.bl true,v1,.ref rk]) bf);have an:=U.trans aw;have kept:RcX K (λb=>(HF b≠none/\b≠rf/\H3 b=none)\/AG b) H6 (.ref rk) o':=⟨rk,qk,af,wk,rfl,bi,ThAt.same aa.t _ _ ax,bq,λz=>z.elim (λz=>z.1 (I.free ao)) (λz=>ay _ z (an.free ao)),be.mono (RwX.mono λb j _=>.inr λz=>j.elim (λj=>j.1 (I.free z)) λj=>ay b j (an.free z))⟩;refine q r9 v1 (.ref rk) _ ((Zk9 (U.trans O) a7 λb j=>U.free j.2.2).trans s9.a) (SqT.of Ae) (((T2.same (s3.trans O)).sameT a7.1).same s9) ⟨λo2 e=>?_,λe=>(by cases e)⟩;cases e;exact⟨((kept.same (a7.mono λb j=>.inl j)).same s9.a).mono λb j _=>.inr j,G'⟩
def Zge:Sp:=λvs H Q _=>∃c:Int,vs=[.int c]/\∀z:Int,Q (.int z) H
theorem Zlj:A9 ["_law_cell_here"] ["_law_cell_here"] (A5 Lp):=by walk_at "sc"
theorem Zjm (F:Fun K "_law_number" "_law_number" Lp f fd)(T:Txt K mg):FnOk P w K mg base Aq 1 f fd ["_law_cell_here"] Zge:=by
 refine F.okq Zlj (λvs H Q E h=>?_) (λI A outer s H vs Q E j h=>?_)
 ·obtain⟨c,rfl,_⟩:=h;rfl
 ·obtain⟨c,rfl,q⟩:=h;refine⟨_,Ad (Ay (Az (Ba K j.u200) (Ai Bf (qv 0) Ac) Ac (Ax _)) (Af (An (Ai Bf (Ai Df (qv 0) Ac) Ac))) A2)
   (Ad (Ay (Az (Ba K j.u200) (Ai Bf (qv 0) Ac) Ac (Ax _)) (Af (An (Ai Eo (Ai Eo (Ai Oj Ac Ac) Ac) (Ai Bf (Ai Df (qv 0) Ac) Ac)))) A2)
   (Af (An (Ai Bf (Ai Im (qv 0) Ac) (Ai Oj Ac Ac))))),?_⟩
  left;refine Be (λh=>?_) (λh=>?_)
  ·left;exact q _
  left;refine Be (λh=>?_) (λh=>?_)
  ·left;exact q _
  left;exact q _
theorem Zdp {n:Int}(h0:0<=n)(h1:n<10 ^ 18):(Qt (toString n)).length<=19:=by
 have e:=PySem.int_text_length_le10 (a:=n) (k:=18) (by decide) (by lia);rw[Str.ofString_eq_toList];show((toString n).toList.map Char.toNat).toArray.size<=19;rw[Pl,Pp,String.length_toList];exact e
theorem Zie {n:Int}(h0:0<=n)(h1:n<10 ^ 18):n.natAbs.log2<1920:=by
 by_cases z:n.natAbs=0
 ·rw[z];decide
 ·rw[Nat.log2_lt z];have:n.natAbs<10 ^ 18:=by lia
  exact P9 this (by right)
theorem Nh (h1:H a=some (.tup [.str wd,nv,.ref p]))(h2:H p=some (.tup []))(hf:C2 nv=true):TrAt K H (.ref a) (.mk wd (.flat nv) []):=.mk (SqT.of h1) (.inl ⟨hf,rfl⟩) (SqT.of h2) rfl λj v t e _=>by simp at e
inductive Zuh (K:Pg)(vs:List V)(H:Hp)(Q:VK)(e9:XK):Prop
 |mk (c:Int) (ar pn:Addr) (so:Str) (ts:List Str) (m:Nat) (_:vs=[.int c,.ref ar,.ref pn,.str so]) (_:BdAt K H ar m) (_:m<=1000) (_:H pn=some (.lst (ts.map V.str))) (_:ts.length=5) (_:∀v t H',Same H H'->TrAt K H' v t->Tf t->t.size<=2->Q v H')
def Nr (K:Pg):Sp:=Zuh K
theorem Zdy:(["_law_name","_law_kind","_law_sort"]:List Str).Nodup:=by right
theorem sc_law_end:A9 ["_law_cell_here","_law_around","_law_names_here","_law_sort","_law_pick","_law_known"] ["_law_cell_here","_law_around","_law_names_here","_law_sort"] (A5 K1):=by walk_at "sc"
theorem Zu7 (F:Fun K "_law_end" "_law_end" K1 f fd)(T:Txt K mg)(C__law_number:A8 P w K mg base 1 "_law_number" ["_law_cell_here"] Zge):FnOk P w K mg base Aq 2 f fd ["_law_cell_here","_law_around","_law_names_here","_law_sort"] (Nr K):=by
 refine F.okq sc_law_end (λvs H Q E h=>?_) (λai A outer s H vs Q E hr h=>?_)
 ·obtain⟨c,ar,pn,so,ts,m,rfl,_⟩:=h;rfl
 ·obtain⟨c,ar,pn,so,ts,m,rfl,⟨bs,zs,eb,ag,lb⟩,hm,ae,ah,q⟩:=h;refine⟨_,Ad (Av 4 sc_law_end (Ai Bf (qv 0) Ac))
   (Ad (Av 0 sc_law_end (Ai Df (qv 0) Ac))
   (Ad (Nf (i:=5) (N:=["_law_name","_law_kind","_law_sort"]) (σ0:=Ed 2 [3]) rfl (Fz rfl (by right) (by right) (by right)) (E9 K (qv 1)) (Fy rfl (by rfl)) (λ_ _ _ _=>Ep K (n:=2) rfl (Ci (Bc (i:=0) Zdy rfl (Or.inl rfl)) (Ci (Bc (i:=1) Zdy rfl (Or.inl rfl)) (Ei)))) (λ_ _ _ _=>Zam (Az (Ba K hr.u200) (qv 1) (qv 2) (Ax _))) (λ_ _ _ _=>qv 0) sc_law_end.nd rfl (Or.inl rfl))
   (Ad (Ay (Az E6 (qv 4) Ac (Ax _)) (Af (An (Ao (Aa Am (Aa Dp (Aa (Ao Ab) Ab)))))) A2)
   (Ad (Ay (QW.qt (Ef (Az E6 (qv 4) Ac (Ax _)) (D7 (Az Ig (A6 (B7 K) (by rfl) T.len (by right) (Aa (qv 5) Ab)) Ac (Ax _))))) (Af (An (Ao (Aa Am (Aa (Ah K (qv 5) (Ai Bf (qv 0) (A6 (B7 K) (by rfl) T.len (by right) (Aa (qv 5) Ab)))) (Aa (Ao Ab) Ab)))))) A2)
   (Ad (Ay (QW.qt (Ef (Az (Ba K hr.u200) (qv 4) Ac (Ax _)) (D7 (Az (Ba K hr.u200) (Ai Bf (qv 0) Ac) Ac (Ax _))))) (Af (An (Ao (Aa Am (Aa (Ah K (qv 2) Ac) (Aa (Ao Ab) Ab)))))) A2)
   (Ad (Ay (QW.qt (Ef (Az (Ba K hr.u200) (qv 4) Ac (Ax _)) (D7 (Az (Ba K hr.u200) (Ai Bf (qv 0) Ac) Ac (Ax _))))) (Af (An (Ao (Aa Am (Aa (Ai (B6 K) Am (D4 Zh1 (by rfl) T.str (by right) (Aa (Ai Bf (Ai Df (qv 0) Ac) Ac) Ab))) (Aa (Ao Ab) Ab)))))) A2)
   (Ad (Ay (Az (Ba K hr.u200) (qv 3) Am (Ax _)) (Af (An (Ao (Aa Am (Aa (D5 (Ba K hr.u200) (Ai Bf (qv 0) Ac) Ac (Ax _)) (Aa (Ao Ab) Ab)))))) A2)
   (Ad (Ay (Az (Ba K hr.u200) (qv 3) Am (Ax _)) (Af (An (Ao (Aa Am (Aa (Ah K (qv 2) (Ai Bf (qv 0) Ac)) (Aa (Ao (Aa (Ao (Aa Am (Aa (Ah K (qv 2) (Ai Bf (Ai Df (qv 0) Ac) Ac)) (Aa (Ao Ab) Ab)))) Ab)) Ab)))))) A2)
   (Af (An (Ao (Aa Am (Aa (A3 C__law_number hr.m (Aa (qv 0) Ab)) (Aa (Ao Ab) Ab)))))))))))))),?_⟩
  have bg:=big;left;refine .inl ⟨ar,rfl,⟨_,SqL.of eb⟩,λD hD=>?_⟩;refine Lo (K:=K) (a:=ar) (xs:=bs) (Pv:=λi ys I H'=>eX3 λk0 k1 ks=>I=[k0,k1,some (.str so)]/\ys=List.map V.str ks/\ks.length<=i/\Same H H') ⟨none,none,[],rfl,rfl,Qk _,Same.upd hD⟩ (λi ys I H' _ ⟨_,_,_,_,_,_,s'⟩=>SqL.of (s' _ _ eb)) ?_ ?_
  ·rintro i y ys I H2 hy aa ⟨k0,k1,ks,rfl,rfl,lk,s2⟩;obtain⟨z,hz,a,rfl,qa⟩:=ag.get hy;refine Dz (s2.tup qa) rfl ?_;left;refine Be (λ_=>?_) (λ_=>?_)
   ·left;have af:(ks.map V.str).length<sizeLine:=by
     have:=(Pt.mp hy).1;rw[Pp];lia
    refine⟨_,aa,af,_,Ae,_,_,ks++[z.1],rfl,by rw[Qh];rfl,by rw[Pn,Py];lia,s2.over hD⟩
   ·exact⟨_,aa,_,_,ks,rfl,rfl,by lia,s2⟩
  ·rintro ys I H2 aa ⟨k0,k1,ks,rfl,rfl,lk,s2⟩;have Z:∀(wd:Str)(nv:V)(H1:Hp),Same H H1->C2 nv=true->C4 wd (.flat nv) 0->∀O,H1 O=none->∀a1,upd H1 O (.tup []) a1=none->Q (.ref a1) (upd (upd H1 O (.tup [])) a1 (.tup [.str wd,nv,.ref O])):=λwd nv H1 s1 hf hw O U a1 h1=>by
    have x0:=Same.upd (o:=.tup []) U;have x1:=Same.upd (o:=.tup [.str wd,nv,.ref O]) h1;exact q _ _ _ (s1.trans (x0.trans x1)) (Nh Ae (x1 _ _ Ae) hf) (Ni hw) (by simp[Tr.size,Bj])
   have ac:=s2 _ _ ae;have nm:∀i:Int,0<=i->i<5->∃x:Str,Cm (ts.map V.str) i=some (.str x):=λi U h1=>by
    obtain⟨v,hv,hm⟩:=G3 (xs:=ts.map V.str) U (by rw[Pp,ah];exact h1);obtain⟨x,_,rfl⟩:=Rf.mp hm;exact⟨x,hv⟩
   left;refine Be (λ_=>?_) (λ_=>?_)
   ·left;refine⟨Bm,λO U=>?_⟩;left;refine⟨Bg,λa1 h1=>?_⟩;exact Z "gap" .non H2 s2 rfl Zfl O U a1 h1
   ·refine s_next ?_;with_reducible refine s_seq ?_;refine Dd (t:=Cr _ _ _) (R:=λI H'=>I=[some (.int (c / 8)),some (.ref ar),some (.ref pn),some (.str so),some (.int (c % 8)),some (.ref D)]/\H2=H') ?_ ?_;rotate_left
    ·intro Y hY;have go:=hY _ _ ⟨rfl,rfl⟩;left;refine Be (λ_=>?_) (λ_=>?_)
     ·left;refine Cp (SqL.of aa) ?_;left;refine Be (λh=>?_) (λ_=>go);have h:(0:Int)<((ks.map V.str).length:Nat):=of_decide_eq_true h;left;refine Cp (SqL.of aa) ?_;refine s_rI h ?_;obtain⟨v,hv,hm⟩:=G3 (xs:=ks.map V.str) (i:=c / 8 % (((ks.map V.str).length:Nat):Int)) (Qi _ (by lia)) (Qx _ h);obtain⟨x,_,rfl⟩:=Rf.mp hm;refine Bd (SqL.of aa) hv ?_;left;refine⟨Bm,λO U=>?_⟩;left;refine⟨Bg,λa1 h1=>?_⟩;exact Z "name" (.str x) H2 s2 rfl Oa O U a1 h1
     ·exact go
    ·rintro _ _ ⟨rfl,rfl⟩;with_reducible refine s_seq ?_;refine Dd (t:=Cr _ _ _) (R:=λI H'=>I=[some (.int (c / 8)),some (.ref ar),some (.ref pn),some (.str so),some (.int (c % 8)),some (.ref D)]/\H2=H') ?_ ?_;rotate_left
     ·intro Y hY;have go:=hY _ _ ⟨rfl,rfl⟩;left;refine Be (λ_=>?_) (λ_=>?_)
      ·left;refine Be (λh=>?_) (λ_=>go);obtain⟨x,hx⟩:=nm 4 (by decide) (by decide);left;refine Bd (SqL.of ac) hx ?_;left;refine⟨Bm,λO U=>?_⟩;left;refine⟨Bg,λa1 h1=>?_⟩;exact Z "name" (.str x) H2 s2 rfl Oa O U a1 h1
      ·exact go
     ·rintro _ _ ⟨rfl,rfl⟩;with_reducible refine s_seq ?_;refine Dd (t:=Cr _ _ _) (R:=λI H'=>I=[some (.int (c / 8)),some (.ref ar),some (.ref pn),some (.str so),some (.int (c % 8)),some (.ref D)]/\H2=H') ?_ ?_;rotate_left
      ·intro Y hY;have go:=hY _ _ ⟨rfl,rfl⟩;left;refine Be (λ_=>?_) (λ_=>?_)
       ·left;refine Be (λh=>?_) (λ_=>go);left;have o0:0<=c / 8 / 3 % 1000:=Qi _ (by decide);have o1:c / 8 / 3 % 1000<10 ^ 18:=Int.lt_of_lt_of_le (Qx _ (by decide)) (by decide);refine Zfj (Zie o0 o1) ?_;have h3:(Qt "=").length=1:=by right
        refine Mx (by rw[h3];have:=Zdp o0 o1;lia) ?_;left;refine⟨Bm,λO U=>?_⟩;left;refine⟨Bg,λa1 h1=>?_⟩;exact Z "odd" _ H2 s2 rfl Zd8 O U a1 h1
       ·exact go
      ·rintro _ _ ⟨rfl,rfl⟩;left;refine Be (λ_=>?_) (λ_=>?_)
       ·left;refine⟨Bm,λO U=>?_⟩;left;refine⟨Bg,λa1 h1=>?_⟩;exact Z "truth" _ H2 s2 rfl Zf8 O U a1 h1
       ·left;refine Be (λ_=>?_) (λ_=>?_)
        ·obtain⟨x,hx⟩:=nm (c / 8 % 4) (Qi _ (by decide)) (by lia);obtain⟨y,hy⟩:=nm (c / 8 / 4 % 5) (Qi _ (by decide)) (by lia);left;refine Bd (SqL.of ac) hx ?_;left;refine Bd (SqL.of ac) hy ?_;left;refine⟨Bm,λO U=>?_⟩;have x0:=Same.upd (o:=.tup []) U;left;refine⟨Bg,λa1 h1=>?_⟩;have x1:=Same.upd (o:=.tup [.str "name",.str y,.ref O]) h1;left;refine⟨C9,λa2 h2=>?_⟩;have x2:=Same.upd (o:=.tup [.ref a1]) h2;left;refine⟨Bg,λa3 h3=>?_⟩;have x3:=Same.upd (o:=.tup [.str "fn",.str x,.ref a2]) h3;have ad:=x2.trans x3;refine q _ _ _ (s2.trans (x0.trans (x1.trans ad))) (.mk (SqT.of Ae) (.inl ⟨rfl,rfl⟩) (SqT.of (x3 _ _ Ae)) (ts:=[.mk "name" (.flat (.str y)) []]) rfl λj v t e1 e2=>?_) (.mk w_fn λt ht=>?_) (by simp[Tr.size,Bj])
         ·match j,e1,e2 with
          |0,e1,e2 =>
           cases e1;cases e2;exact Nh (ad _ _ Ae) ((x1.trans ad) _ _ Ae) rfl
         ·rw[Qw.mp ht];exact Ni Oa
        ·left;refine⟨_,rfl,λz=>?_⟩;left;refine⟨Bm,λO U=>?_⟩;left;refine⟨Bg,λa1 h1=>?_⟩;exact Z "num" _ H2 s2 rfl Zid O U a1 h1
theorem Za8 (c:Int):∃so:Str,Cm [V.str "num",.str "truth",.str "fun"] (c % 3)=some (.str so):=by
 rcases (show c % 3=0\/c % 3=1\/c % 3=2 by lia) with h|h|h <;> rw[h] <;> exact⟨_,rfl⟩
theorem Di:A9 ["_law_cells","_law_around","_law_names_here","_law_room","_law_sort","_law_cell_here","_law_pick","_law_one","_law_rest","_law_name","_law_kind","_law_first","_law_other","_law_more","_law_word"] ["_law_cells","_law_around","_law_names_here","_law_room","_law_sort"] (A5 Ja):=by walk_at "sc"
theorem Zrf (F:Fun K "_law_form" "_law_form" Ja f fd)(T:Txt K mg)(C__law_mixed:A8 P w K mg base 1 "_law_mixed" ["_law_cell_here","_law_k"] K6)(C__law_end:A8 P w K mg base 2 "_law_end" ["_law_cell_here","_law_around","_law_names_here","_law_sort"] (Nr K))(C__law_form:A8 P w K mg base (n+3) "_law_form" ["_law_cells","_law_around","_law_names_here","_law_room","_law_sort"] (Ih K n)):FnOk P w K mg base Aq (n+4) f fd ["_law_cells","_law_around","_law_names_here","_law_room","_law_sort"] (Ih K (n+1)):=by
 refine F.okq Di (λvs H Q E h=>?_) (λbo A outer s H vs Q E hr h=>?_)
 ·obtain⟨a,ar,pn,ts,m,j,so,rfl,_⟩:=h;rfl
 ·obtain⟨a,ar,pn,ts,m,j,so,rfl,S0,hm,h1,hn,q⟩:=h;refine⟨_,Ad (Av 5 Di Ac)
   (Ad (Ay (Az Ig (A6 (B7 K) (by rfl) T.len (by right) (Aa (qv 0) Ab)) Ac (Ax _)) (Af (Av 5 Di (Ls K P5 Tq Ts Kp (qv 0)))) A2)
   (Ad (Av 6 Di (Ai Bf (qv 5) Ac))
   (Ad (Av 5 Di (A3 C__law_mixed (hr.mono (by lia)) (Aa (qv 5) (Aa (A6 (B7 K) (by rfl) T.len (by right) (Aa (qv 0) Ab)) Ab))))
   (Ad (Ay (Az (Ba K hr.u200) (qv 6) Ac (Ax _)) (Af (Av 4 Di (Ah K (Bq (Aa Am (Aa Am (Aa Am Ab)))) (Ai Bf (qv 5) Ac)))) A2)
   (Ad (Ay (QW.qt (C8 (Az E6 (qv 3) Ac (Ax _)) (Dl (Az E6 (qv 6) Ac (Ax _))))) (Af (An (A3 C__law_end (hr.mono (by lia)) (Aa (qv 5) (Aa (qv 1) (Aa (qv 2) (Aa (qv 4) Ab))))))) A2)
   (Ad (Av 7 Di (Ai (B6 K) Ac (Ai Bf (qv 5) (Ai Eo (qv 3) Ac))))
   (Ad (Av 8 Di (Ai Eo (Ai Eo (qv 3) Ac) (qv 7)))
   (Ad (Av 9 Di (Ah K (qv 2) (Ai Bf (Ai Df (qv 5) Ac) Ac)))
   (Ad (Ay (Az E6 (qv 6) Ac (Ax _)) (Ad (Av 10 Di (Ah K (Bq (Aa Am (Aa Am (Aa Am Ab)))) (Ai Bf (Ai Df (qv 5) Ac) Ac)))
   (Ad (Av 11 Di (A3 C__law_form (hr.mono (by lia)) (Aa (qv 0) (Aa (qv 1) (Aa (qv 2) (Aa (qv 7) (Aa (qv 10) Ab)))))))
   (Af (An (Ao (Aa Am (Aa (qv 9) (Aa (Ao (Aa (qv 11) (Aa (A3 C__law_form (hr.mono (by lia)) (Aa (qv 0) (Aa (Ai (B6 K) (qv 1) (Bq (Aa (Ao (Aa (qv 9) (Aa (qv 10) Ab))) Ab))) (Aa (qv 2) (Aa (qv 8) (Aa (qv 4) Ab)))))) Ab))) Ab)))))))) A2)
   (Ad (Ay (Az E6 (qv 6) Ac (Ax _)) (Ad (Av 11 Di (A3 C__law_form (hr.mono (by lia)) (Aa (qv 0) (Aa (qv 1) (Aa (qv 2) (Aa (qv 7) (Aa Am Ab)))))))
   (Ad (Av 12 Di (A3 C__law_form (hr.mono (by lia)) (Aa (qv 0) (Aa (qv 1) (Aa (qv 2) (Aa (Ai Df (Ai (B6 K) (qv 8) Ac) Ac) (Aa (qv 4) Ab)))))))
   (Af (An (Ao (Aa Am (Aa Dp (Aa (Ao (Aa (qv 11) (Aa (qv 12) (Aa (A3 C__law_form (hr.mono (by lia)) (Aa (qv 0) (Aa (qv 1) (Aa (qv 2) (Aa (Ai Df (Ai (B6 K) (qv 8) Ac) Ac) (Aa (qv 4) Ab)))))) Ab)))) Ab)))))))) A2)
   (Ad (Ay (QW.qt (Ef (Az (Ba K hr.u200) (qv 4) Am (Ax _)) (D7 (Az E6 (qv 6) Ac (Ax _))))) (Af (An (Ao (Aa Am (Aa (qv 9) (Aa (Ao (Aa (A3 C__law_form (hr.mono (by lia)) (Aa (qv 0) (Aa (Ai (B6 K) (qv 1) (Bq (Aa (Ao (Aa (qv 9) (Aa Am Ab))) Ab))) (Aa (qv 2) (Aa (Ai Eo (qv 3) Ac) (Aa Am Ab)))))) Ab)) Ab)))))) A2)
   (Ad (Ay (Az (Ba K hr.u200) (qv 4) Am (Ax _)) (Ad (Av 13 Di (Ai (B6 K) (qv 1) (Bq (Aa (Ao (Aa (Ah K (qv 2) (Ai Bf (Ai Df (qv 5) Ac) Ac)) (Aa Am Ab))) (Aa (Ao (Aa (qv 9) (Aa Am Ab))) Ab)))))
   (Af (An (Ao (Aa Am (Aa (Ao (Aa (Ah K (qv 2) (Ai Bf (Ai Df (qv 5) Ac) Ac)) (Aa (qv 9) Ab))) (Aa (Ao (Aa (A3 C__law_form (hr.mono (by lia)) (Aa (qv 0) (Aa (qv 13) (Aa (qv 2) (Aa (Ai Eo (qv 3) Ac) (Aa Am Ab)))))) Ab)) Ab))))))) A2)
   (Ad (Ay (QW.qt (Ef (Az (Ba K hr.u200) (qv 4) Am (Ax _)) (D7 (Az Ig (qv 6) Ac (Ax _))))) (Ad (Av 11 Di (A3 C__law_form (hr.mono (by lia)) (Aa (qv 0) (Aa (qv 1) (Aa (qv 2) (Aa (qv 7) (Aa Am Ab)))))))
   (Af (An (Ao (Aa Am (Aa Dp (Aa (Ao (Aa (qv 11) (Aa (A3 C__law_form (hr.mono (by lia)) (Aa (qv 0) (Aa (qv 1) (Aa (qv 2) (Aa (qv 8) (Aa Am Ab)))))) Ab))) Ab))))))) A2)
   (Ad (Av 14 Di Am)
   (Ad (Ay (Az (Ba K hr.u200) (qv 4) Am (Ax _)) (Af (Av 14 Di (Ah K (Bq (Aa Am (Aa Am (Aa Am Ab)))) (Ai Eo (qv 6) Ac)))) A2)
   (Ad (Av 11 Di (A3 C__law_form (hr.mono (by lia)) (Aa (qv 0) (Aa (qv 1) (Aa (qv 2) (Aa (qv 7) (Aa Am Ab)))))))
   (Af (An (Ao (Aa (qv 14) (Aa Dp (Aa (Ao (Aa (qv 11) (Aa (A3 C__law_form (hr.mono (by lia)) (Aa (qv 0) (Aa (qv 1) (Aa (qv 2) (Aa (qv 8) (Aa Am Ab)))))) Ab))) Ab)))))))))))))))))))))),?_⟩
  have bg:=big;with_reducible refine s_seq ?_;with_reducible refine s_asg ?_;with_reducible refine s_c ?_;refine s_gname ?_;with_reducible refine s_seq ?_;refine Dd (t:=Cr _ _ _) (R:=λad H'=>∃z:Int,ad=[some (.ref a),some (.ref ar),some (.ref pn),some (.int (j:Nat)),some (.str so),some (.int z),none,none,none,none,none,none,none,none,none]/\FR a H H') ?_ ?_;rotate_left
  ·intro Y hY;obtain⟨cs,ea,lc⟩:=S0.e;left;refine Cp (SqL.of ea) ?_;left;refine Be (λh=>?_) (λ_=>?_)
   ·have h:(0:Int)<((cs.map V.int).length:Nat):=of_decide_eq_true h;rcases List.eq_nil_or_concat cs with e|⟨au,z,e⟩
    ·rw[e]at h;exact absurd h (by decide)
    ·rw[List.concat_eq_append]at e;subst e;rw[Qh]at ea;rw[Pn]at lc;left;refine Ce (SqL.of ea) ?_;refine Je ea ?_;exact hY _ _ ⟨z,rfl,λb o nb hb=>by rw[Ag nb];exact hb,au,Ae,by lia⟩
   ·exact hY _ _ ⟨0,rfl,FR.refl S0⟩
  ·rintro _ H1 ⟨z,rfl,r1⟩;have S1:=S0.step r1;obtain⟨bf,ax,bi⟩:=r1.e;left;refine Cp (SqL.of ax) ?_;left;refine⟨z,_,rfl,by lia,by rw[Pp];lia,λc _ _=>?_⟩;refine s_gname ?_;with_reducible refine s_seq ?_;refine Dd (t:=Cr _ _ _) (R:=λad H'=>∃U:Str,ad=[some (.ref a),some (.ref ar),some (.ref pn),some (.int (j:Nat)),some (.str U),some (.int c),some (.int (z % 13)),none,none,none,none,none,none,none,none]/\FR a H H') ?_ ?_;rotate_left
   ·intro Y hY;left;refine Be (λ_=>?_) (λ_=>?_)
    ·left;refine⟨Bg,λa2 h2=>?_⟩;obtain⟨U,ay⟩:=Za8 c;left;refine Bd (SqL.of Ae) ay ?_;exact hY _ _ ⟨U,rfl,r1.put (Same.upd h2)⟩
    ·exact hY _ _ ⟨so,rfl,r1⟩
   ·rintro _ H2 ⟨U,rfl,r2⟩;have S2:=S0.step r2;have ao:∀H3 v t,FR a H2 H3->TrAt K H3 v t->Tf t->t.size<=2->Q v H3:=λH3 v t r3 ht tf hz=>q v t H3 (r2.trans r3) ht tf (by lia);have ai:Nr K [.int c,.ref ar,.ref pn,.str U] H2 Q E0:=⟨c,ar,pn,U,ts,m,rfl,S2.bd,by lia,S2.hp,S2.lt,λv t H3 s3 ht tf hz=>ao H3 v t ((FR.refl S2).put s3) ht tf hz⟩;left;refine Be (λ_=>?_) (λh3=>?_)
    ·left;exact ai
    have h3:3<=j:=by
     by_cases y:(j:Int)<3
     ·exact absurd (decide_eq_true y) h3
     ·lia
    left;refine Be (λ_=>?_) (λ_=>?_)
    ·left;exact ai
    left;refine s_rI (by show(0:Int)<(j:Int)-2;lia) ?_;left;obtain⟨k1,aq,be,bb⟩:∃k:Nat,1+c % ((j:Int)-2)=(k:Int)/\1<=k/\k+2<=j:=by
     have y0:=Qi c (show(j:Int)-2≠0 by lia);have y1:=Qx c (show(0:Int)<(j:Int)-2 by lia);exact⟨(1+c % ((j:Int)-2)).toNat,by lia,by lia,by lia⟩
    rw[aq];obtain⟨k2,a4,bh⟩:∃k:Nat,(j:Int)-1-(k1:Int)=(k:Int)/\k1+k+1=j:=⟨j-1-k1,by lia,by lia⟩;rw[a4];obtain⟨x,hx⟩:=S2.nm (i:=c / 7 % 4) (Qi _ (by decide)) (by lia);refine Bd (SqL.of S2.hp) hx ?_;left;refine Be (λ_=>?_) (λ_=>?_)
    ·left;refine⟨Bg,λa3 h3=>?_⟩;obtain⟨ki,av⟩:=Za8 (c / 3);have r3:=(FR.refl S2).put (Same.upd (o:=.lst [.str "num",.str "truth",.str "fun"]) h3);left;refine Bd (SqL.of Ae) av ?_;revert r3;generalize upd H2 a3 (.lst [.str "num",.str "truth",.str "fun"])=H3;intro r3;left;refine⟨a,ar,pn,ts,m,k1,ki,rfl,S2.step r3,by lia,by lia,by lia,λv1 t1 H4 r4 ac Z z1=>?_⟩;have an:=r3.trans r4;have S4:=S2.step an;obtain⟨bs,zs,b1,b2,b3⟩:=S4.bd;left;refine⟨B1,λO h5=>?_⟩;left;refine⟨C9,λa6 h6=>?_⟩;have s5:=Same.upd (o:=.tup [.str x,.str ki]) h5;have s6:=Same.upd (o:=.lst [.ref O]) h6;have I:=s5.trans s6;have e5:=s6 _ _ (show upd H4 O (.tup [.str x,.str ki]) O=some (.tup [.str x,.str ki]) from Ae);have e6:upd (upd H4 O (.tup [.str x,.str ki])) a6 (.lst [.ref O]) a6=some (.lst [.ref O]):=Ae;revert I e5 e6;generalize upd (upd H4 O (.tup [.str x,.str ki])) a6 (.lst [.ref O])=H6;intro I e5 e6;refine Gv (I _ _ b1) e6 (by show bs.length+1<=sizeLine;lia) λa7 h7=>?_;have S7:=(S4.step ((FR.refl S4).put I)).more (I _ _ b1) (b2.mono (PrW.same I.t)) b3 (ms:=[.ref O]) (ws:=[(x,ki)]) (Al.nil.snoc ⟨O,rfl,SqT.of e5⟩) rfl h7;have aj:=((FR.refl S4).put I).put (Same.upd (o:=.lst (bs++[.ref O])) h7);revert S7 aj;generalize upd H6 a7 (.lst (bs++[.ref O]))=H7;intro S7 aj;left;refine⟨a,a7,pn,ts,m+1,k2,U,rfl,S7,by lia,by lia,by lia,λv2 t2 H8 r8 ag ae z2=>?_⟩;have al:=aj.trans r8;left;refine⟨B1,λp9 h9=>?_⟩;left;refine⟨Bg,λb9 aa=>?_⟩;obtain⟨R,TR⟩:=laid (us:=[v1,v2]) (ts:=[t1,t2]) (wd:="let") (nv:=.str x) (n:=.flat (.str x)) (r2.trans (an.trans al)) (.inl ⟨rfl,rfl⟩) ((Al.nil.snoc (ac.sameT (al.t S4.e))).snoc ag) h9 aa;exact q _ _ _ R TR (Ms Zsc Z ae) (by rw[Zck];lia)
    obtain⟨kr,am,ba⟩:∃k:Nat,(j:Int)-1=(k:Int)/\k+1=j:=⟨j-1,by lia,by lia⟩;left;refine Be (λ_=>?_) (λp7=>?_)
    ·left;refine⟨a,ar,pn,ts,m,k1,"truth",rfl,S2,by lia,by lia,by lia,λv1 t1 H4 r4 ac Z z1=>?_⟩;have S4:=S2.step r4;obtain⟨kh,ak,bj,bn⟩:∃k:Nat,((k2:Int)+1) / 2=(k:Int)/\1<=k/\2*k<=k2+1:=⟨(k2+1) / 2,by lia,by lia,by lia⟩;left;rw[ak];refine⟨a,ar,pn,ts,m,kh,U,rfl,S4,by lia,by lia,by lia,λv2 t2 H5 r5 ag ae z2=>?_⟩;have S5:=S4.step r5;left;rw[ak];refine⟨a,ar,pn,ts,m,kh,U,rfl,S5,by lia,by lia,by lia,λv3 t3 H6 r6 aw ap z3=>?_⟩;left;refine⟨Bg,λp9 h9=>?_⟩;left;refine⟨Bg,λb9 aa=>?_⟩;obtain⟨R,TR⟩:=laid (us:=[v1,v2,v3]) (ts:=[t1,t2,t3]) (wd:="if") (nv:=.non) (n:=.flat .non) (r2.trans (r4.trans (r5.trans r6))) (.inl ⟨rfl,rfl⟩) (((Al.nil.snoc (ac.sameT ((r5.trans r6).t S4.e))).snoc (ag.sameT (r6.t S5.e))).snoc aw) h9 aa;exact q _ _ _ R TR (tf_3 w_if Z ae ap) (by rw[sz_3];lia)
    have p7:7<=z % 13:=by
     by_cases y:z % 13<7
     ·exact absurd (decide_eq_true y) p7
     ·lia
    refine s_next ?_;with_reducible refine s_seq ?_;refine Dd (t:=Cr _ _ _) (R:=λad H'=>ad=[some (.ref a),some (.ref ar),some (.ref pn),some (.int (j:Nat)),some (.str U),some (.int c),some (.int (z % 13)),some (.int (k1:Nat)),some (.int (k2:Nat)),some (.str x),none,none,none,none,none]/\H2=H') ?_ ?_;rotate_left
    ·intro Y hY;have go:=hY _ _ ⟨rfl,rfl⟩;left;refine Be (λ_=>?_) (λ_=>?_)
     ·left;refine Be (λ_=>?_) (λ_=>go);left;obtain⟨bs,zs,b1,b2,b3⟩:=S2.bd;refine⟨B1,λO h5=>?_⟩;left;refine⟨C9,λa6 h6=>?_⟩;have s5:=Same.upd (o:=.tup [.str x,.str "num"]) h5;have s6:=Same.upd (o:=.lst [.ref O]) h6;have I:=s5.trans s6;have e5:=s6 _ _ (show upd H2 O (.tup [.str x,.str "num"]) O=some (.tup [.str x,.str "num"]) from Ae);have e6:upd (upd H2 O (.tup [.str x,.str "num"])) a6 (.lst [.ref O]) a6=some (.lst [.ref O]):=Ae;revert I e5 e6;generalize upd (upd H2 O (.tup [.str x,.str "num"])) a6 (.lst [.ref O])=H6;intro I e5 e6;refine Gv (I _ _ b1) e6 (by show bs.length+1<=sizeLine;lia) λa7 h7=>?_;have S7:=(S2.step ((FR.refl S2).put I)).more (I _ _ b1) (b2.mono (PrW.same I.t)) b3 (ms:=[.ref O]) (ws:=[(x,"num")]) (Al.nil.snoc ⟨O,rfl,SqT.of e5⟩) rfl h7;have af:=((FR.refl S2).put I).put (Same.upd (o:=.lst (bs++[.ref O])) h7);revert S7 af;generalize upd H6 a7 (.lst (bs++[.ref O]))=H7;intro S7 af;left;rw[am];refine⟨a,a7,pn,ts,m+1,kr,"num",rfl,S7,by lia,by lia,by lia,λv1 t1 H8 r8 ac Z z1=>?_⟩;left;refine⟨C9,λp9 h9=>?_⟩;left;refine⟨Bg,λb9 aa=>?_⟩;obtain⟨R,TR⟩:=laid (us:=[v1]) (ts:=[t1]) (wd:="fn") (nv:=.str x) (n:=.flat (.str x)) (r2.trans (af.trans r8)) (.inl ⟨rfl,rfl⟩) (Al.nil.snoc ac) h9 aa;exact q _ _ _ R TR (tf_1 w_fn Z) (by rw[sz_1];lia)
     ·exact go
    rintro _ _ ⟨rfl,rfl⟩;left;refine Be (λ_=>?_) (λ_=>?_)
    ·obtain⟨bs,zs,b1,b2,b3⟩:=S2.bd;obtain⟨y,hy⟩:=S2.nm (i:=c / 28 % 4) (Qi _ (by decide)) (by lia);left;refine Bd (SqL.of S2.hp) hy ?_;left;refine⟨B1,λO h5=>?_⟩;left;refine⟨B1,λa6 h6=>?_⟩;left;refine⟨B1,λa7 h7=>?_⟩;have s5:=Same.upd (o:=.tup [.str y,.str "fun"]) h5;have s6:=Same.upd (o:=.tup [.str x,.str "num"]) h6;have s7:=Same.upd (o:=.lst [.ref O,.ref a6]) h7;have a0:=s5.trans (s6.trans s7);have e5:=(s6.trans s7) _ _ (show upd H2 O (.tup [.str y,.str "fun"]) O=some (.tup [.str y,.str "fun"]) from Ae);have e6:=s7 _ _ (show upd (upd H2 O (.tup [.str y,.str "fun"])) a6 (.tup [.str x,.str "num"]) a6=some (.tup [.str x,.str "num"]) from Ae);have e7:upd (upd (upd H2 O (.tup [.str y,.str "fun"])) a6 (.tup [.str x,.str "num"])) a7 (.lst [.ref O,.ref a6]) a7=some (.lst [.ref O,.ref a6]):=Ae;revert a0 e5 e6 e7;generalize upd (upd (upd H2 O (.tup [.str y,.str "fun"])) a6 (.tup [.str x,.str "num"])) a7 (.lst [.ref O,.ref a6])=H6;intro I e5 e6 e7;refine Gv (I _ _ b1) e7 (by show bs.length+2<=sizeLine;lia) λa8 h8=>?_;have S7:=(S2.step ((FR.refl S2).put I)).more (I _ _ b1) (b2.mono (PrW.same I.t)) b3 (ms:=[.ref O,.ref a6]) (ws:=[(y,"fun"),(x,"num")]) ((Al.nil.snoc ⟨O,rfl,SqT.of e5⟩).snoc ⟨a6,rfl,SqT.of e6⟩) rfl h8;have af:=((FR.refl S2).put I).put (Same.upd (o:=.lst (bs++[.ref O,.ref a6])) h8);revert S7 af;generalize upd H6 a8 (.lst (bs++[.ref O,.ref a6]))=H7;intro S7 af;left;refine Bd (SqL.of S7.hp) hy ?_;left;refine⟨B1,λa9 h9=>?_⟩;have s9:=Same.upd (o:=.tup [.str y,.str x]) h9;have e9:upd H7 a9 (.tup [.str y,.str x]) a9=some (.tup [.str y,.str x]):=Ae;have ah:=(FR.refl S7).put s9;revert ah e9;generalize upd H7 a9 (.tup [.str y,.str x])=H9;intro e9 ah;have S9:=S7.step ah;left;rw[am];refine⟨a,a8,pn,ts,m+2,kr,"num",rfl,S9,by lia,by lia,by lia,λv1 t1 H8 r8 ac Z z1=>?_⟩;left;refine⟨C9,λp9 h9=>?_⟩;left;refine⟨Bg,λb9 aa=>?_⟩;obtain⟨R,TR⟩:=laid (us:=[v1]) (ts:=[t1]) (wd:="rec") (nv:=.ref a9) (n:=.tup [.flat (.str y),.flat (.str x)]) (r2.trans (af.trans (ah.trans r8))) (.inr ⟨a9,[.str y,.str x],rfl,SqT.of (((r8.t S9.e) a9).1 _ e9),rfl,rfl⟩) (Al.nil.snoc ac) h9 aa;exact q _ _ _ R TR (tf_1 Zd6 Z) (by rw[sz_1];lia)
    refine s_next ?_;with_reducible refine s_seq ?_;refine Dd (t:=Cr _ _ _) (R:=λad H'=>ad=[some (.ref a),some (.ref ar),some (.ref pn),some (.int (j:Nat)),some (.str U),some (.int c),some (.int (z % 13)),some (.int (k1:Nat)),some (.int (k2:Nat)),some (.str x),none,none,none,none,none]/\H2=H'/\(U="num" -> z % 13<=9)) ?_ ?_;rotate_left
    ·intro Y hY;left;rw[Bl];by_cases hs:U="num"
     ·rw[decide_eq_true hs];left;refine Be (λ_=>?_) (λy=>?_)
      ·left;refine⟨a,ar,pn,ts,m,k1,"fun",rfl,S2,by lia,by lia,by lia,λv1 t1 H4 r4 ac Z z1=>?_⟩;have S4:=S2.step r4;left;refine⟨a,ar,pn,ts,m,k2,"num",rfl,S4,by lia,by lia,by lia,λv2 t2 H5 r5 ag ae z2=>?_⟩;left;refine⟨B1,λp9 h9=>?_⟩;left;refine⟨Bg,λb9 aa=>?_⟩;obtain⟨R,TR⟩:=laid (us:=[v1,v2]) (ts:=[t1,t2]) (wd:="call") (nv:=.non) (n:=.flat .non) (r2.trans (r4.trans r5)) (.inl ⟨rfl,rfl⟩) ((Al.nil.snoc (ac.sameT (r5.t S4.e))).snoc ag) h9 aa;exact q _ _ _ R TR (Ms (Zb9 (by right)) Z ae) (by rw[Zck];lia)
      ·refine hY _ _ ⟨rfl,rfl,λ_=>?_⟩;by_cases y':9<z % 13
       ·exact absurd (decide_eq_true y') y
       ·lia
     ·rw[decide_eq_false hs];left;exact hY _ _ ⟨rfl,rfl,λh=>absurd h hs⟩
    rintro _ _ ⟨rfl,rfl,p9⟩;with_reducible refine s_seq ?_;with_reducible refine s_asg ?_;with_reducible refine s_c ?_;refine s_gname ?_;with_reducible refine s_seq ?_;refine Dd (t:=Cr _ _ _) (R:=λad H'=>∃wd:Str,ad=[some (.ref a),some (.ref ar),some (.ref pn),some (.int (j:Nat)),some (.str U),some (.int c),some (.int (z % 13)),some (.int (k1:Nat)),some (.int (k2:Nat)),some (.str x),none,none,none,none,some (.str wd)]/\wd∈Br/\FR a H2 H') ?_ ?_;rotate_left
    ·intro Y hY;left;rw[Bl];by_cases hs:U="num"
     ·have p9:=p9 hs;rw[decide_eq_true hs];left;refine⟨Bg,λO h5=>?_⟩;obtain⟨wd,as,hb⟩:∃wd:Str,Cm [V.str "plus",.str "plus",.str "minus"] (z % 13-7)=some (.str wd)/\wd∈Br:=by
       rcases (show z % 13-7=0\/z % 13-7=1\/z % 13-7=2 by lia) with h|h|h <;> rw[h] <;> exact⟨_,rfl,by right⟩
      left;refine Bd (SqL.of Ae) as ?_;exact hY _ _ ⟨wd,rfl,hb,(FR.refl S2).put (Same.upd h5)⟩
     ·rw[decide_eq_false hs];left;exact hY _ _ ⟨"less",rfl,by right,FR.refl S2⟩
    rintro _ H3 ⟨wd,rfl,hb,r3⟩;have r2:=r2.trans r3;have S2:=S2.step r3;left;refine⟨a,ar,pn,ts,m,k1,"num",rfl,S2,by lia,by lia,by lia,λv1 t1 H4 r4 ac Z z1=>?_⟩;have S4:=S2.step r4;left;refine⟨a,ar,pn,ts,m,k2,"num",rfl,S4,by lia,by lia,by lia,λv2 t2 H5 r5 ag ae z2=>?_⟩;left;refine⟨B1,λp9 h9=>?_⟩;left;refine⟨Bg,λb9 aa=>?_⟩;obtain⟨R,TR⟩:=laid (us:=[v1,v2]) (ts:=[t1,t2]) (wd:=wd) (nv:=.non) (n:=.flat .non) (r2.trans (r4.trans r5)) (.inl ⟨rfl,rfl⟩) ((Al.nil.snoc (ac.sameT (r5.t S4.e))).snoc ag) h9 aa;exact q _ _ _ R TR (Ms (Zb9 hb) Z ae) (by rw[Zck];lia)
def Zdi (K:Pg):Sp:=λvs H Q _=>∃(a:Addr),vs=[.ref a]/\Script K H a/\∀b,Q (.bl b) H
theorem Zks:A9 ["_law_script"] ["_law_script"] (A5 L9):=by walk_at "sc"
theorem Zs3 (F:Fun K "_law_is_free" "_law_is_free" L9 f fd)(T:Txt K mg)(C__law_cell:A8 P w K mg base 1 "_law_cell" ["_law_script","_law_k"] (Zaf K)):FnOk P w K mg base Aq 2 f fd ["_law_script"] (Zdi K):=by
 refine F.okq Zks (λvs H Q E h=>?_) (λI A outer s H vs Q E j h=>?_)
 ·obtain⟨a,rfl,_⟩:=h;rfl
 ·obtain⟨a,rfl,S,q⟩:=h;refine⟨_,Af (An (D5 (Ba K j.u200) (Ai Bf (A3 C__law_cell j.m (Aa (qv 0) (Aa Ac Ab))) Ac) Ac (Ax _))),?_⟩;left;refine⟨a,0,rfl,S,by decide,by decide,λz=>?_⟩;left;exact q _
noncomputable def W13:List Str:=["gap","num","name","truth","odd","plus","minus","less","call","if","fn","rec","let"]
noncomputable def WV:List V:=[.str "gap",.str "num",.str "name",.str "truth",.str "odd",.str "plus",.str "minus",.str "less",.str "call",.str "if",.str "fn",.str "rec",.str "let"]
noncomputable def N9:List V:=[.int 0,.int 2,.int 2,.int 2,.int 2,.int 3,.int 1,.int 1,.int 2]
theorem Zn2:∃(j:Nat)(wd:Str),j<13/\W13[j]?=some wd/\Cm (W13.map V.str) (z % 13)=some (.str wd)/\(z=0->j=0):=by
 have O:=Qi z (show(13:Int)≠0 by decide);have h1:=Qx z (show(0:Int)<13 by decide);obtain⟨j,I⟩:∃j:Nat,z % 13=(j:Nat):=⟨(z % 13).toNat,by lia⟩;have F:j<W13.length:=by show j<13;lia
 refine⟨j,W13[j],by lia,Pk F,?_,λe=>by rw[e]at I;lia⟩;rw[I];exact Ck (by rw[Qy,Pk F];rfl)
theorem Zqw:∃(j:Nat)(wd:Str),j<5/\W13[j]?=some wd/\Cm (W13.map V.str) (z % 5)=some (.str wd)/\(z=0->j=0):=by
 have O:=Qi z (show(5:Int)≠0 by decide);have h1:=Qx z (show(0:Int)<5 by decide);obtain⟨j,I⟩:∃j:Nat,z % 5=(j:Nat):=⟨(z % 5).toNat,by lia⟩;have F:j<W13.length:=by show j<13;lia
 refine⟨j,W13[j],by lia,Pk F,?_,λe=>by rw[e]at I;lia⟩;rw[I];exact Ck (by rw[Qy,Pk F];rfl)
theorem Zoz:∀(j:Nat)(wd:Str),j<13->W13[j]?=some wd->∀m<j,W13[m]?≠some wd:=by
 intro j wd F h m I;have all:(P7 13).all (λj=>(P7 j).all λm=>decide (W13[m]?≠W13[j]?))=true:=by right
 have h1:=R8.mp all j (Vk.mpr F);have h2:=of_decide_eq_true (R8.mp h1 m (Vk.mpr I));rw[<- h];exact h2
theorem Zt4 {j:Nat}{wd:Str}(hj:j<13)(h:W13[j]?=some wd)(h4:wd≠"num"/\wd≠"truth"/\wd≠"name"/\wd≠"odd"):∃k:Nat,Cm N9 (if (0:Int)<((j:Nat):Int)-4 then ((j:Nat):Int)-4 else 0)=some (.int (k:Nat))/\Gs wd=some k/\k<=3/\(j<5->k=0):=by
 have:j=0\/j=1\/j=2\/j=3\/j=4\/j=5\/j=6\/j=7\/j=8\/j=9\/j=10\/j=11\/j=12:=by lia
 have no:∀w:Str,W13[j]?=some w->(w="num"\/w="truth"\/w="name"\/w="odd")->False:=λw e F=>by
  rw[h]at e;injection e with e;subst e;rcases F with e|e|e|e
  ·exact h4.1 e
  ·exact h4.2.1 e
  ·exact h4.2.2.1 e
  ·exact h4.2.2.2 e
 rcases this with rfl|rfl|rfl|rfl|rfl|rfl|rfl|rfl|rfl|rfl|rfl|rfl|rfl
 ·cases h;exact⟨0,rfl,by right,by decide,λ_=>rfl⟩
 ·exact(no _ rfl (.inl rfl)).elim
 ·exact(no _ rfl (.inr (.inr (.inl rfl)))).elim
 ·exact(no _ rfl (.inr (.inl rfl))).elim
 ·exact(no _ rfl (.inr (.inr (.inr rfl)))).elim
 ·cases h;exact⟨2,rfl,by right,by decide,λh=>absurd h (by decide)⟩
 ·cases h;exact⟨2,rfl,by right,by decide,λh=>absurd h (by decide)⟩
 ·cases h;exact⟨2,rfl,by right,by decide,λh=>absurd h (by decide)⟩
 ·cases h;exact⟨2,rfl,by right,by decide,λh=>absurd h (by decide)⟩
 ·cases h;exact⟨3,rfl,by right,by decide,λh=>absurd h (by decide)⟩
 ·cases h;exact⟨1,rfl,by right,by decide,λh=>absurd h (by decide)⟩
 ·cases h;exact⟨1,rfl,by right,by decide,λh=>absurd h (by decide)⟩
 ·cases h;exact⟨2,rfl,by right,by decide,λh=>absurd h (by decide)⟩
theorem _root_.L2.Same.r (e:Same H H')(a:Addr):SameR a H H':=λb o _ h=>e b o h
theorem SameR.trans (x:SameR a H H1)(y:SameR a H1 H2):SameR a H H2:=λb o n h=>y b o n (x b o n h)
theorem SameR.over (x:SameR a H H1)(h:H p=none):SameR a H (upd H1 p o):=λb o' n j=>by
 have:b≠p:=λz=>by rw[z,h]at j;cases j
 rw[Ag this];exact x b o' n j
theorem SameR.t (x:SameR a H H')(h:H a=some (.lst xs)):SameT H H':=λb=>by
 exact⟨λxs j=>x b _ (λz=>by rw[z,h]at j;cases j) j,λo u j=>x b _ (λz=>by rw[z,h]at j;cases j) j⟩
theorem SameR.free (e:SameR a H H')(n:x≠a)(h:H' x=none):H x=none:=by
 cases q:H x with
 |none=>rfl
 |some o=>rw[e x o n q]at h;cases h
inductive Jany (K:Pg)(n:Nat)(vs:List V)(H:Hp)(Q:VK)(e9:XK):Prop
 |mk (a pn:Addr) (ts:List Str) (cs:List Int) (dp:Nat) (_:vs=[.ref a,.ref pn,.int (dp:Nat)]) (_:dp<n) (_:H a=some (.lst (cs.map V.int))) (_:cs.length<=63) (_:H pn=some (.lst (ts.map V.str))) (_:pn≠a) (_:ts.length=5) (_:∀(v:V)(t:Tr)(H':Hp)(cs':List Int),SameR a H H'->H' a=some (.lst (cs'.map V.int))->cs'.length<=cs.length->TrAt K H' v t->Tf t->t.size+3*cs'.length<=1+3*cs.length->Q v H')
def Hq (K:Pg)(n:Nat):Sp:=Jany K n
theorem sc_law_any:A9 ["_law_cells","_law_names_here","_law_deep","_law_cell_here","_law_rest","_law_some","_law_word","_law_note","_law_many","_law_parts","_law_k"] ["_law_cells","_law_names_here","_law_deep"] (A5 Iw):=by walk_at "sc"
theorem Zot (F:Fun K "_law_any" "_law_any" Iw f fd)(T:Txt K mg)(C__law_any:A8 P w K mg base (n+1) "_law_any" ["_law_cells","_law_names_here","_law_deep"] (Hq K n)):FnOk P w K mg base Aq (n+2) f fd ["_law_cells","_law_names_here","_law_deep"] (Hq K (n+1)):=by
 refine F.okq sc_law_any (λvs H Q E h=>?_) (λch A outer s H vs Q E hr h=>?_)
 ·obtain⟨a,pn,ts,cs,dp,rfl,_⟩:=h;rfl
 ·obtain⟨a,pn,ts,cs,dp,rfl,cf,ea,lc,b3,au,lt,q⟩:=h;refine⟨_,Ad (Av 3 sc_law_any Ac)
   (Ad (Ay (Az Ig (A6 (B7 K) (by rfl) T.len (by right) (Aa (qv 0) Ab)) Ac (Ax _)) (Af (Av 3 sc_law_any (Ls K P5 Tq Ts Kp (qv 0)))) A2)
   (Ad (Av 4 sc_law_any (Ai Df (qv 3) Ac))
   (Ad (Av 5 sc_law_any (Bq (N7 (xs:=[.str "gap",.str "num",.str "name",.str "truth",.str "odd",.str "plus",.str "minus",.str "less",.str "call",.str "if",.str "fn",.str "rec",.str "let"]) rfl)))
   (Ad (Av 6 sc_law_any (Ah K (qv 5) (Ai Bf (qv 3) Ac)))
   (Ad (Ay (Az (Ba K hr.u200) (qv 2) Ac (Ax _)) (Af (Av 6 sc_law_any (Ah K (qv 5) (Ai Bf (qv 3) Ac)))) A2)
   (Ad (Ay (Az (Ba K hr.u200) (qv 6) Am (Ax _)) (Af (An (Ao (Aa (qv 6) (Aa (Ai Bf (qv 4) (Ai Oj Ac Ac)) (Aa (Ao Ab) Ab)))))) A2)
   (Ad (Ay (Az (Ba K hr.u200) (qv 6) Am (Ax _)) (Af (An (Ao (Aa (qv 6) (Aa (D5 (Ba K hr.u200) (Ai Bf (qv 4) Ac) Ac (Ax _)) (Aa (Ao Ab) Ab)))))) A2)
   (Ad (Ay (Az (Ba K hr.u200) (qv 6) Am (Ax _)) (Af (An (Ao (Aa (qv 6) (Aa (Ah K (qv 1) (Ai Bf (qv 4) (A6 (B7 K) (by rfl) T.len (by right) (Aa (qv 1) Ab)))) (Aa (Ao Ab) Ab)))))) A2)
   (Ad (Ay (Az (Ba K hr.u200) (qv 6) Am (Ax _)) (Af (An (Ao (Aa (qv 6) (Aa (Ai (B6 K) Am (D4 Zh1 (by rfl) T.str (by right) (Aa (Ai Bf (qv 4) (Ai Oj Ac Ac)) Ab))) (Aa (Ao Ab) Ab)))))) A2)
   (Ad (Av 7 sc_law_any Dp)
   (Ad (Ay (QW.qt (C8 (Az (Ba K hr.u200) (qv 6) Am (Ax _)) (Dl (Az (Ba K hr.u200) (qv 6) Am (Ax _))))) (Af (Av 7 sc_law_any (Ah K (qv 1) (Ai Bf (qv 4) (A6 (B7 K) (by rfl) T.len (by right) (Aa (qv 1) Ab)))))) A2)
   (Ad (Ay (Az (Ba K hr.u200) (qv 6) Am (Ax _)) (Af (Av 7 sc_law_any (Ao (Aa (Ah K (qv 1) (Ai Bf (qv 4) (A6 (B7 K) (by rfl) T.len (by right) (Aa (qv 1) Ab)))) (Aa (Ah K (qv 1) (Ai Bf (Ai Df (qv 4) (A6 (B7 K) (by rfl) T.len (by right) (Aa (qv 1) Ab))) (A6 (B7 K) (by rfl) T.len (by right) (Aa (qv 1) Ab)))) Ab))))) A2)
   (Ad (Av 8 sc_law_any (Ah K (Bq (N7 (xs:=[.int 0,.int 2,.int 2,.int 2,.int 2,.int 3,.int 1,.int 1,.int 2]) rfl)) (A6 (Zq4 rfl) (by rfl) T.max (by right) (Aa Ac (Aa (Ai Eo (Cv K P5 PySem.F.slot_list_index PySem.F.type_list_index (Zo3 K) (qv 5) (Aa (qv 6) Ab)) Ac) Ab)))))
   (Ad (Av 9 sc_law_any (Bq Ab))
   (Ad (Dq Qp rfl (Ey rfl T.range (Aa (qv 8) Ab)) (Bc (i:=10) sc_law_any.nd rfl (Or.inl rfl)) (Af (B2 (Cv K P5 Qe Qf C7 (qv 9) (Aa (A3 C__law_any (hr.mono (by lia)) (Aa (qv 0) (Aa (qv 1) (Aa (Ai Eo (qv 2) Ac) Ab)))) Ab)))))
   (Af (An (Ao (Aa (qv 6) (Aa (qv 7) (Aa (D4 (Zew K) (by rfl) T.tuple (by right) (Aa (qv 9) Ab)) Ab))))))))))))))))))))),?_⟩
  have bg:=big;have nm:∀i:Int,0<=i->i<5->∃x:Str,Cm (ts.map V.str) i=some (.str x):=λi h0 h1=>by
   obtain⟨v,hv,hm⟩:=G3 (xs:=ts.map V.str) h0 (by rw[Pp,lt];exact h1);obtain⟨x,_,rfl⟩:=Rf.mp hm;exact⟨x,hv⟩
  have ae:((ts.map V.str).length:Int)=5:=by rw[Pp,lt];rfl
  walk_at "r1";walk_at "r1";walk_at "r1";refine s_gname ?_;with_reducible refine s_seq ?_;refine Dd (t:=Cr _ _ _) (R:=λO H'=>∃(z:Int)(Z:List Int),O=[some (.ref a),some (.ref pn),some (.int (dp:Nat)),some (.int z),none,none,none,none,none,none,none]/\SameR a H H'/\H' a=some (.lst (Z.map V.int))/\((Z.length+1=cs.length)\/(Z.length=cs.length/\z=0))) ?_ ?_;rotate_left
  ·intro Y hY;left;refine Cp (SqL.of ea) ?_;left;refine Be (λh=>?_) (λ_=>?_)
   ·have h:(0:Int)<((cs.map V.int).length:Nat):=of_decide_eq_true h;rcases List.eq_nil_or_concat cs with e|⟨b4,z,e⟩
    ·rw[e]at h;exact absurd h (by decide)
    ·rw[List.concat_eq_append]at e;subst e;rw[Qh]at ea;left;refine Ce (SqL.of ea) ?_;refine Je ea ?_;exact hY _ _ ⟨z,b4,rfl,λb o nb hb=>by rw[Ag nb];exact hb,Ae,.inl (by simp)⟩
   ·exact hY _ _ ⟨0,cs,rfl,λb o _ hb=>hb,ea,.inr ⟨rfl,rfl⟩⟩
  rintro _ H1 ⟨z,Z,rfl,r1,e1,bv⟩;have bj:=r1 _ _ au b3;left;refine⟨sz13,λps ao=>?_⟩;have s2:=Same.upd (o:=.lst WV) ao;have e2:upd H1 ps (.lst WV) ps=some (.lst WV):=Ae;have a8:ps≠a:=λx=>by rw[x,e1]at ao;cases ao
  have cc:H ps=none:=r1.free a8 ao;have r2:=r1.trans (s2.r a);have ap:=s2 _ _ e1;have I:=s2 _ _ bj;revert s2 e2 r2 ap I;unfold WV;generalize upd H1 ps _=H2;intro s2 e2 r2 ap I;have e2:H2 ps=some (.lst (W13.map V.str)):=e2;obtain⟨j0,bq,a7,ba,be,bh⟩:=Zn2 (z:=z);left;refine Bd (SqL.of e2) be ?_;refine s_gname ?_;with_reducible refine s_seq ?_;refine Dd (t:=Cr _ _ _) (R:=λO H'=>∃(j:Nat)(wd:Str),O=[some (.ref a),some (.ref pn),some (.int (dp:Nat)),some (.int z),some (.int (z / 13)),some (.ref ps),some (.str wd),none,none,none,none]/\H2=H'/\j<13/\W13[j]?=some wd/\(z=0->j=0)/\(dp=0->j<5)) ?_ ?_;rotate_left
  ·intro Y hY;left;refine Be (λh=>?_) (λh=>?_)
   ·obtain⟨j,wd,h1,h2,h3,h4⟩:=Zqw (z:=z);left;refine Bd (SqL.of e2) h3 ?_;exact hY _ _ ⟨j,wd,rfl,rfl,by lia,h2,h4,λ_=>h1⟩
   ·exact hY _ _ ⟨j0,bq,rfl,rfl,a7,ba,bh,λe=>absurd (decide_eq_true (show V.int ((dp:Nat):Int)=.int 0 by rw[e];rfl)) h⟩
  rintro _ _ ⟨j,wd,rfl,rfl,hj,hw,br,bu⟩;clear ba be bh a7;have leaf:∀(U:V)(H3:Hp),Same H2 H3->C2 U=true->C4 wd (.flat U) 0->∀a0,H3 a0=none->∀a1,upd H3 a0 (.tup []) a1=none->Q (.ref a1) (upd (upd H3 a0 (.tup [])) a1 (.tup [.str wd,U,.ref a0])):=λU H3 s3 hf av a0 h0 a1 h1=>by
   have x0:=Same.upd (o:=.tup []) h0;have x1:=Same.upd (o:=.tup [.str wd,U,.ref a0]) h1;have x:=s3.trans (x0.trans x1);exact q _ _ _ Z (r2.trans (x.r a)) (x _ _ ap) (by lia) (Nh Ae (x1 _ _ Ae) hf) (Ni av) (by rw[show(Tr.mk wd (.flat U) []).size=1 by simp[Tr.size,Bj]];lia)
  have bn:(10:Int) ^ Int.toNat 18=1000000000000000000:=by decide
  left;rw[Bl];refine Be (λh=>?_) (λad=>?_)
  ·have h:=of_decide_eq_true h;left;rw[bn];generalize z / 13 % 1000000000000000000=i;refine⟨Bm,λa0 h0=>?_⟩;left;refine⟨Bg,λa1 h1=>?_⟩;exact leaf (.int i) H2 (Same.refl _) rfl (by rw[h];exact Zid) a0 h0 a1 h1
  left;rw[Bl];refine Be (λh=>?_) (λag=>?_)
  ·have h:=of_decide_eq_true h;left;refine⟨Bm,λa0 h0=>?_⟩;left;refine⟨Bg,λa1 h1=>?_⟩;exact leaf (.bl _) H2 (Same.refl _) rfl (by rw[h];exact Zf8) a0 h0 a1 h1
  left;rw[Bl];refine Be (λh=>?_) (λa6=>?_)
  ·have h:=of_decide_eq_true h;left;refine Cp (SqL.of I) ?_;rw[ae];refine s_rI (by decide) ?_;obtain⟨x,hx⟩:=nm (z / 13 % 5) (Qi _ (by decide)) (Qx _ (by decide));refine Bd (SqL.of I) hx ?_;left;refine⟨Bm,λa0 h0=>?_⟩;left;refine⟨Bg,λa1 h1=>?_⟩;exact leaf (.str x) H2 (Same.refl _) rfl (by rw[h];exact Oa) a0 h0 a1 h1
  left;rw[Bl];refine Be (λh=>?_) (λa5=>?_)
  ·have h:=of_decide_eq_true h;left;rw[bn];have o0:0<=z / 13 % 1000000000000000000:=Qi _ (by decide);have o1:z / 13 % 1000000000000000000<10 ^ 18:=Int.lt_of_lt_of_le (Qx _ (by decide)) (by decide);revert o0 o1;generalize z / 13 % 1000000000000000000=i;intro o0 o1;refine Zfj (Zie o0 o1) ?_;have h3:(Qt "=").length=1:=by right
   refine Mx (by rw[h3];have:=Zdp o0 o1;lia) ?_;left;refine⟨Bm,λa0 h0=>?_⟩;left;refine⟨Bg,λa1 h1=>?_⟩;exact leaf (.str _) H2 (Same.refl _) rfl (by rw[h];exact Zd8) a0 h0 a1 h1
  have h4:wd≠"num"/\wd≠"truth"/\wd≠"name"/\wd≠"odd":=⟨λx=>ad (decide_eq_true x),λx=>ag (decide_eq_true x),λx=>a6 (decide_eq_true x),λx=>a5 (decide_eq_true x)⟩;clear ad ag a6 a5 leaf;obtain⟨k,hk,as,k3,bb⟩:=Zt4 hj hw h4;walk_at "r1";walk_at "r1";walk_at "r1";walk_at "r1";refine s_gname ?_;obtain⟨x0,aw⟩:=nm (z / 13 % 5) (Qi _ (by decide)) (Qx _ (by decide));obtain⟨x1,b8⟩:=nm (z / 13 / 5 % 5) (Qi _ (by decide)) (Qx _ (by decide));with_reducible refine s_seq ?_;refine Dd (t:=Cr _ _ _) (R:=λO H'=>∃U:V,O=[some (.ref a),some (.ref pn),some (.int (dp:Nat)),some (.int z),some (.int (z / 13)),some (.ref ps),some (.str wd),some U,none,none,none]/\H2=H'/\((wd="fn"\/wd="let")->U=.str x0)/\(¬(wd="fn"\/wd="let")->U=.non)) ?_ ?_;rotate_left
  ·intro Y hY;left;rw[Bl];refine Be (λh=>?_) (λh1=>?_)
   ·left;refine Cp (SqL.of I) ?_;rw[ae];refine s_rI (by decide) ?_;refine Bd (SqL.of I) aw ?_;exact hY _ _ ⟨_,rfl,rfl,λ_=>rfl,λx=>absurd (.inl (of_decide_eq_true h)) x⟩
   left;rw[Bl];refine Be (λh=>?_) (λh2=>?_)
   ·left;refine Cp (SqL.of I) ?_;rw[ae];refine s_rI (by decide) ?_;refine Bd (SqL.of I) aw ?_;exact hY _ _ ⟨_,rfl,rfl,λ_=>rfl,λx=>absurd (.inr (of_decide_eq_true h)) x⟩
   ·exact hY _ _ ⟨_,rfl,rfl,λx=>x.elim (λx=>absurd (decide_eq_true x) h1) (λx=>absurd (decide_eq_true x) h2),λ_=>rfl⟩
  rintro _ _ ⟨U,rfl,rfl,ad,ag⟩;with_reducible refine s_seq ?_;refine Dd (t:=Cr _ _ _) (R:=λO H'=>∃(U:V)(d:Dt),O=[some (.ref a),some (.ref pn),some (.int (dp:Nat)),some (.int z),some (.int (z / 13)),some (.ref ps),some (.str wd),some U,none,none,none]/\Same H2 H'/\IsN K H' U d/\C4 wd d k) ?_ ?_;rotate_left
  ·intro Y hY;left;rw[Bl];refine Be (λh=>?_) (λh1=>?_)
   ·have h:=of_decide_eq_true h;left;refine Cp (SqL.of I) ?_;rw[ae];refine s_rI (by decide) ?_;refine Bd (SqL.of I) aw ?_;left;refine Cp (SqL.of I) ?_;rw[ae];refine s_rI ⟨by decide,by decide⟩ ?_;left;refine Cp (SqL.of I) ?_;rw[ae];refine s_rI (by decide) ?_;refine Bd (SqL.of I) b8 ?_;left;refine⟨B1,λa3 h3=>?_⟩;have s3:=Same.upd (o:=.tup [.str x0,.str x1]) h3;refine hY _ _ ⟨_,.tup [.flat (.str x0),.flat (.str x1)],rfl,s3,.inr ⟨a3,[.str x0,.str x1],rfl,SqT.of Ae,rfl,rfl⟩,?_⟩;have bw:k=1:=by rw[h,show Gs "rec"=some 1 by right]at as;exact(Qa as).symm
    rw[h,bw];exact Zd6
   ·refine hY _ _ ⟨U,.flat U,rfl,Same.refl _,?_,Gu as ⟨h4.1,h4.2.1,h4.2.2.1⟩ ?_⟩
    ·by_cases e:wd="fn"\/wd="let"
     ·rw[ad e];exact .inl ⟨rfl,rfl⟩
     ·rw[ag e];exact .inl ⟨rfl,rfl⟩
    ·exact⟨λe=>⟨x0,by rw[ad e]⟩,λe=>absurd (decide_eq_true e) h1⟩
  clear ad ag U;rintro _ H3 ⟨U,d,rfl,s3,cb,av⟩;have e3:=s3 _ _ e2;have bt:=s3 _ _ ap;have bi:=s3 _ _ I;left;refine⟨sz9,λa4 ca=>?_⟩;have s4:=Same.upd (o:=.lst N9) ca;have e4:upd H3 a4 (.lst N9) a4=some (.lst N9):=Ae;have an:=s4 _ _ e3;revert s4 e4 an;unfold N9;generalize upd H3 a4 _=H4;intro s4 e4 an;left;refine Ce (SqL.of an) ?_;left;refine⟨ps,wd,W13,j,rfl,rfl,SqL.of an,hw,Zoz j wd hj hw,by decide,?_⟩;left;refine⟨_,_,rfl,?_⟩;refine Bd (SqL.of e4) hk ?_;have b6:=s3.trans s4;have a9:=s4 _ _ bt;have aq:=s4 _ _ bi;have bf:=cb.same s4.t;left;refine⟨Bm,λpp ac=>?_⟩;have s5:=Same.upd (o:=.lst []) ac;have e5:upd H4 pp (.lst []) pp=some (.lst []):=Ae;have af:pp≠a:=λx=>by rw[x,a9]at ac;cases ac
  have r4:=r2.trans (b6.r a);have bo:H pp=none:=r4.free af ac;have r5:=r4.trans (s5.r a);have ax:=s5 _ _ a9;have ah:=s5 _ _ aq;have aj:=bf.same s5.t;have b9:pn≠pp:=λx=>by rw[<- x,aq]at ac;cases ac
  revert s5 e5 r5 ax ah aj;generalize upd H4 pp (.lst [])=H5;intro s5 e5 r5 ax ah aj;left;refine⟨by lia,by lia,?_⟩;refine Fa (n:=((k:Nat):Int).toNat) (λi O H'=>eX4 λ(vk:Option V)(pv:List V)(pt:List Tr)(aa:List Int)=>O=[some (.ref a),some (.ref pn),some (.int (dp:Nat)),some (.int z),some (.int (z / 13)),some (.ref ps),some (.str wd),some U,some (.int (k:Nat)),some (.ref pp),vk]/\H' pp=some (.lst pv)/\Al (TrAt K H') pv pt/\(∀t∈pt,Tf t)/\pt.length=i/\H' a=some (.lst (aa.map V.int))/\aa.length<=Z.length/\Bj pt+3*aa.length<=i+3*Z.length/\SameR a H H'/\SameT H5 H'/\H' pn=some (.lst (ts.map V.str)))
   ⟨_,[],[],Z,rfl,e5,.nil,(λt h=>nomatch h),rfl,ax,Pj _,by rw[Bj];lia,r5,(Same.refl H5).t,ah⟩ ?_ ?_
  ·rintro i O H6 hi ⟨vk,pv,pt,aa,rfl,e6,am,ay,l6,ak,bx,z6,r6,t6,ai⟩;have ci:0<k:=by lia
   have ce:1<=dp:=by
    by_cases e:dp=0
    ·have:=bb (bu e);lia
    ·lia
   obtain⟨dq,rfl⟩:∃dq,dp=dq+1:=⟨dp-1,by lia⟩;left;refine Ce (SqL.of e6) ?_;left;refine⟨a,pn,ts,aa,dq,by rw[show(((dq+1:Nat):Int)-1)=((dq:Nat):Int) by lia];rfl,by lia,ak,by lia,ai,au,lt,λv t H7 b7 r7 b0 cg ht bp sz=>?_⟩;have e7:=r7 _ _ af e6;left;refine C6 e7 (by have:=am.1;lia) ?_;have t7:=r7.t ak;have tp:=SameT.set (o:=.lst (pv++[v])) e7;have t8:=t7.trans tp;refine⟨_,pv++[v],pt++[t],b7,rfl,Ae,(am.mono λ_ _ h=>h.sameT t8).snoc (ht.sameT tp),λx hx=>?_,by rw[Pn,Py];lia,by rw[Ag af.symm];exact b0,by lia,by rw[Zh4,Bj,Bj];lia,(r6.trans r7).over bo,t6.trans t8,by rw[Ag b9];exact r7 _ _ au ai⟩;rcases Rl.mp hx with hx|hx
   ·exact ay x hx
   ·rw[Qw.mp hx];exact bp
  ·rintro O H6 ⟨vk,pv,pt,aa,rfl,e6,am,ay,l6,ak,bx,z6,r6,t6,ai⟩;left;refine Zfs (SqL.of e6) λp7 h7=>?_;have s7:=Same.upd (o:=.tup pv) h7;left;refine⟨Bg,λp8 h8=>?_⟩;have s8:=Same.upd (o:=.tup [.str wd,U,.ref p7]) h8;have al:=s7.trans s8;have b5:pt.length=k:=by lia
   refine q (.ref p8) (.mk wd d pt) _ aa (r6.trans (al.r a)) (al _ _ ak) (by lia) (Zbg Ae ((aj.same t6).same al.t) (s8 _ _ Ae) (am.mono λ_ _ h=>h.same al)) (.mk (by rw[b5];exact av) ay) ?_;rw[Tr.size];rcases bv with hc|⟨hc,hz⟩
   ·lia
   ·have:=bb (by rw[br hz];decide);lia
noncomputable def LETS:Str:="abcdefghijklmnopqrstuvwxyz_"
theorem Zo1:LETS.cps.toList.length=27:=by right
theorem Zkv:LETS.length<=sizeLine:=by right
theorem Zoa (u v:Str):(u++v).length=u.length+v.length:=by
 show(u.cps++v.cps).size=_;simp[Str.length]
theorem Zhc (c:Nat):(⟨#[c]⟩:Str).length=1:=rfl
def Zis:Sp:=λvs H Q _=>∃(a:Int),vs=[.int a,.int 5]/\∀(p:Addr)(ts:List Str)(H':Hp),Same H H'->H p=none->ts.length=5->H' p=some (.lst (ts.map V.str))->Q (.ref p) H'
theorem sc_law_names:A9 ["_law_cell_here","_law_many","_law_signs","_law_kept","_law_size","_law_at","_law_names_here","_law_k","_law_word","_law_j","_law_step_here"] ["_law_cell_here","_law_many"] (A5 Ka):=by walk_at "sc"
noncomputable def Mh:List V:=[.str "let",.str "in",.str "if",.str "then",.str "else",.str "fn",.str "rec",.str "yes",.str "no"]
inductive NmJ (H:Hp)(a:Int)(D p:Addr)(j:Nat)(σ':St)(H':Hp):Prop
 |mk (v7 v8 v9 v10:Option V)(ts:List Str)(_:σ'=[some (.int a),some (.int 5),some (.str LETS),some (.ref D),some (.int (1+a % 8)),some (.int (a / 8 % (1+a % 8))),some (.ref p),v7,v8,v9,v10])(_:H' D=some (.lst Mh))(_:H' p=some (.lst (ts.map V.str)))(_:ts.length=j)(_:Same H H')
theorem Zst (F:Fun K "_law_names" "_law_names" Ka f fd)(T:Txt K mg)(C__law_mixed:A8 P w K mg base 1 "_law_mixed" ["_law_cell_here","_law_k"] K6):FnOk P w K mg base Aq 2 f fd ["_law_cell_here","_law_many"] Zis:=by
 refine F.okq sc_law_names (λvs H Q E h=>?_) (λam A outer s H vs Q E hr h=>?_)
 ·obtain⟨a,rfl,_⟩:=h;rfl
 ·obtain⟨a0,rfl,q⟩:=h;refine⟨_,Ad (Av 2 sc_law_names Am)
   (Ad (Av 3 sc_law_names (Bq (N7 (xs:=[.str "let",.str "in",.str "if",.str "then",.str "else",.str "fn",.str "rec",.str "yes",.str "no"]) rfl)))
   (Ad (Av 0 sc_law_names (A3 C__law_mixed hr.m (Aa (qv 0) (Aa Ac Ab))))
   (Ad (Av 4 sc_law_names (Ai (B6 K) Ac (Ai Bf (qv 0) Ac)))
   (Ad (Av 5 sc_law_names (Ai Bf (Ai Df (qv 0) Ac) (qv 4)))
   (Ad (Av 6 sc_law_names (Bq Ab))
   (Ad (Dq Qp rfl (Ey rfl T.range (Aa (qv 1) Ab)) (Bc (i:=7) sc_law_names.nd rfl (Or.inl rfl)) (Ad (Av 8 sc_law_names Am)
   (Ad (Dq Qp rfl (Ey rfl T.range (Aa (qv 4) Ab)) (Bc (i:=9) sc_law_names.nd rfl (Or.inl rfl)) (Ad (Av 10 sc_law_names (Ai (B6 K) (Ai Df (Ai Df (qv 0) Ac) (Ai (B6 K) (qv 9) Ac)) (Ai Im Ac (qv 9))))
   (Af (Av 8 sc_law_names (Ai (B6 K) (qv 8) (Ah K (qv 2) (Ai Bf (Ai (B6 K) (qv 10) (Ai Im (qv 7) (D4 Zup (by rfl) T.int (by right) (Aa (D5 (Ba K hr.u200) (qv 9) (qv 5) (Ax _)) Ab)))) Ac)))))))
   (Ad (Ay (Az (Ll K) (qv 8) (qv 3) (by rfl)) (Af (Av 8 sc_law_names (Ai (B6 K) (qv 8) Am))) A2)
   (Af (B2 (Cv K P5 Qe Qf C7 (qv 6) (Aa (qv 8) Ab))))))))
   (Af (An (qv 6))))))))),?_⟩
  have bg:=big;left;refine⟨sz9,λD hD=>?_⟩;left;refine⟨a0,3,rfl,by decide,by decide,λa an ao=>?_⟩;have ak:0<=a % 8:=Qi a (by decide);have al:a % 8<8:=Qx a (by decide);left;refine s_rI (by show(0:Int)<1+a % 8;lia) ?_;left;refine⟨Bm,λp hp=>?_⟩;have ad:D≠p:=λz=>by rw[<- z,Ae]at hp;cases hp
  have ae:H p=none:=(Same.upd hD).free hp;have aj:Same H (upd (upd H D (.lst Mh)) p (.lst [])):=(Same.upd (o:=.lst Mh) hD).put hp;have ai:upd (upd H D (.lst Mh)) p (.lst []) D=some (.lst Mh):=by rw[Ag ad];exact Ae
  left;refine⟨by decide,by decide,?_⟩;refine Fa (n:=5) (NmJ H a D p) ⟨_,_,_,_,[],rfl,ai,Ae,rfl,aj⟩ ?_ ?_
  ·rintro j O H2 hj ⟨v7,v8,v9,Y,ts,rfl,ac,I,Z,aa⟩;left;refine⟨by lia,by lia,?_⟩;refine Fa (n:=(1+a % 8).toNat) (λk O H'=>eX3 λv9 Y t=>O=[some (.int a),some (.int 5),some (.str LETS),some (.ref D),some (.int (1+a % 8)),some (.int (a / 8 % (1+a % 8))),some (.ref p),some (.int (0+j)),some (.str t),v9,Y]/\t.length=k/\H'=H2) ⟨_,_,Str.empty,rfl,rfl,rfl⟩ ?_ ?_
   ·rintro k O H3 hk ⟨ag,U,t,rfl,ah,rfl⟩;left;refine s_rI (by show(0:Int)<0+k+1/\(0:Int)+k+1<1073741824;lia) ?_;left;refine s_mul_r (by split <;> decide) (by split <;> decide) ?_;left;obtain⟨c,hc,_⟩:=G3 (xs:=LETS.cps.toList) (i:=(a / 64 / (0+(k:Int)+1)+5*(0+(k:Int))+(0+(j:Int))*(if decide (V.int (0+(k:Int))=V.int (a / 8 % (1+a % 8)))=true then 1 else 0)) % 27) (Qi _ (by decide)) (by rw[Zo1];exact Qx _ (by decide));refine Zkp Zkv hc ?_;refine Mx (by rw[Zhc];lia) ?_;exact⟨_,_,_,rfl,by rw[Zoa,Zhc];lia,rfl⟩
   ·rintro O H3 ⟨ag,U,t,rfl,ah,rfl⟩;left;refine Hd (.inl (SqL.of ac)) rfl rfl ?_;have af:∀(t':Str),NmJ H a D p (j+1) [some (.int a),some (.int 5),some (.str LETS),some (.ref D),some (.int (1+a % 8)),some (.int (a / 8 % (1+a % 8))),some (.ref p),some (.int (0+(j:Int))),some (.str t'),ag,U] (upd H3 p (.lst (ts.map V.str++[.str t']))):=λt' =>
     ⟨_,_,_,_,ts++[t'],rfl,by rw[Ag ad];exact ac,by rw[Ae,Qh];rfl,by simp[Z],aa.over ae⟩
    left;refine Be (λ_=>?_) (λ_=>?_)
    ·left;have l1:(Qt "_").length=1:=by right
     refine Mx (by rw[l1];lia) ?_;left;refine Ce (SqL.of I) ?_;left;refine C6 I (by rw[Pp];lia) ?_;exact af _
    ·left;refine Ce (SqL.of I) ?_;left;refine C6 I (by rw[Pp];lia) ?_;exact af _
  ·rintro O H2 ⟨v7,v8,v9,Y,ts,rfl,ac,I,Z,aa⟩;left;exact q p ts _ aa ae Z I
theorem Zr7 (ms:List Int)(lo hi:Option Int):∃ds:List Int,B8 (ms.map V.int) lo hi=ds.map V.int/\ds.length<=ms.length:=by
 refine⟨(ms.drop (HT.sIx (ms.map V.int).length 0 lo)).take (HT.sIx (ms.map V.int).length (ms.map V.int).length hi-HT.sIx (ms.map V.int).length 0 lo),?_,?_⟩
 ·unfold B8;rw[List.map_take,List.map_drop]
 ·rw[Qm,Rw];lia
theorem cut8 (ms:List Int):∃ds:List Int,B8 (ms.map V.int) (some (-8)) none=ds.map V.int/\ds.length<=8:=by
 refine⟨ms.drop (HT.sIx (ms.map V.int).length 0 (some (-8))),?_,?_⟩
 ·unfold B8;rw[HT.sIx_none,List.map_drop,Q9 (by rw[Rw];exact Pj _)]
 ·rw[Rw,Pp];have:HT.sIx ms.length 0 (some (-8))=((-8:Int)+(ms.length:Int)).toNat:=by
   show(if (-8:Int)<0 then ((-8:Int)+(ms.length:Int)).toNat else min (-8:Int).toNat ms.length)=_;exact if_pos (by decide)
  rw[this];lia
def ScN (K:Pg)(H:Hp)(a pm:Addr):Prop:=∃ns:List Int,ns.length<=63/\(Rd H a (.lst (ns.map V.int))/\a≠pm\/∀H',SqL K H' a (ns.map V.int))
theorem Rd.kp (h:Rd H a (.lst xs))(s:SameA F0 H H'):Rd H' a (.lst xs):=by
 rcases h with h|⟨o,h⟩
 ·exact .inl (s.2 _ _ id h)
 ·exact .inr ⟨o,(s.1 a).2 _ _ h⟩
theorem ScN.kp (h:ScN K H a pm)(s:SameA F0 H H'):ScN K H' a pm:=by
 obtain⟨ns,l,⟨h,n⟩|h⟩:=h
 ·exact⟨ns,l,.inl ⟨Rd.kp h s,n⟩⟩
 ·exact⟨ns,l,.inr h⟩
theorem ScN.pop (h:ScN K H a pm)(s:SameR pm H H'):ScN K H' a pm:=by
 obtain⟨ns,l,⟨h,n⟩|h⟩:=h
 ·refine⟨ns,l,.inl ⟨?_,n⟩⟩;rcases h with h|⟨o,h⟩
  ·exact .inl (s _ _ n h)
  ·exact .inr ⟨o,s _ _ n h⟩
 ·exact⟨ns,l,.inr h⟩
theorem ScN.sc (h:ScN K H a pm):Script K H a:=by
 obtain⟨ns,l,⟨h,n⟩|h⟩:=h
 ·exact⟨ns,.inl h,l⟩
 ·exact⟨ns,h _,l⟩
theorem ScN.of (h:Script K H a)(hp:H pm=none):ScN K H a pm:=by
 obtain⟨ns,h|h,l⟩:=h
 ·refine⟨ns,l,.inl ⟨h,λz=>?_⟩⟩;rw[<- z]at hp;rcases h with h|⟨o,h⟩ <;> rw[hp]at h <;> cases h
 ·exact⟨ns,l,.inr λ_=>.inr h⟩
inductive LC (K:Pg)(a pn pm:Addr)(ts:List Str)(t:Tr)(tv v:V)(H:Hp):Prop
 |mk (dm:List Int) (_:ScN K H a pm) (_:H pn=some (.lst (ts.map V.str))) (_:pn≠pm) (_:H pm=some (.lst (dm.map V.int))) (_:dm.length<=63) (_:TrAt K H tv t) (_:RnX K (λb=>b=pm) H v (ev (Bu t) 500 501 [] [] [] 0))
inductive LJ (K:Pg)(a pn pcs:Addr)(c:Int)(so:Str)(ts:List Str)(i:Nat)(σ:St)(H:Hp):Prop
 |mk (v8 v9 v10 v11 v12 v13 v14:Option V) (tv v:V) (t:Tr) (pm:Addr) (_:σ=[some (.ref a),some (.ref pn),some (.ref pcs),some (.int c),some (.str so),some (.ref pm),some tv,some v,v8,v9,v10,v11,v12,v13,v14]) (_:LC K a pn pm ts t tv v H) (_:Tf t) (_:t.size<=123+25*i)
inductive LR (K:Pg)(a pn:Addr)(ts:List Str)(t:Tr)(tv v:V)(pp:Addr)(pl:List Nat)(st:Addr->V->St)(σ:St)(H:Hp):Prop
 |mk (fv:V) (f:Tr) (pm:Addr) (_:σ=st pm fv) (_:LC K a pn pm ts t tv v H) (_:TrAt K H fv f) (_:Tf f) (_:f.size<=25) (_:H pp=some (.tup (A4 pl)))
def Zir (K:Pg):Sp:=λvs H Q _=>∃(a:Addr)(ns:List Int),vs=[.ref a]/\SqL K H a (ns.map V.int)/\ns.length<=63/\∀H',Q (.bl true) H'
theorem Zpf:(["_law_k","_law_cells"]:List Str).Nodup:=by right
theorem Ztr:(["_law_k","_law_cells"]:List Str).Nodup:=by right
theorem sc_law:A9 ["_law_script","_law_names_here","_law_cells","_law_other","_law_sort","_law_more","_law_tree","_law_record","_law_turn","_law_spots","_law_cell_here","_law_place","_law_bound","_law_form_here","_law_fine"] ["_law_script"] (A5 K8):=by walk_at "sc"
theorem Zun (F:Fun K "law" "law" K8 f fd)(T:Txt K mg)(C__law_cell:A8 P w K mg base 1 "_law_cell" ["_law_script","_law_k"] (Zaf K))(C__law_mixed:A8 P w K mg base 1 "_law_mixed" ["_law_cell_here","_law_k"] K6)(C__law_names:A8 P w K mg base 2 "_law_names" ["_law_cell_here","_law_many"] Zis)(C__law_form:A8 P w K mg base 23 "_law_form" ["_law_cells","_law_around","_law_names_here","_law_room","_law_sort"] (Ih K 20))(C__law_is_free:A8 P w K mg base 2 "_law_is_free" ["_law_script"] (Zdi K))(C__law_any:A8 P w K mg base 32 "_law_any" ["_law_cells","_law_names_here","_law_deep"] (Hq K 31))(C__law_gaps:A8 P w K mg base 201 "_law_gaps" ["_law_form_here","_law_place","_law_bound"] (Ht K 200))(C__law_run:A8 P w K mg base 8 "_law_run" ["_law_tree"] (Nm K))(C__law_is_record:A8 P w K mg base 3 "_law_is_record" ["_law_found"] (Zda K))(C__law_step:A8 P w K mg base 203 "_law_step" ["_law_tree","_law_record","_law_place","_law_form_here"] (Zft K)):FnOk P w K mg base Aq 204 f fd ["_law_script"] (Zir K):=by
 refine F.okq sc_law (λvs H Q E h=>?_) (λc5 A outer s H vs Q E hr h=>?_)
 ·obtain⟨a,ns,rfl,_⟩:=h;rfl
 ·obtain⟨a,ns,rfl,hS,hn,q⟩:=h;have SC:Script K H a:=⟨ns,hS,hn⟩;refine⟨_,Ad (Av 1 sc_law (A3 C__law_names hr.m (Aa (A3 C__law_cell hr.m (Aa (qv 0) (Aa Ac Ab))) (Aa Ac Ab))))
   (Ad (Zcj (i:=2) sc_law.nd rfl (Or.inr rfl) (Ej (Ff K) (qv 0) (Dr Ac) (Dr Ac)))
   (Ad (Av 3 sc_law (A3 C__law_mixed hr.m (Aa (A3 C__law_cell hr.m (Aa (qv 0) (Aa Ac Ab))) (Aa Ac Ab))))
   (Ad (Av 4 sc_law (Ah K (Bq (N7 (xs:=[.str "num",.str "num",.str "truth",.str "fun"]) rfl)) (Ai Bf (qv 3) Ac)))
   (Ad (Av 5 sc_law (Zfz K (Lk (N:=["_law_k","_law_cells"]) (σ0:=Ed 1 [2]) rfl (Fz rfl (by right) (by right) (by right)) (Ey rfl T.range (Aa (A6 (B7 K) (by rfl) T.len (by right) (Aa (qv 2) Ab)) Ab)) (Fy rfl (by rfl)) (λ_ _ _ _=>Bc (i:=0) Zpf rfl (Or.inl rfl)) (λ_ _ _ _=>Zam (Az (Ba K hr.u200) (Ai Bf (qv 0) Ac) Ac (Ax _))) (λ_ _ _ _=>Jz (Zb3 K) (qv 1) (qv 0) (λ_ _=>rfl))) (Dr (Fv F5 Ac))))
   (Ad (Zcj (i:=2) sc_law.nd rfl (Or.inr rfl) (Zfz K (Lk (N:=["_law_k","_law_cells"]) (σ0:=Ed 1 [2]) rfl (Fz rfl (by right) (by right) (by right)) (Ey rfl T.range (Aa (A6 (B7 K) (by rfl) T.len (by right) (Aa (qv 2) Ab)) Ab)) (Fy rfl (by rfl)) (λ_ _ _ _=>Bc (i:=0) Ztr rfl (Or.inl rfl)) (λ_ _ _ _=>Zam (Az (Dy K hr.u200) (Ai Bf (qv 0) Ac) Ac (Ax _))) (λ_ _ _ _=>Jz (Zb3 K) (qv 1) (qv 0) (λ_ _=>rfl))) (Dr (Fv F5 Ac))))
   (Ad (Ay (Bp (A3 C__law_is_free hr.m (Aa (qv 0) Ab))) (Af (Av 6 sc_law (A3 C__law_any hr.m (Aa (qv 2) (Aa (qv 1) (Aa Ac Ab)))))) (Af (Av 6 sc_law (A3 C__law_form hr.m (Aa (qv 2) (Aa (Bq Ab) (Aa (qv 1) (Aa (Ai (B6 K) Ac (Ai Bf (A3 C__law_cell hr.m (Aa (qv 0) (Aa Ac Ab))) Ac)) (Aa (qv 4) Ab)))))))))
   (Ad (Ay (Az (Zvd K hr.u200) (A3 C__law_gaps hr.m (Aa (qv 6) (Aa (Ao Ab) (Aa (Bq Ab) Ab)))) (Bq Ab) (Ax _)) (Af (Av 6 sc_law (Ao (Aa Am (Aa Dp (Aa (Ao (Aa (qv 6) (Aa (Ao (Aa Am (Aa Dp (Aa (Ao Ab) Ab)))) Ab))) Ab)))))) A2)
   (Ad (Av 7 sc_law (A3 C__law_run hr.m (Aa (qv 6) Ab)))
   (Ad (Ay (QW.qt (Ef (L0 (Zkb (qv 7))) (D7 (Cn (Bp (A3 C__law_is_record hr.m (Aa (qv 7) Ab))))))) (Af (An B9)) A2)
   (Ad (Dq Qp rfl (Ey rfl T.range (Aa (Ai (B6 K) Ac (Ai Bf (Ai Df (qv 3) Ac) Ac)) Ab)) (Bc (i:=8) sc_law.nd rfl (Or.inl rfl)) (Ad (Av 9 sc_law (A3 C__law_gaps hr.m (Aa (qv 6) (Aa (Ao Ab) (Aa (Bq Ab) Ab)))))
   (Af (Ay (Az Ig (A6 (B7 K) (by rfl) T.len (by right) (Aa (qv 9) Ab)) Ac (Ax _)) (Ad (Av 10 sc_law (A3 C__law_mixed hr.m (Aa (A3 C__law_cell hr.m (Aa (qv 0) (Aa (Ai (B6 K) Ac (qv 8)) Ab))) (Aa (qv 8) Ab))))
   (Ad (Fs (Ah K (qv 9) (Ai Bf (Ai Df (qv 10) Ac) (A6 (B7 K) (by rfl) T.len (by right) (Aa (qv 9) Ab)))) (Ep K (n:=2) rfl (Ci (Bc (i:=11) sc_law.nd rfl (Or.inl rfl)) (Ci (Bc (i:=12) sc_law.nd rfl (Or.inl rfl)) (Ei)))))
   (Ad (Ay (Bp (A3 C__law_is_free hr.m (Aa (qv 0) Ab))) (Ad (Av 13 sc_law (A3 C__law_any hr.m (Aa (Ej (Ff K) (qv 5) (Dr (Fv F5 Ac)) (Ew)) (Aa (qv 1) (Aa Ac Ab)))))
   (Af (Av 5 sc_law (Ej (Ff K) (qv 5) (Ew) (Dr (Fv F5 Ac)))))) (Af (Av 13 sc_law (A3 C__law_form hr.m (Aa (qv 5) (Aa (qv 12) (Aa (qv 1) (Aa (Ai (B6 K) Ac (Ai Bf (Ai Df (qv 10) Ac) Ac)) (Aa (Ah K (Bq (Aa Am (Aa Am (Aa Am Ab)))) (Ai Bf (qv 10) Ac)) Ab)))))))))
   (Ad (Fs (A3 C__law_step hr.m (Aa (qv 6) (Aa (qv 7) (Aa (qv 11) (Aa (qv 13) Ab))))) (Ep K (n:=3) rfl (Ci (Bc (i:=14) sc_law.nd rfl (Or.inl rfl)) (Ci (Bc (i:=6) sc_law.nd rfl (Or.inl rfl)) (Ci (Bc (i:=7) sc_law.nd rfl (Or.inl rfl)) (Ei))))))
   (Af (Ay (Cn (M9 K (qv 14) (by intro _;rfl))) (Af (An B9)) A2)))))) A2))))
   (Af (An B9)))))))))))),?_⟩
  have bg:=big;left;refine⟨a,1,rfl,SC,by decide,by decide,λz1=>?_⟩;left;refine⟨z1,rfl,λpn ts Hn sn ce a8 O=>?_⟩;obtain⟨ms,bu,cr⟩:=SC;have b4:Script K Hn a:=Script.same ⟨ms,bu,cr⟩ sn;have ba:=sn.seq bu;left;refine Jj ba λpc cz=>?_;obtain⟨cs,cf,cy⟩:∃ds:List Int,B8 (ms.map V.int) (some 2) (some 62)=ds.map V.int/\ds.length<=60:=by
   refine⟨(ms.drop 2).take 60,?_,by rw[Qm];lia⟩;rw[List.map_take,List.map_drop];exact Zoc _ 2 62
  rw[cf];have s0:=Same.upd (o:=.lst (cs.map V.int)) cz;have ec:upd Hn pc (.lst (cs.map V.int)) pc=some (.lst (cs.map V.int)):=Ae;revert s0 ec;generalize upd Hn pc (.lst (cs.map V.int))=H0;intro s0 ec;have bf:=s0 _ _ O;have bo:=b4.same s0;left;refine⟨a,0,rfl,bo,by decide,by decide,λz2=>?_⟩;left;refine⟨z2,0,rfl,by decide,by decide,λc da c9=>?_⟩;left;refine⟨sz4,λpq a3=>?_⟩;have s1:=Same.upd (o:=.lst [.str "num",.str "num",.str "truth",.str "fun"]) a3;have e1:upd H0 pq (.lst [.str "num",.str "num",.str "truth",.str "fun"]) pq=some (.lst [.str "num",.str "num",.str "truth",.str "fun"]):=Ae;revert s1 e1;generalize upd H0 pq _=H1;intro s1 e1;obtain⟨so,cu⟩:∃so:Str,Cm [V.str "num",.str "num",.str "truth",.str "fun"] (c % 4)=some (.str so):=by
   rcases (show c % 4=0\/c % 4=1\/c % 4=2\/c % 4=3 by lia) with h|h|h|h <;> rw[h] <;> exact⟨_,rfl⟩
  left;refine Bd (SqL.of e1) cu ?_;have a4:=s1 _ _ ec;have aw:=s1 _ _ bf;have bw:=bo.same s1;clear s0 ec bf bo e1 a3 b4 ce ba s1;left;dsimp only[M8];left;refine Cp (SqL.of a4) ?_;have c8:(cs.map V.int).length<=60:=by rw[Pp];exact cy
  left;refine⟨by lia,by lia,λD hD=>?_⟩;have bt:∀(i:Nat),i<((cs.map V.int).length:Int).toNat->∃z:Int,Cm (cs.map V.int) ((0:Int)+(i:Nat))=some (.int z):=λi hi=>by
   obtain⟨v,hv,hm⟩:=G3 (xs:=cs.map V.int) (i:=(0:Int)+(i:Nat)) (by lia) (by lia);obtain⟨z,_,rfl⟩:=Rf.mp hm;exact⟨z,hv⟩
  refine Zfx (n:=((cs.map V.int).length:Int).toNat) (Pv:=λi ys I H'=>∃v0 ds,I=[v0,some (.ref pc)]/\ys=List.map V.int ds/\ds.length=i / 3/\Same H1 H') ⟨none,[],rfl,rfl,rfl,Same.upd hD⟩ ?_ ?_
  ·rintro i ys I H' hi aa ⟨v0,ds,rfl,rfl,ld,sH⟩;obtain⟨z,hz⟩:=bt i hi;left;refine Be (λh=>?_) (λh=>?_)
   ·have h:=of_decide_eq_true h;injection h with h;left;refine Bd (SqL.of (sH _ _ a4)) hz ?_;exact⟨_,aa,by rw[Pp];lia,_,Ae,_,ds++[z],rfl,by rw[Qh];rfl,by rw[Pn,Py];lia,sH.over hD⟩
   ·have h:¬((0:Int)+(i:Nat)) % 3=2:=λe=>h (decide_eq_true (by rw[e]));exact⟨_,aa,_,ds,rfl,rfl,by lia,sH⟩
  rintro ys I H2 aa ⟨v0,b9,rfl,rfl,al,s2⟩;left;refine⟨D,_,rfl,rfl,SqL.of aa,λpm as=>?_⟩;rw[<- Wn];have aq:b9.reverse.length<=63:=by rw[Tw];lia
  generalize b9.reverse=dm at aq ⊢;have s3:=Same.upd (o:=.lst (dm.map V.int)) as;have ah:upd H2 pm (.lst (dm.map V.int)) pm=some (.lst (dm.map V.int)):=Ae;have ay:=s2.trans s3;have ac:pn≠pm:=λz=>by rw[<- z,s2 _ _ aw]at as;cases as
  have SN:=ScN.of (bw.same s2) as;revert s3 ah ay;generalize upd H2 pm (.lst (dm.map V.int))=H3;intro s3 ah ay;have bj:=ay _ _ a4;have af:=ay _ _ aw;have a0:=SN.kp s3.a;clear aa hD s2 s3 ay a4 aw bw SN as v0 al;left;dsimp only[M8];left;refine Cp (SqL.of bj) ?_;left;refine⟨by lia,by lia,λD2 br=>?_⟩;refine Zfx (n:=((cs.map V.int).length:Int).toNat) (Pv:=λi ys I H'=>∃v0 ds,I=[v0,some (.ref pc)]/\ys=List.map V.int ds/\ds.length+i / 3=i/\Same H3 H') ⟨none,[],rfl,rfl,rfl,Same.upd br⟩ ?_ ?_
  ·rintro i ys I H' hi aa ⟨v0,ds,rfl,rfl,ld,sH⟩;obtain⟨z,hz⟩:=bt i hi;left;refine Be (λh=>?_) (λh=>?_)
   ·have h:¬((0:Int)+(i:Nat)) % 3=2:=λe=>by rw[e]at h;revert h;decide
    left;refine Bd (SqL.of (sH _ _ bj)) hz ?_;exact⟨_,aa,by rw[Pp];lia,_,Ae,_,ds++[z],rfl,by rw[Qh];rfl,by rw[Pn,Py];lia,sH.over br⟩
   ·have h:((0:Int)+(i:Nat)) % 3=2:=Classical.byContradiction λe=>h (by
     rw[Bool.not_eq_true',decide_eq_false_iff_not];intro z;injection z with z;exact e z)
    exact⟨_,aa,_,ds,rfl,rfl,by lia,sH⟩
  rintro ys I H4 aa ⟨v0,b0,rfl,rfl,cx,s4⟩;left;refine⟨D2,_,rfl,rfl,SqL.of aa,λU ad=>?_⟩;rw[<- Wn];have ca:b0.reverse.length<=40:=by rw[Tw];lia
  generalize b0.reverse=dc at ca ⊢;have Z:=Same.upd (o:=.lst (dc.map V.int)) ad;have e5:upd H4 U (.lst (dc.map V.int)) U=some (.lst (dc.map V.int)):=Ae;have a9:pn≠U:=λz=>by rw[<- z,s4 _ _ af]at ad;cases ad
  have be:H3 U=none:=s4.free ad;have am:=s4.trans Z;revert Z e5 am;generalize upd H4 U (.lst (dc.map V.int))=H5;intro Z e5 am;have up:∀{H6},SameR U H5 H6->Same H3 H6:=λr b o hb=>r b o (λz=>by rw[z,be]at hb;cases hb) (am _ _ hb);clear aa br s4 Z bj ad v0 cx bt;refine s_gname ?_;with_reducible refine s_seq ?_;refine Dd (t:=Cr _ _ _) (R:=λI H'=>∃tv t,I=[some (.ref a),some (.ref pn),some (.ref U),some (.int c),some (.str so),some (.ref pm),some tv,none,none,none,none,none,none,none,none]/\Same H3 H'/\TrAt K H' tv t/\Tf t/\t.size<=121) ?_ ?_;rotate_left
  ·intro Y hY;left;refine⟨a,rfl,a0.sc.same am,λbb=>?_⟩;left;refine Be (λ_=>?_) (λ_=>?_)
   ·left;refine⟨U,pn,ts,dc,24,rfl,by decide,e5,by lia,am _ _ af,a9,a8,λtv t H6 db fr _ _ TT tf hz=>?_⟩;exact hY _ _ ⟨tv,t,rfl,up fr,TT,tf,by lia⟩
   ·left;refine⟨Bm,λar bi=>?_⟩;have s6:=Same.upd (o:=.lst []) bi;have e6:upd H5 ar (.lst []) ar=some (.lst []):=Ae;have ch:ar≠U:=λz=>by rw[z,e5]at bi;cases bi
    revert s6 e6;generalize upd H5 ar (.lst [])=H6;intro s6 e6;have b6:=am.trans s6;left;refine⟨a,0,rfl,a0.sc.same b6,by decide,by decide,λz3=>?_⟩;obtain⟨ax,er,rl,ru⟩:∃k:Nat,1+z3 % 14=(k:Int)/\1<=k/\k<=14:=⟨(1+z3 % 14).toNat,by lia,by lia,by lia⟩;left;rw[er];refine⟨U,ar,pn,ts,0,ax,so,rfl,⟨⟨dc,s6 _ _ e5,by lia⟩,⟨[],[],e6,.nil,Pj _⟩,ch,b6 _ _ af,a9,a8⟩,by lia,rl,by lia,λtv t H7 fr TT tf hz=>?_⟩;exact hY _ _ ⟨tv,t,rfl,up λb o nb hb=>fr.r b o nb (s6 _ _ hb),TT,tf,by lia⟩
  rintro _ H6 ⟨ae,t0,rfl,s6,aj,ai,bq⟩;clear e5 am up;with_reducible refine s_seq ?_;refine Dd (t:=Cr _ _ _) (R:=λI H'=>∃tv t,I=[some (.ref a),some (.ref pn),some (.ref U),some (.int c),some (.str so),some (.ref pm),some tv,none,none,none,none,none,none,none,none]/\Same H3 H'/\TrAt K H' tv t/\Tf t/\t.size<=123) ?_ ?_;rotate_left
  ·intro Y hY;left;refine⟨Bm,λp4 h4=>?_⟩;have s4:=Same.upd (o:=.tup []) h4;left;refine⟨Bm,λp5 h5=>?_⟩;have Z:=Same.upd (o:=.lst []) h5;left;refine⟨ae,t0,p4,p5,[],0,F0,rfl,aj.same (s4.trans Z),ai,Z _ _ Ae,⟨[],[],Ae,.nil,Pj _⟩,by lia,by simp;lia,by lia,(λz hz=>hz.elim),id,λrg ws H7 s7 e7 df=>?_⟩;have ck:=s4.trans (Z.trans s7);left;refine⟨Bm,λp8 h8=>?_⟩;have s8:=Same.upd (o:=.lst []) h8;left;refine Zls (SqL.of (s8 _ _ e7)) (SqL.of Ae) ?_;have a7:=ck.trans s8;left;cases ws with
   |cons y r =>
    left;exact hY _ _ ⟨ae,t0,rfl,s6.trans a7,aj.same a7,ai,by lia⟩
   |nil =>
    rw[show([]:List V).isEmpty=true from rfl];left;refine⟨Bm,λg0 k0=>?_⟩;have y0:=Same.upd (o:=.tup []) k0;left;refine⟨Bg,λg1 k1=>?_⟩;have y1:=Same.upd (o:=.tup [.str "gap",.non,.ref g0]) k1;left;refine⟨B1,λg2 k2=>?_⟩;have y2:=Same.upd (o:=.tup [ae,.ref g1]) k2;left;refine⟨Bg,λg3 k3=>?_⟩;have y3:=Same.upd (o:=.tup [.str "plus",.non,.ref g2]) k3;have bv:=y2.trans y3;have b7:=y1.trans bv;have cb:=y0.trans b7;refine hY _ _ ⟨.ref g3,.mk "plus" (.flat .non) [t0,.mk "gap" (.flat .non) []],rfl,s6.trans (a7.trans cb),Zbg Ae (.inl ⟨rfl,rfl⟩) (y3 _ _ Ae) ((Al.nil.snoc (aj.same (a7.trans cb))).snoc (Nh (bv _ _ Ae) (b7 _ _ Ae) rfl)),Ms (Zb9 (by right)) ai (Ni Zfl),by simp[Tr.size,Bj];lia⟩
  clear aj ai bq s6 ae t0 H6;rintro _ H6 ⟨ae,t0,rfl,s6,aj,ai,bq⟩;left;refine lrX (λb=>b=pm) (λz hz=>by rw[hz,s6 _ _ ah];exact λe=>nomatch e) aj ai (by lia) λv0 H7 s7 R0=>?_;have a5:=s6.trans s7;have b5:=aj.same s7;refine s_gname ?_;with_reducible refine s_seq ?_;refine Dd (t:=Cr _ _ _) (R:=λI H'=>I=[some (.ref a),some (.ref pn),some (.ref U),some (.int c),some (.str so),some (.ref pm),some ae,some v0,none,none,none,none,none,none,none]/\H7=H') ?_ ?_;rotate_left
  ·intro Y hY;have go:=hY _ _ ⟨rfl,rfl⟩;left;cases hE:ev (Bu t0) 500 501 [] [] [] 0 with
   |none =>
    obtain rfl:=R0.2 hE;refine D6 (by simp) ?_;exact go
   |some o =>
    obtain⟨rc,G⟩:=R0.1 o hE;obtain⟨_,_,_,_,rfl,_⟩:=id rc;refine G9 (by simp) ?_;left;refine⟨_,o,rfl,rc.at,G.t,G.l,G.n,?_⟩;left;exact go
  rintro _ _ ⟨rfl,rfl⟩;left;refine⟨by lia,by lia,?_⟩;have c3:(1+c / 4 % 3).toNat<=3:=by lia
  refine Fa (n:=(1+c / 4 % 3).toNat) (LJ K a pn U c so ts) ⟨_,_,_,_,_,_,_,ae,v0,t0,pm,rfl,⟨dm,a0.kp a5.a,a5 _ _ af,ac,a5 _ _ ah,aq,b5,R0⟩,ai,by lia⟩ ?_ ?_;rotate_left
  ·rintro I H' ⟨_,_,_,_,_,_,_,_,_,_,_,rfl,_⟩;left;exact q _
  clear b5 aj ai bq R0 a5 s6 s7 v0 t0 ae aq ah ac a0 af be dm H3 pm;rintro i I H1 hi ⟨v8,v9,de,c4,c6,dh,cw,tv,v,t,pm,rfl,⟨dm,SC,O,ac,em,al,TT,RN⟩,tf,hz⟩;left;refine⟨Bm,λp4 h4=>?_⟩;have s4:=Same.upd (o:=.tup []) h4;left;refine⟨Bm,λp5 h5=>?_⟩;have Z:=Same.upd (o:=.lst []) h5;have n5:¬p5=pm:=λz=>by rw[z,s4 _ _ em]at h5;cases h5
  left;refine⟨tv,t,p4,p5,[],0,λb=>b=pm,rfl,TT.same (s4.trans Z),tf,Z _ _ Ae,⟨[],[],Ae,.nil,Pj _⟩,by lia,by simp;lia,by lia,(λz hz=>by rw[hz,(s4.trans Z) _ _ em];exact λe=>nomatch e),n5,λrg ws H2 s2 e2 b8=>?_⟩;have ap:=s4.trans (Z.trans s2);clear s4 Z s2 h4 h5 n5;replace SC:=SC.kp ap.a;replace O:=ap _ _ O;replace em:=ap _ _ em;replace TT:=TT.same ap;replace RN:=RN.same ap.a;clear ap;left;refine Cp (SqL.of e2) ?_;left;refine Be (λh=>?_) (λ_=>?_);rotate_left
  ·exact⟨_,_,_,_,_,_,_,tv,v,t,pm,rfl,⟨dm,SC,O,ac,em,al,TT,RN⟩,tf,by lia⟩
  have h:(0:Int)<(ws.length:Nat):=of_decide_eq_true h;left;refine⟨a,_,rfl,SC.sc,by lia,by lia,λz1=>?_⟩;left;refine⟨z1,_,rfl,by lia,by lia,λd c7 _=>?_⟩;left;refine Cp (SqL.of e2) ?_;refine s_rI h ?_;obtain⟨x,hx,hm⟩:=G3 (xs:=ws) (i:=d / 24 % ((ws.length:Nat):Int)) (Qi _ (by lia)) (Qx _ h);refine Bd (SqL.of e2) hx ?_;obtain⟨j,hj⟩:=Wb hm;obtain⟨y,hy,ag,pp,bb,rfl,qg,av,bd,cc⟩:=b8.get hj;have hy:=Qo hy;obtain⟨ci,bh⟩:=Wo.mp hy;have bh:y.2.wd="gap":=of_decide_eq_true bh;obtain⟨ao,an⟩:=Zin t y ci;rw[Zif ao]at an;have c2:=(Hm tf an).2;refine Dz qg rfl ?_;refine s_gcons (s_gname (s_gcons (s_gname (s_gnil ?_))));with_reducible refine s_seq ?_;refine Dd (t:=Cr _ _ _) (R:=LR K a pn ts t tv v pp y.1 λpm fv=>[some (.ref a),some (.ref pn),some (.ref U),some (.int c),some (.str so),some (.ref pm),some tv,some v,some (.int (0+(i:Nat))),some (.ref rg),some (.int d),some (.ref pp),some (.ref bb),some fv,cw]) ?_ ?_;rotate_left
  ·intro Y hY;left;refine⟨a,rfl,SC.sc,λb1=>?_⟩;left;refine Be (λ_=>?_) (λ_=>?_)
   ·left;refine Jj (SqL.of em) λps a6=>?_;obtain⟨d8,e8,l8⟩:=cut8 dm;rw[show(-8:Int)=-8 from rfl,e8];have s3:=Same.upd (o:=.lst (d8.map V.int)) a6;have e3:upd H2 ps (.lst (d8.map V.int)) ps=some (.lst (d8.map V.int)):=Ae;have cn:pn≠ps:=λz=>by rw[<- z,O]at a6;cases a6
    revert s3 e3;generalize upd H2 ps (.lst (d8.map V.int))=H3;intro s3 e3;left;refine⟨ps,pn,ts,d8,12,rfl,by decide,e3,by lia,s3 _ _ O,cn,a8,λfv f H4 c1 fr _ _ FF ff cm=>?_⟩;have au:Same H2 H4:=λb o hb=>fr b o (λz=>by rw[z,a6]at hb;cases hb) (s3 _ _ hb);left;refine Jj (SqL.of (au _ _ em)) λb3 ak=>?_;obtain⟨d9,e9,l9⟩:=Zr7 dm none (some (-8));rw[e9];have Z:=Same.upd (o:=.lst (d9.map V.int)) ak;have bp:=au.trans Z;have nn:pn≠b3:=λz=>by rw[<- z,au _ _ O]at ak;cases ak
    exact hY _ _ ⟨fv,f,b3,rfl,⟨d9,(ScN.of (SC.sc.same au) ak).kp Z.a,bp _ _ O,nn,Ae,by lia,TT.same bp,((RN.same au.a).mono λb hb cj=>absurd (by rw[hb];exact ak) cj).same Z.a⟩,FF.same Z,ff,by lia,bp _ _ av⟩
   ·left;refine⟨Bg,λpq a3=>?_⟩;obtain⟨cp,bx⟩:=Za8 d;have s3:=Same.upd (o:=.lst [.str "num",.str "truth",.str "fun"]) a3;have e3:upd H2 pq (.lst [.str "num",.str "truth",.str "fun"]) pq=some (.lst [.str "num",.str "truth",.str "fun"]):=Ae;revert s3 e3;generalize upd H2 pq _=H3;intro s3 e3;left;refine Bd (SqL.of e3) bx ?_;obtain⟨ax,er,rl,ru⟩:∃k:Nat,1+d / 3 % 8=(k:Int)/\1<=k/\k<=8:=⟨(1+d / 3 % 8).toNat,by lia,by lia,by lia⟩;left;rw[er];have ah:=s3 _ _ em;refine⟨pm,bb,pn,ts,420,ax,cp,rfl,⟨⟨dm,ah,al⟩,bd.same s3,cc,s3 _ _ O,ac,a8⟩,by lia,rl,by lia,λfv f H4 fr FF ff cm=>?_⟩;obtain⟨d4,e4,l4⟩:=fr.e;have bn:=fr.r.t ah;have cv:SameA (λb=>b=pm) H3 H4:=⟨bn,λb xs nb hb=>fr.r b _ nb hb⟩;exact hY _ _ ⟨fv,f,pm,rfl,⟨d4,(SC.kp s3.a).pop fr.r,fr.r _ _ ac (s3 _ _ O),ac,e4,l4,(TT.same s3).sameT bn,(RN.same s3.a).same cv⟩,FF,ff,by lia,(bn pp).1 _ (s3 _ _ av)⟩
  clear SC O ac em al TT RN av dm pm bd cc b8 qg e2 hx hj;rintro _ H3 ⟨fv,f,pm,rfl,⟨dm,SC,O,ac,em,al,TT,RN⟩,FF,ff,dg,av⟩;left;refine⟨tv,v,fv,t,f,y.2,pp,y.1,λb=>b=pm,rfl,(λz hz=>by rw[hz,em];exact λe=>nomatch e),TT,tf,by lia,SqT.of av,by lia,ao,an,bh,FF,ff,RN.mono λb hb _=>hb.elim,λr cg v' H5 Z qr c0 cq=>?_⟩;refine Dz qr rfl ?_;left;have di:=Pd (f:=f) ao;refine⟨true,rfl,?_⟩;refine D6 rfl ?_;exact⟨_,_,_,_,_,_,_,cg,v',_,pm,rfl,⟨dm,SC.kp Z,Z.2 _ _ id O,ac,Z.2 _ _ id em,al,c0,cq⟩,Zbd ao tf ff,by lia⟩
end
local macro_rules | `(tactic| walk_at "zA")=>`(tactic| exact(let +zeta a:=_; let +zeta b:=_; let +zeta c:=_; have +usedOnly q:(‹Stmt›:Stmt)=.Assign a b c:=rfl; .Assign a b c))
local macro_rules | `(tactic| walk_at "zC")=>`(tactic| exact(let +zeta a:=_; let +zeta b:=_; let +zeta c:=_; let +zeta d:=_; let +zeta e:=_; let +zeta f:=_; let +zeta g:=_; let +zeta h:=_; let +zeta i:=_; let +zeta j:=_; let +zeta k:=_; have +usedOnly q:(‹Stmt›:Stmt)=.ClassDef a b c d e f g h i j k:=rfl; .ClassDef a b c d e f g h i j k))
local macro_rules | `(tactic| walk_at "zF")=>`(tactic| exact(let +zeta a:=_; let +zeta b:=_; let +zeta c:=_; let +zeta d:=_; let +zeta e:=_; let +zeta f:=_; let +zeta g:=_; let +zeta h:=_; let +zeta i:=_; let +zeta j:=_; have +usedOnly q:(‹Stmt›:Stmt)=.FunctionDef a b c d e f g h i j:=rfl; .FunctionDef a b c d e f g h i j))
noncomputable def w0:Stmt:=by let +zeta s:=As 0;walk_at "zA"
noncomputable def w1:Stmt:=by let +zeta s:=As 1;walk_at "zC"
noncomputable def w2:Stmt:=by let +zeta s:=As 2;walk_at "zC"
noncomputable def w3:Stmt:=by let +zeta s:=As 3;walk_at "zC"
noncomputable def w4:Stmt:=by let +zeta s:=As 4;walk_at "zC"
noncomputable def w5:Stmt:=by let +zeta s:=As 5;walk_at "zA"
noncomputable def w6:Stmt:=by let +zeta s:=As 6;walk_at "zF"
noncomputable def w7:Stmt:=by let +zeta s:=As 7;walk_at "zA"
noncomputable def w8:Stmt:=by let +zeta s:=As 8;walk_at "zF"
noncomputable def w9:Stmt:=by let +zeta s:=As 9;walk_at "zF"
noncomputable def w10:Stmt:=by let +zeta s:=As 10;walk_at "zF"
noncomputable def w11:Stmt:=by let +zeta s:=As 11;walk_at "zF"
noncomputable def w12:Stmt:=by let +zeta s:=As 12;walk_at "zF"
noncomputable def w13:Stmt:=by let +zeta s:=As 13;walk_at "zF"
noncomputable def w14:Stmt:=by let +zeta s:=As 14;walk_at "zA"
noncomputable def w15:Stmt:=by let +zeta s:=As 15;walk_at "zF"
noncomputable def w16:Stmt:=by let +zeta s:=As 16;walk_at "zA"
noncomputable def w17:Stmt:=by let +zeta s:=As 17;walk_at "zF"
noncomputable def w18:Stmt:=by let +zeta s:=As 18;walk_at "zA"
noncomputable def w19:Stmt:=by let +zeta s:=As 19;walk_at "zF"
noncomputable def w20:Stmt:=by let +zeta s:=As 20;walk_at "zA"
noncomputable def w21:Stmt:=by let +zeta s:=As 21;walk_at "zA"
noncomputable def w22:Stmt:=by let +zeta s:=As 22;walk_at "zA"
noncomputable def w23:Stmt:=by let +zeta s:=As 23;walk_at "zA"
noncomputable def w24:Stmt:=by let +zeta s:=As 24;walk_at "zF"
noncomputable def w25:Stmt:=by let +zeta s:=As 25;walk_at "zF"
noncomputable def Zn0:Stmt:=by let +zeta s:=(Cg 26 0);walk_at "zF"
noncomputable def Ztj:Stmt:=by let +zeta s:=(Cg 26 1);walk_at "zF"
noncomputable def Zvc:Stmt:=by let +zeta s:=(Cg 26 2);walk_at "zF"
noncomputable def Zti:Stmt:=by let +zeta s:=(Cg 26 3);walk_at "zF"
noncomputable def Zmx:Stmt:=by let +zeta s:=(Cg 26 4);walk_at "zF"
noncomputable def Zp1:Stmt:=by let +zeta s:=(Cg 26 5);walk_at "zF"
noncomputable def Zno:Stmt:=by let +zeta s:=(Cg 26 6);walk_at "zF"
noncomputable def Zk3:Stmt:=by let +zeta s:=(Cg 26 7);walk_at "zF"
noncomputable def Ziv:Stmt:=by let +zeta s:=(Cg 26 8);walk_at "zF"
noncomputable def Zue:Stmt:=by let +zeta s:=(Cg 26 9);walk_at "zF"
noncomputable def Zox:Stmt:=by let +zeta s:=(Cg 26 10);walk_at "zF"
noncomputable def Zmt:Stmt:=by let +zeta s:=(Cg 26 11);walk_at "zF"
noncomputable def Zn4:Stmt:=by let +zeta s:=(Cg 26 12);walk_at "zF"
noncomputable def w26:Stmt:=let +zeta a:=_;let +zeta b:=_;let +zeta c:=_;let +zeta d:=_;let +zeta e:=_;let +zeta f:=_;let +zeta g:=_;let +zeta h:=_;let +zeta i:=_;let +zeta j:=_;let +zeta k:=_;have +usedOnly q:As 26=.ClassDef a b c d e f g h i j k:=rfl;.ClassDef a b c [Zn0,Ztj,Zvc,Zti,Zmx,Zp1,Zno,Zk3,Ziv,Zue,Zox,Zmt,Zn4] e f g h i j k
noncomputable def w27:Stmt:=by let +zeta s:=As 27;walk_at "zA"
noncomputable def w28:Stmt:=by let +zeta s:=As 28;walk_at "zF"
noncomputable def w29:Stmt:=by let +zeta s:=As 29;walk_at "zF"
noncomputable def w30:Stmt:=by let +zeta s:=As 30;walk_at "zF"
noncomputable def w31:Stmt:=by let +zeta s:=As 31;walk_at "zA"
noncomputable def w32:Stmt:=by let +zeta s:=As 32;walk_at "zF"
noncomputable def w33:Stmt:=by let +zeta s:=As 33;walk_at "zA"
noncomputable def w34:Stmt:=by let +zeta s:=As 34;walk_at "zF"
noncomputable def w35:Stmt:=by let +zeta s:=As 35;walk_at "zF"
noncomputable def w36:Stmt:=by let +zeta s:=As 36;walk_at "zF"
noncomputable def w37:Stmt:=by let +zeta s:=As 37;walk_at "zF"
noncomputable def w38:Stmt:=by let +zeta s:=As 38;walk_at "zF"
noncomputable def w39:Stmt:=by let +zeta s:=As 39;walk_at "zF"
noncomputable def w40:Stmt:=by let +zeta s:=As 40;walk_at "zF"
noncomputable def w41:Stmt:=by let +zeta s:=As 41;walk_at "zF"
noncomputable def w42:Stmt:=by let +zeta s:=As 42;walk_at "zF"
noncomputable def w43:Stmt:=by let +zeta s:=As 43;walk_at "zF"
noncomputable def w44:Stmt:=by let +zeta s:=As 44;walk_at "zF"
noncomputable def w45:Stmt:=by let +zeta s:=As 45;walk_at "zF"
noncomputable def w46:Stmt:=by let +zeta s:=As 46;walk_at "zF"
noncomputable def w47:Stmt:=by let +zeta s:=As 47;walk_at "zF"
noncomputable def w48:Stmt:=by let +zeta s:=As 48;walk_at "zF"
noncomputable def w49:Stmt:=by let +zeta s:=As 49;walk_at "zF"
noncomputable def w50:Stmt:=by let +zeta s:=As 50;walk_at "zF"
noncomputable def w51:Stmt:=by let +zeta s:=As 51;walk_at "zF"
noncomputable def w52:Stmt:=by let +zeta s:=As 52;walk_at "zF"
noncomputable def w53:Stmt:=by let +zeta s:=As 53;walk_at "zF"
noncomputable def pk0 (r:List Stmt):List Stmt:=w0::w1::w2::w3::w4::w5::w6::w7::r
noncomputable def pk1 (r:List Stmt):List Stmt:=w8::w9::w10::w11::w12::w13::w14::w15::r
noncomputable def pk2 (r:List Stmt):List Stmt:=w16::w17::w18::w19::w20::w21::w22::w23::r
noncomputable def pk3 (r:List Stmt):List Stmt:=w24::w25::w26::w27::w28::w29::w30::w31::r
noncomputable def pk4 (r:List Stmt):List Stmt:=w32::w33::w34::w35::w36::w37::w38::w39::r
noncomputable def pk5 (r:List Stmt):List Stmt:=w40::w41::w42::w43::w44::w45::w46::w47::r
noncomputable def pk6 (r:List Stmt):List Stmt:=w48::w49::w50::w51::w52::w53::r
noncomputable def PWc:Program:=let +zeta a:=_;let +zeta b:=_;let +zeta c:=_;let +zeta d:=_;let +zeta e:=_;let +zeta f:=_;let +zeta g:=_;let +zeta h:=_;let +zeta i:=_;let +zeta j:=_;have +usedOnly q:So=⟨⟨a,b,c,d,e⟩,f,g,h,i,j⟩:=rfl;⟨⟨pk0 (pk1 (pk2 (pk3 (pk4 (pk5 (pk6 [])))))),b,c,d,e⟩,f,g,h,i,j⟩
theorem e_PW:PWc=PWc:=rfl
name_quick x_PW for K53.PWc by K53.e_PW
end K53
noncomputable def PySem.W.Fast.tw7387943062325210889:PySem.Program:=PySem.W.Fast.tw189353004572477190
theorem PySem.W.Fast.te7387943062325210889:So=PySem.W.Fast.tw7387943062325210889:=(rfl:So=K53.PWc).trans PySem.W.Fast.te189353004572477190
namespace K53
open PySem L2
noncomputable def vk0 (r:List Stmt):List Stmt:=w1::w2::w3::w4::w6::w8::w9::w10::r
noncomputable def vk1 (r:List Stmt):List Stmt:=w11::w12::w13::w15::w17::w19::w21::w22::r
noncomputable def vk2 (r:List Stmt):List Stmt:=w23::w24::w25::w26::w28::w29::w30::w32::r
noncomputable def vk3 (r:List Stmt):List Stmt:=w34::w35::w36::w37::w38::w39::w40::w41::r
noncomputable def vk4 (r:List Stmt):List Stmt:=w42::w43::w44::w45::w46::w47::w48::w49::r
noncomputable def vk5 (r:List Stmt):List Stmt:=w50::w51::w52::w53::r
noncomputable def VWc:Program:={ So with main:={ So.main with body:=vk0 (vk1 (vk2 (vk3 (vk4 (vk5 []))))) } }
noncomputable def S0:List Stmt:=[w3]
noncomputable def S1:List Stmt:=[w11,w12,w13,w14,w15,w16,w17,w18,w19,w20,w21,w22,w23,w24]
noncomputable def S2:List Stmt:=[w25]
noncomputable def S3:List Stmt:=[w2]
noncomputable def S4:List Stmt:=[w41,w42,w43,w44,w45,w46,w47,w48,w49,w50,w51,w52]
noncomputable def S5:List Stmt:=[w27,w28,w29,w30,w31,w32,w33,w34,w35,w36,w37,w38,w39,w40]
noncomputable def S6:List Stmt:=[w53]
noncomputable def S7:List Stmt:=[w0,w1]
noncomputable def S8:List Stmt:=[w26]
noncomputable def S9:List Stmt:=[w4,w5,w6,w7,w8,w9,w10]
noncomputable def SB:Program×List (List Stmt):=(VWc,[S0,S1,S2,S3,S4,S5,S6,S7,S8,S9])
theorem e_SB:SB=SB:=rfl
name_quick x_SB for K53.SB by K53.e_SB
end K53
noncomputable def PySem.W.Fast.tw8058024369241197110:PySem.Program:=PySem.W.Fast.tw5962648655066678376
theorem PySem.W.Fast.te8058024369241197110:K53.VWc=PySem.W.Fast.tw8058024369241197110:=PySem.W.Fast.te5962648655066678376
noncomputable def PySem.W.Fast.tw4382036735977392800:List Rq:=PySem.W.Fast.tw366724375881889884
theorem PySem.W.Fast.te4382036735977392800:K53.S0=PySem.W.Fast.tw4382036735977392800:=PySem.W.Fast.te366724375881889884
noncomputable def PySem.W.Fast.tw5759032590008643969:List Rq:=PySem.W.Fast.tw5260754127121661569
theorem PySem.W.Fast.te5759032590008643969:K53.S1=PySem.W.Fast.tw5759032590008643969:=PySem.W.Fast.te5260754127121661569
noncomputable def PySem.W.Fast.tw10212377064641038439:List Rq:=PySem.W.Fast.tw7196147051206732838
theorem PySem.W.Fast.te10212377064641038439:K53.S2=PySem.W.Fast.tw10212377064641038439:=PySem.W.Fast.te7196147051206732838
noncomputable def PySem.W.Fast.tw18299186269568463371:List Rq:=PySem.W.Fast.tw3460402599603128088
theorem PySem.W.Fast.te18299186269568463371:K53.S3=PySem.W.Fast.tw18299186269568463371:=PySem.W.Fast.te3460402599603128088
noncomputable def PySem.W.Fast.tw4487761192210779596:List Rq:=PySem.W.Fast.tw10307731717231142189
theorem PySem.W.Fast.te4487761192210779596:K53.S4=PySem.W.Fast.tw4487761192210779596:=PySem.W.Fast.te10307731717231142189
noncomputable def PySem.W.Fast.tw12922617947529168973:List Rq:=PySem.W.Fast.tw15889409883084274245
theorem PySem.W.Fast.te12922617947529168973:K53.S5=PySem.W.Fast.tw12922617947529168973:=PySem.W.Fast.te15889409883084274245
noncomputable def PySem.W.Fast.tw13243600855467099762:List Rq:=PySem.W.Fast.tw10443335053258678132
theorem PySem.W.Fast.te13243600855467099762:K53.S6=PySem.W.Fast.tw13243600855467099762:=PySem.W.Fast.te10443335053258678132
noncomputable def PySem.W.Fast.tw3661387058908629810:List Rq:=PySem.W.Fast.tw11579347936599985396
theorem PySem.W.Fast.te3661387058908629810:K53.S7=PySem.W.Fast.tw3661387058908629810:=PySem.W.Fast.te11579347936599985396
noncomputable def PySem.W.Fast.tw9792507240935607413:List Rq:=PySem.W.Fast.tw13214303335442045355
theorem PySem.W.Fast.te9792507240935607413:K53.S8=PySem.W.Fast.tw9792507240935607413:=PySem.W.Fast.te13214303335442045355
noncomputable def PySem.W.Fast.tw7608642634830297626:List Rq:=PySem.W.Fast.tw12616556516592787496
theorem PySem.W.Fast.te7608642634830297626:K53.S9=PySem.W.Fast.tw7608642634830297626:=PySem.W.Fast.te12616556516592787496
namespace K53
open PySem L2 PySem.W
noncomputable def zs (i j:Nat):Stmt:=match As i with|.ClassDef _ _ _ b _ _ _ _ _ _ _=>b.getD j (.Pass ⟨0,0,0,0⟩)|s=>s
noncomputable def ze (P:Params)(s:Str)(t:Tok)(v:Value):DictEntry:=⟨PyData.keyHash P s,.str s t,v⟩
noncomputable abbrev B:=Q7
noncomputable def evb (l:List Obj):Bool->List Obj:=@List.rec Obj (λ_=>Bool->List Obj) (λ_=>[]) (λa _ j b=>@Bool.rec (λ_=>List Obj) (j true) (a::j false) b) l
noncomputable def tO (l:List Obj):B:=@Nat.rec (λ_=>List Obj->B) (λ_=>.nil) (λ_ j l=>@List.rec Obj (λ_=>B) .nil (λx r _=>.node x (j (evb r true)) (j (evb r false))) l) 12 l
noncomputable def zv:List (Str×Tok)->List Value
 |[]=>[]
 |(a,b)::t=>.str a b::zv t
noncomputable def zu (l:List (Str×Tok)):Obj:=⟨.type "tuple",none,.seq ⟨zv l⟩,#[]⟩
noncomputable def zt (c:String)(d:Data):Obj:=⟨.type c,none,d,#[]⟩
noncomputable def zf (n q:Str)(s:Stmt)(m:Str)(t:Tok)(c:Addr):Obj:=⟨.type "function",none,.func (Sb n q (Hr s) (Fc s) (A5 s) .none .none .none (.str m t) none (.ref c) .none),#[]⟩
noncomputable def zh (n q:Str)(s:Stmt):Obj:=⟨.none,none,.func ⟨n,q,Hr s,.stmts (Fc s),A5 s,0,[],.none,.none,.none,.none,none,.none,.none,0⟩,#[]⟩
noncomputable def zk (n q:Str)(t:Tok)(l a g:Int)(r:Addr)(b:Bool)(x:Value)(u:Int)(v:Tok):Obj:=⟨.type "code",none,.fields #[.str n t,.str q (t+1),.str "/claim/cut.py" (t+2),.int l 0,.int a 0,.int 0 0,.int 0 0,.int g 0,.ref r,.bool b,.int 181 0,.ref (r+1),.none,.none,.none,x,.int u 0,.int l 0,.str "/claim/cut.py" v],#[]⟩
noncomputable def zw:List (Int×Int×Addr)->List Value
 |[]=>[]
 |(a,b,c)::t=>.int a 0::.int b 0::.ref c::zw t
noncomputable def zy (l:List (Int×Int×Addr)):Obj:=⟨.none,none,.fields ⟨zw l⟩,#[]⟩
noncomputable def zc (n q:Str)(t:Tok)(l a g:Int)(r:Addr)(u:Int)(v:Tok):Obj:=⟨.type "code",none,.fields #[.str n t,.str q (t+1),.str "/claim/cut.py" (t+2),.int l 0,.int a 0,.int 0 0,.int 0 0,.int g 0,.ref r,.bool true,.int 181 0,.ref (r+1),.none,.ref (r+2),.ref (r+3),.ref (r+4),.int u 0,.int l 0,.str "/claim/cut.py" v],#[]⟩
noncomputable def zb (n:Str):=zc n n
noncomputable def zi (n:Str):=zf n n
noncomputable def zj (n:Str):=zh n n
noncomputable section
def d0 (P:Params):=[ze P "__name__" 165 (.str "gapscribe.errors" 187),ze P "__doc__" 166 .none,ze P "__package__" 167 .none,ze P "__loader__" 168 (.builtin "__main__.__loader__#opaque"),ze P "__spec__" 169 .none,ze P "__annotations__" 170 (.ref 6),ze P "__builtins__" 171 (.ref 4),ze P "__file__" 173 (.str "/claim/cut.py" 172),ze P "__cached__" 174 .none,ze P "GapError" 206 (.ref 24),ze P "NoDeed" 222 (.ref 37)]
def z0 (P:Params):=zt "dict" (.dict ⟨d0 P⟩ 11)
def z1:=zt "tuple" (.seq #[])
noncomputable def y0:List (Int×Int×Addr):=[(2,0,20),(4,0,33)]
def z2:=zy y0
def z3:=zk "<module>" "<module>" 182 1 0 0 11 false .none 185 186
noncomputable def Jy (x0:Nat)(x1:Nat)(x2:Str)(x3:Nat):Obj:=Obj.mk (.type "frame") none Data.plain #[some (.ref x0),some (.ref 3),some (.ref x1),none,some (.str x2 x3),none,some (.ref 0)]
def z4:=Jy 13 3 "__main__" 164
def z5:=zt "tuple" (.seq #[.type "ValueError"])
def h0_0 (P:Params)(t:List Obj):=(boot_o_0 P)::(boot_o_1 P)::(boot_o_2 P)::(z0 P)::(boot_o_4 P)::(boot_o_5 P)::(boot_o_6 P)::(boot_o_7 P)::(boot_o_8 P)::(boot_o_9 P)::(boot_o_10 P)::z1::z2::z3::z4::z5::t
def z6:=zt "builtin_function_or_method" (.fields #[.builtin "type.__prepare__",.type "type"])
def zq1 (P:Params)(x0:Nat)(x1:Str)(x2:Int)(x3:Nat):Obj:=zt "dict" (.dict #[ze P "__module__" x0 (.str "gapscribe.errors" 187),ze P "__qualname__" (x0+2) (.str x1 (x0+1)),ze P "__firstlineno__" (x0+4) (.int x2 (x0+3)),ze P "__static_attributes__" (x0+5) (.ref x3)] 4)
def z7 (P:Params):=zq1 P 196 "GapError" 2 22
noncomputable def z8:=Obj.mk .none none (.fields #[]) #[]
def z9:=zk "GapError" "GapError" 191 2 0 0 18 false .none 194 195
def z10:=Jy 20 17 "gapscribe.errors" 187
def z11 (P:Params):=zt "dict" (.dict #[ze P "__module__" 196 (.str "gapscribe.errors" 187),ze P "__firstlineno__" 200 (.int 2 199),ze P "__static_attributes__" 201 (.ref 22),ze P "__weakref__" 203 (.ref 25),ze P "__doc__" 204 .none] 3)
noncomputable def zq2 (x0:List Value):Obj:=Obj.mk (.type "type") none (.cls (ClassData.mk "GapError" [.type "ValueError"] [.ref 24,.type "ValueError",.type "Exception",.type "BaseException",.type "object"] 23 "GapError" true [] x0 false none false)) #[some (.ref 15),none,some (.str "GapError" 189),some (.str "GapError" 197),some (.builtin "ValueError.__new__"),some (.bool true)]
def z12:=zq2 [.ref 37]
def z13:=zt "getset_descriptor" (.fields #[.str "__weakref__" 202,.ref 24,.builtin "ExceptionGroup.__weakref__",.none])
def z14:=zt "super" (.fields #[.ref 24,.ref 24,.ref 24])
def zq3 (x0:Nat):Obj:=zt "builtin_function_or_method" (.fields #[.builtin "object.__init_subclass__",.ref x0])
def z15:=zq3 24
def z16:=zt "tuple" (.seq #[.ref 24])
def z17 (P:Params):=zq1 P 214 "NoDeed" 4 35
def h1_0 (P:Params)(t:List Obj):=z6::(z7 P)::z1::z8::z9::z10::z1::(z11 P)::z12::z13::z14::z15::z16::z6::(z17 P)::z1::t
def z18:=zk "NoDeed" "NoDeed" 209 4 0 0 31 false .none 212 213
def z19:=Jy 33 30 "gapscribe.errors" 187
def z20 (P:Params):=zt "dict" (.dict #[ze P "__module__" 214 (.str "gapscribe.errors" 187),ze P "__firstlineno__" 218 (.int 4 217),ze P "__static_attributes__" 219 (.ref 35),ze P "__doc__" 220 .none] 2)
noncomputable def zq4 (x0:Str)(x1:Nat)(x2:Nat)(x3:Nat)(x4:Nat):Obj:=Obj.mk (.type "type") none (.cls (ClassData.mk x0 [.ref 24] [.ref x1,.ref 24,.type "ValueError",.type "Exception",.type "BaseException",.type "object"] x2 x0 true [] [] false none false)) #[some (.ref x3),none,some (.str x0 x4),some (.str x0 (x4+8)),some (.builtin "ValueError.__new__"),some (.bool true)]
def z21:=zq4 "NoDeed" 37 36 28 207
def z22:=zt "super" (.fields #[.ref 37,.ref 37,.ref 37])
def z23:=zq3 37
def h2_0 (P:Params)(t:List Obj):=z8::z18::z19::z1::(z20 P)::z21::z22::z23::t
def Rtree_78:Params->B:=λP=>tO (h0_0 P (h1_0 P (h2_0 P [])))
def d1 (P:Params):=d0 P++[ze P "TooLong" 238 (.ref 49)]
def z24 (P:Params):=zt "dict" (.dict ⟨d1 P⟩ 12)
def y1:List (Int×Int×Addr):=y0++[(6,0,45)]
def z25:=zy y1
def Gb (P:Params)(x0 x1:Obj)(t:List Obj):List Obj:=(boot_o_0 P)::(boot_o_1 P)::(boot_o_2 P)::x0::(boot_o_4 P)::(boot_o_5 P)::(boot_o_6 P)::(boot_o_7 P)::(boot_o_8 P)::(boot_o_9 P)::(boot_o_10 P)::z1::x1::z3::z4::z5::t
def h3_0 (P:Params)(t:List Obj):=Gb P (z24 P) z25 t
def z26:=zq2 [.ref 37,.ref 49]
def h4_0 (P:Params)(t:List Obj):=z6::(z7 P)::z1::z8::z9::z10::z1::(z11 P)::z26::z13::z14::z15::z16::z6::(z17 P)::z1::t
def z27 (P:Params):=zq1 P 230 "TooLong" 6 47
def z28:=zk "TooLong" "TooLong" 225 6 0 0 43 false .none 228 229
def z29:=Jy 45 42 "gapscribe.errors" 187
def Fb (P:Params)(t:List Obj):List Obj:=z8::z18::z19::z1::(z20 P)::z21::z22::z23::z16::z6::(z27 P)::z1::z8::z28::z29::z1::t
def z30 (P:Params):=zt "dict" (.dict #[ze P "__module__" 230 (.str "gapscribe.errors" 187),ze P "__firstlineno__" 234 (.int 6 233),ze P "__static_attributes__" 235 (.ref 47),ze P "__doc__" 236 .none] 2)
def z31:=zq4 "TooLong" 49 48 40 223
def z32:=zt "super" (.fields #[.ref 49,.ref 49,.ref 49])
def z33:=zq3 49
def h6_0 (P:Params)(t:List Obj):=(z30 P)::z31::z32::z33::t
def Rtree_93:Params->B:=λP=>tO (h3_0 P (h4_0 P (Fb P (h6_0 P []))))
def d2 (P:Params):=[ze P "__name__" 165 (.str "gapscribe.places" 273),ze P "__doc__" 166 .none,ze P "__package__" 167 .none,ze P "__loader__" 168 (.builtin "__main__.__loader__#opaque"),ze P "__spec__" 169 .none,ze P "__annotations__" 170 (.ref 6),ze P "__builtins__" 171 (.ref 4),ze P "__file__" 173 (.str "/claim/cut.py" 172),ze P "__cached__" 174 .none,ze P "GapError" 206 (.ref 24),ze P "NoDeed" 222 (.ref 37),ze P "TooLong" 238 (.ref 49),ze P "NoPlace" 263 (.ref 68),ze P "is_whole" 272 (.ref 77),ze P "placed_forms" 286 (.ref 84),ze P "has_part" 294 (.ref 91),ze P "forms_down_to" 304 (.ref 98)]
def z34 (P:Params):=zt "dict" (.dict ⟨d2 P⟩ 17)
def y2:List (Int×Int×Addr):=y1++[(8,0,57),(13,0,76),(16,0,83),(25,0,90),(27,0,97)]
def z35:=zy y2
def h7_0 (P:Params)(t:List Obj):=Gb P (z34 P) z35 t
def z36:=zq2 [.ref 37,.ref 49,.ref 68]
def Fp (P:Params)(t:List Obj):List Obj:=z6::(z7 P)::z1::z8::z9::z10::z1::(z11 P)::z36::z13::z14::z15::z16::z6::(z17 P)::z1::t
def d3 (P:Params):=[ze P "__module__" 246 (.str "gapscribe.errors" 187),ze P "__qualname__" 248 (.str "NoPlace" 247),ze P "__firstlineno__" 250 (.int 8 249),ze P "__init__" 258 (.ref 65),ze P "__static_attributes__" 260 (.ref 66)]
def z37 (P:Params):=zt "dict" (.dict ⟨d3 P⟩ 5)
noncomputable def y3:List (Int×Int×Addr):=[(10,4,64)]
def z38:=zy y3
def z39:=zk "NoPlace" "NoPlace" 241 8 0 0 55 false .none 244 245
def z40:=Jy 57 54 "gapscribe.errors" 187
def z41:=zu [("self",254),("place",255)]
def z42:=zh "__init__" "NoPlace.__init__" (Cg 4 0)
def F9 (P:Params)(t:List Obj):List Obj:=(z30 P)::z31::z32::z33::z16::z6::(z37 P)::z1::z38::z39::z40::z1::z8::z41::z1::z42::t
def z43:=zc "__init__" "NoPlace.__init__" 251 10 2 3 59 256 257
def z44:=zf "__init__" "NoPlace.__init__" (Cg 4 0) "gapscribe.errors" 187 64
def z45:=zu [("place",259)]
def z46 (P:Params):=zt "dict" (.dict #[ze P "__module__" 246 (.str "gapscribe.errors" 187),ze P "__firstlineno__" 250 (.int 8 249),ze P "__init__" 258 (.ref 65),ze P "__static_attributes__" 260 (.ref 66),ze P "__doc__" 261 .none] 2)
def z47:=zq4 "NoPlace" 68 67 52 239
def z48:=zt "super" (.fields #[.ref 68,.ref 68,.ref 68])
def z49:=zq3 68
def z50:=zu [("thing",269)]
def z51:=zj "is_whole" Mb
def z52:=zb "is_whole" 266 13 1 3 71 270 271
def z53:=zi "is_whole" Mb "gapscribe.forms" 264 76
def F4 (P:Params)(t:List Obj):List Obj:=z43::z44::z45::(z46 P)::z47::z48::z49::z1::z8::z50::z1::z51::z52::z53::z1::z8::t
def z54:=zu [("tree",278),("told",279),("waiting",280),("pair",281),("number",282),("part",283)]
def z55:=zj "placed_forms" Lc
def z56:=zb "placed_forms" 275 16 1 3 78 284 285
def z57:=zi "placed_forms" Lc "gapscribe.places" 273 83
def z58:=zu [("form",290),("number",291)]
def z59:=zj "has_part" Kk
def z60:=zb "has_part" 287 25 2 3 85 292 293
def z61:=zi "has_part" Kk "gapscribe.places" 273 90
def z62:=zu [("tree",298),("place",299),("passed",300),("number",301)]
def Fu (P:Params)(t:List Obj):List Obj:=z54::z1::z55::z56::z57::z1::z8::z58::z1::z59::z60::z61::z1::z8::z62::z1::t
def z63:=zj "forms_down_to" K2
def z64:=zb "forms_down_to" 295 27 2 3 92 302 303
def z65:=zi "forms_down_to" K2 "gapscribe.places" 273 97
def Zjr (P:Params)(t:List Obj):List Obj:=z63::z64::z65::t
def Rtree_143:Params->B:=λP=>tO (h7_0 P (Fp P (Fb P (F9 P (F4 P (Fu P (Zjr P [])))))))
def d4 (P:Params):=[ze P "__name__" 165 (.str "gapscribe.machine" 364),ze P "__doc__" 166 .none,ze P "__package__" 167 .none,ze P "__loader__" 168 (.builtin "__main__.__loader__#opaque"),ze P "__spec__" 169 .none,ze P "__annotations__" 170 (.ref 6),ze P "__builtins__" 171 (.ref 4),ze P "__file__" 173 (.str "/claim/cut.py" 172),ze P "__cached__" 174 .none,ze P "GapError" 206 (.ref 24),ze P "NoDeed" 222 (.ref 37),ze P "TooLong" 238 (.ref 49),ze P "NoPlace" 263 (.ref 68),ze P "is_whole" 272 (.ref 77),ze P "placed_forms" 286 (.ref 84),ze P "has_part" 294 (.ref 91),ze P "forms_down_to" 304 (.ref 98),ze P "form_at" 312 (.ref 105),ze P "with_part" 322 (.ref 112),ze P "with_at" 334 (.ref 119),ze P "refuse_no_gap" 343 (.ref 126),ze P "is_finished" 353 (.ref 133),ze P "names_bound" 363 (.ref 140),ze P "MOST_STEPS" 367 (.int 500 366),ze P "PARTS_AWAITED" 390 (.ref 141),ze P "WORDS_WITH_AROUND" 395 (.ref 148),ze P "are_numbers" 401 (.ref 153)]
def z66 (P:Params):=zt "dict" (.dict ⟨d4 P⟩ 27)
def y4:List (Int×Int×Addr):=y2++[(34,0,104),(36,0,111),(39,0,118),(45,0,125),(49,0,132),(52,0,139),(64,0,152)]
def z67:=zy y4
def Zul (P:Params)(t:List Obj):List Obj:=Gb P (z66 P) z67 t
def z68:=zu [("tree",308),("place",309)]
def z69:=zj "form_at" Kx
def z70:=zb "form_at" 305 34 2 3 99 310 311
def z71:=zi "form_at" Kx "gapscribe.places" 273 104
def z72:=zu [("form",316),("number",317),("part",318),("parts",319)]
def z73:=zj "with_part" L8
def z74:=zb "with_part" 313 36 3 3 106 320 321
def Gj (P:Params)(t:List Obj):List Obj:=z63::z64::z65::z1::z8::z68::z1::z69::z70::z71::z1::z8::z72::z1::z73::z74::t
def z75:=zi "with_part" L8 "gapscribe.places" 273 111
def z76:=zu [("tree",326),("place",327),("form",328),("made",329),("number",330),("above",331)]
def z77:=zj "with_at" Kr
def z78:=zb "with_at" 323 39 3 3 113 332 333
def z79:=zi "with_at" Kr "gapscribe.places" 273 118
def z80:=zu [("form",340)]
def z81:=zj "refuse_no_gap" J7
def z82:=zb "refuse_no_gap" 337 45 1 3 120 341 342
def z83:=zi "refuse_no_gap" J7 "gapscribe.deeds" 335 125
def Gw (P:Params)(t:List Obj):List Obj:=z75::z1::z8::z76::z1::z77::z78::z79::z1::z8::z80::z1::z81::z82::z83::z1::t
def z84:=zu [("thing",349),("rows",350)]
def z85:=zj "is_finished" Lx
def z86:=zb "is_finished" 346 49 2 3 127 351 352
def z87:=zi "is_finished" Lx "gapscribe.rows" 344 132
def z88:=zu [("form",359),("number",360)]
def z89:=zj "names_bound" Mg
def z90:=zb "names_bound" 356 52 2 3 134 361 362
def z91:=zi "names_bound" Mg "gapscribe.scopes" 354 139
def z92 (P:Params):=zt "dict" (.dict #[ze P "plus" 368 (.ref 142),ze P "minus" 371 (.ref 143),ze P "less" 374 (.ref 144),ze P "call" 377 (.ref 145),ze P "if" 380 (.ref 146),ze P "let" 382 (.ref 147)] 6)
def z93:=zt "tuple" (.seq #[.int 1 369,.int 0 370])
def z94:=zt "tuple" (.seq #[.int 1 372,.int 0 373])
def G6 (P:Params)(t:List Obj):List Obj:=z8::z84::z1::z85::z86::z87::z1::z8::z88::z1::z89::z90::z91::(z92 P)::z93::z94::t
def z95:=zt "tuple" (.seq #[.int 1 375,.int 0 376])
def z96:=zt "tuple" (.seq #[.int 1 378,.int 0 379])
def z97:=zt "tuple" (.seq #[.int 0 381])
def z98:=zt "tuple" (.seq #[.int 0 383])
def z99:=zu [("gap",391),("fn",392),("rec",393),("if",394)]
def z100:=zj "are_numbers" Ma
def Zav:Obj:=zk "are_numbers" "are_numbers" 396 64 1 3 149 true (.ref 151) 399 400
def Za5:Obj:=zi "are_numbers" Ma "gapscribe.machine" 364 152
def Zoo (P:Params)(t:List Obj):List Obj:=z95::z96::z97::z98::z99::z1::z8::z100::Zav::Za5::t
def Rtree_200:Params->B:=λP=>tO (Zul P (Fp P (Fb P (F9 P (F4 P (Fu P (Gj P (Gw P (G6 P (Zoo P []))))))))))
def d5 (P:Params):=d4 P++[ze P "reckoned" 410 (.ref 160)]
def z103 (P:Params):=zt "dict" (.dict ⟨d5 P⟩ 28)
def y5:List (Int×Int×Addr):=y4++[(66,0,159)]
def z104:=zy y5
def Zoh (P:Params)(t:List Obj):List Obj:=Gb P (z103 P) z104 t
def z105:=zu [("word",405),("left",406),("right",407)]
def z106:=zj "reckoned" Ky
def z107:=zb "reckoned" 402 66 3 3 154 408 409
def Hv (P:Params)(t:List Obj):List Obj:=z95::z96::z97::z98::z99::z1::z8::z100::Zav::Za5::z1::z8::z105::z1::z106::z107::t
def Mt:Obj:=zi "reckoned" Ky "gapscribe.machine" 364 159
def Zos (P:Params)(t:List Obj):List Obj:=Mt::t
def Rtree_211:Params->B:=λP=>tO (Zoh P (Fp P (Fb P (F9 P (F4 P (Fu P (Gj P (Gw P (G6 P (Hv P (Zos P [])))))))))))
def d6 (P:Params):=d5 P++[ze P "Machine" 560 (.ref 259)]
def z109 (P:Params):=zt "dict" (.dict ⟨d6 P⟩ 29)
def y6:List (Int×Int×Addr):=y5++[(72,0,166)]
def z110:=zy y6
def Zqd (P:Params)(t:List Obj):List Obj:=Gb P (z109 P) z110 t
def d7 (P:Params):=[ze P "__module__" 418 (.str "gapscribe.machine" 364),ze P "__qualname__" 420 (.str "Machine" 419),ze P "__firstlineno__" 422 (.int 72 421),ze P "__init__" 431 (.ref 174),ze P "make_steps" 439 (.ref 181),ze P "new_row" 451 (.ref 188),ze P "thing_of_form" 460 (.ref 195),ze P "thing_of_parts" 470 (.ref 202),ze P "thing_at_the_end" 480 (.ref 209),ze P "come_to" 486 (.ref 214),ze P "thing_of_leaf" 498 (.ref 221),ze P "go_further" 509 (.ref 228),ze P "taken_things" 518 (.ref 235),ze P "is_function" 526 (.ref 242),ze P "call" 535 (.ref 249),ze P "go_within" 547 (.ref 256),ze P "__static_attributes__" 553 (.ref 257)]
def z111 (P:Params):=zt "dict" (.dict ⟨d7 P⟩ 17)
noncomputable def y7:List (Int×Int×Addr):=[(74,4,173),(82,4,180),(87,4,187),(92,4,194),(96,4,201),(101,4,208),(110,4,213),(120,4,220),(128,4,227),(142,4,234),(147,4,241),(150,4,248),(154,4,255)]
def z112:=zy y7
def z113:=zk "Machine" "Machine" 413 72 0 0 164 false .none 416 417
def z114:=Jy 166 163 "gapscribe.machine" 364
def z115:=zu [("self",426),("tree",427),("steps",428)]
def z116:=zh "__init__" "Machine.__init__" Lf
def Za0:Obj:=zc "__init__" "Machine.__init__" 423 74 3 3 168 429 430
def Zci:Obj:=zf "__init__" "Machine.__init__" Lf "gapscribe.machine" 364 173
def Kh (P:Params)(t:List Obj):List Obj:=Mt::z1::z6::(z111 P)::z1::z112::z113::z114::z1::z8::z115::z1::z116::Za0::Zci::z1::t
def z119:=zu [("self",435),("many",436)]
def z120:=zh "make_steps" "Machine.make_steps" Jg
def z121:=zc "make_steps" "Machine.make_steps" 432 82 2 3 175 437 438
def z122:=zf "make_steps" "Machine.make_steps" Jg "gapscribe.machine" 364 180
def z123:=zu [("self",443),("word",444),("place",445),("operands",446),("around",447),("kept",448)]
def z124:=zh "new_row" "Machine.new_row" Ko
def z125:=zc "new_row" "Machine.new_row" 440 87 5 3 182 449 450
def z126:=zf "new_row" "Machine.new_row" Ko "gapscribe.machine" 364 187
def z127:=zu [("self",455),("place",456),("around",457)]
def Iz (P:Params)(t:List Obj):List Obj:=z8::z119::z1::z120::z121::z122::z1::z8::z123::z1::z124::z125::z126::z1::z8::z127::t
def z128:=zh "thing_of_form" "Machine.thing_of_form" Kv
def z129:=zc "thing_of_form" "Machine.thing_of_form" 452 92 3 3 189 458 459
def z130:=zf "thing_of_form" "Machine.thing_of_form" Kv "gapscribe.machine" 364 194
def z131:=zu [("self",464),("place",465),("operands",466),("around",467)]
def z132:=zh "thing_of_parts" "Machine.thing_of_parts" Ki
def z133:=zc "thing_of_parts" "Machine.thing_of_parts" 461 96 4 3 196 468 469
def z134:=zf "thing_of_parts" "Machine.thing_of_parts" Ki "gapscribe.machine" 364 201
def z135:=zu [("self",474),("place",475),("around",476),("parts_came",477)]
def z136:=zh "thing_at_the_end" "Machine.thing_at_the_end" J4
def J2 (P:Params)(t:List Obj):List Obj:=z1::z128::z129::z130::z1::z8::z131::z1::z132::z133::z134::z1::z8::z135::z1::z136::t
def z137:=zc "thing_at_the_end" "Machine.thing_at_the_end" 471 101 1 3 203 478 479
def z138:=zf "thing_at_the_end" "Machine.thing_at_the_end" J4 "gapscribe.machine" 364 208
def z139:=zh "come_to" "Machine.come_to" Jp
def z140:=zk "come_to" "Machine.come_to" 481 110 3 3 210 true (.ref 212) 484 485
def z141:=zf "come_to" "Machine.come_to" Jp "gapscribe.machine" 364 213
def z142:=zu [("self",490),("word",491),("note",492),("place",493),("around",494),("bound",495)]
def z143:=zh "thing_of_leaf" "Machine.thing_of_leaf" Kb
def z144:=zc "thing_of_leaf" "Machine.thing_of_leaf" 487 120 5 3 215 496 497
def z145:=zf "thing_of_leaf" "Machine.thing_of_leaf" Kb "gapscribe.machine" 364 220
def Jn (P:Params)(t:List Obj):List Obj:=z137::z138::z1::z8::z139::z140::z141::z1::z8::z142::z1::z143::z144::z145::z1::z8::t
def z146:=zu [("self",502),("place",503),("around",504),("word",505),("operands",506)]
def z147:=zh "go_further" "Machine.go_further" Lw
def z148:=zc "go_further" "Machine.go_further" 499 128 3 3 222 507 508
def z149:=zf "go_further" "Machine.go_further" Lw "gapscribe.machine" 364 227
def z150:=zu [("self",513),("many",514),("taken",515)]
def z151:=zh "taken_things" "Machine.taken_things" Ku
def z152:=zc "taken_things" "Machine.taken_things" 510 142 2 3 229 516 517
def z153:=zf "taken_things" "Machine.taken_things" Ku "gapscribe.machine" 364 234
def z154:=zu [("self",522),("thing",523)]
def Jk (P:Params)(t:List Obj):List Obj:=z146::z1::z147::z148::z149::z1::z8::z150::z1::z151::z152::z153::z1::z8::z154::z1::t
def z155:=zh "is_function" "Machine.is_function" Lr
def Zb6:Obj:=zc "is_function" "Machine.is_function" 519 147 2 3 236 524 525
def z157:=zf "is_function" "Machine.is_function" Lr "gapscribe.machine" 364 241
def z158:=zu [("self",530),("operands",531),("row",532)]
def z159:=zh "call" "Machine.call" Md
def z160:=zc "call" "Machine.call" 527 150 2 3 243 533 534
def z161:=zf "call" "Machine.call" Md "gapscribe.machine" 364 248
def z162:=zu [("self",539),("place",540),("number",541),("around",542),("things",543),("names",544)]
def z163:=zh "go_within" "Machine.go_within" K4
def z164:=zc "go_within" "Machine.go_within" 536 154 5 3 250 545 546
def Kf (P:Params)(t:List Obj):List Obj:=z155::Zb6::z157::z1::z8::z158::z1::z159::z160::z161::z1::z8::z162::z1::z163::z164::t
def Zau:Obj:=zf "go_within" "Machine.go_within" K4 "gapscribe.machine" 364 255
def z166:=zu [("forms",548),("rows",549),("steps",550),("things",551),("waiting",552)]
def d8 (P:Params):=[ze P "__module__" 418 (.str "gapscribe.machine" 364),ze P "__firstlineno__" 422 (.int 72 421),ze P "__init__" 431 (.ref 174),ze P "make_steps" 439 (.ref 181),ze P "new_row" 451 (.ref 188),ze P "thing_of_form" 460 (.ref 195),ze P "thing_of_parts" 470 (.ref 202),ze P "thing_at_the_end" 480 (.ref 209),ze P "come_to" 486 (.ref 214),ze P "thing_of_leaf" 498 (.ref 221),ze P "go_further" 509 (.ref 228),ze P "taken_things" 518 (.ref 235),ze P "is_function" 526 (.ref 242),ze P "call" 535 (.ref 249),ze P "go_within" 547 (.ref 256),ze P "__static_attributes__" 553 (.ref 257),ze P "__dict__" 555 (.ref 260),ze P "__weakref__" 557 (.ref 261),ze P "__doc__" 558 .none]
def Zbl (P:Params):Obj:=zt "dict" (.dict ⟨d8 P⟩ 4)
noncomputable def O6:Obj:=Obj.mk (.type "type") none (.cls (ClassData.mk "Machine" [.type "object"] [.ref 259,.type "object"] 258 "Machine" true [] [] false none false)) #[none,none,some (.str "Machine" 411),some (.str "Machine" 419),some (.builtin "object.__new__"),some (.bool true)]
def z169:=zt "getset_descriptor" (.fields #[.str "__dict__" 554,.ref 259,.builtin "function.__dict__",.builtin "function.__dict__#set"])
def z170:=zt "getset_descriptor" (.fields #[.str "__weakref__" 556,.ref 259,.builtin "ExceptionGroup.__weakref__",.none])
def z171:=zt "super" (.fields #[.ref 259,.ref 259,.ref 259])
def z172:=zq3 259
def Zsm (P:Params)(t:List Obj):List Obj:=Zau::z166::(Zbl P)::O6::z169::z170::z171::z172::t
def Rtree_316:Params->B:=λP=>tO (Zqd P (Fp P (Fb P (F9 P (F4 P (Fu P (Gj P (Gw P (G6 P (Hv P (Kh P (Iz P (J2 P (Jn P (Jk P (Kf P (Zsm P [])))))))))))))))))
def Zss (P:Params)(t:List Obj):List Obj:=Gb P (z103 P) z110 t
def d9 (P:Params):=[ze P "__module__" 418 (.str "gapscribe.machine" 364),ze P "__qualname__" 420 (.str "Machine" 419),ze P "__firstlineno__" 422 (.int 72 421),ze P "__init__" 431 (.ref 174),ze P "make_steps" 439 (.ref 181),ze P "new_row" 451 (.ref 188),ze P "thing_of_form" 460 (.ref 195),ze P "thing_of_parts" 470 (.ref 202),ze P "thing_at_the_end" 480 (.ref 209),ze P "come_to" 486 (.ref 214),ze P "thing_of_leaf" 498 (.ref 221),ze P "go_further" 509 (.ref 228),ze P "taken_things" 518 (.ref 235)]
def z173 (P:Params):=zt "dict" (.dict ⟨d9 P⟩ 13)
noncomputable def y8:List (Int×Int×Addr):=[(74,4,173),(82,4,180),(87,4,187),(92,4,194),(96,4,201),(101,4,208),(110,4,213),(120,4,220),(128,4,227),(142,4,234)]
def z174:=zy y8
def Zs1 (P:Params)(t:List Obj):List Obj:=Mt::z1::z6::(z173 P)::z1::z174::z113::z114::z1::z8::z115::z1::z116::Za0::Zci::z1::t
def Zt5 (P:Params)(t:List Obj):List Obj:=z155::Zb6::t
def Rtree_398:Params->B:=λP=>tO (Zss P (Fp P (Fb P (F9 P (F4 P (Fu P (Gj P (Gw P (G6 P (Hv P (Zs1 P (Iz P (J2 P (Jn P (Jk P (Zt5 P []))))))))))))))))
def d10 (P:Params):=[ze P "__name__" 165 (.str "law_gapscribe_k53_whole_going_on_is_the_run" 604),ze P "__doc__" 166 .none,ze P "__package__" 167 .none,ze P "__loader__" 168 (.builtin "__main__.__loader__#opaque"),ze P "__spec__" 169 .none,ze P "__annotations__" 170 (.ref 6),ze P "__builtins__" 171 (.ref 4),ze P "__file__" 173 (.str "/claim/cut.py" 172),ze P "__cached__" 174 .none,ze P "GapError" 206 (.ref 24),ze P "NoDeed" 222 (.ref 37),ze P "TooLong" 238 (.ref 49),ze P "NoPlace" 263 (.ref 68),ze P "is_whole" 272 (.ref 77),ze P "placed_forms" 286 (.ref 84),ze P "has_part" 294 (.ref 91),ze P "forms_down_to" 304 (.ref 98),ze P "form_at" 312 (.ref 105),ze P "with_part" 322 (.ref 112),ze P "with_at" 334 (.ref 119),ze P "refuse_no_gap" 343 (.ref 126),ze P "is_finished" 353 (.ref 133),ze P "names_bound" 363 (.ref 140),ze P "MOST_STEPS" 367 (.int 500 366),ze P "PARTS_AWAITED" 390 (.ref 141),ze P "WORDS_WITH_AROUND" 395 (.ref 148),ze P "are_numbers" 401 (.ref 153),ze P "reckoned" 410 (.ref 160),ze P "Machine" 560 (.ref 259),ze P "thing_now" 570 (.ref 270),ze P "thing_of_row" 576 (.ref 275),ze P "go_on" 592 (.ref 282),ze P "run" 603 (.ref 289),ze P "_law_cell" 613 (.ref 296),ze P "_law_mixed" 621 (.ref 303),ze P "_law_same" 630 (.ref 310),ze P "_law_names" 647 (.ref 317),ze P "_law_number" 654 (.ref 324),ze P "_law_is_free" 661 (.ref 331),ze P "_law_any" 678 (.ref 338)]
def z175 (P:Params):=zt "dict" (.dict ⟨d10 P⟩ 40)
def y9:List (Int×Int×Addr):=y6++[(158,0,269),(160,0,274),(169,0,281),(178,0,288),(183,0,295),(187,0,302),(189,0,309),(206,0,316),(222,0,323),(228,0,330),(230,0,337)]
def z176:=zy y9
def Zjk (P:Params)(t:List Obj):List Obj:=Gb P (z175 P) z176 t
def z177:=zu [("thing",566),("became",567)]
def z178:=zj "thing_now" Ly
def z179:=zb "thing_now" 563 158 2 3 264 568 569
def z180:=zi "thing_now" Ly "gapscribe.going" 561 269
def Od (P:Params)(t:List Obj):List Obj:=Zau::z166::(Zbl P)::O6::z169::z170::z171::z172::z1::z8::z177::z1::z178::z179::z180::z1::t
def z181:=zj "thing_of_row" Kn
def z182:=zk "thing_of_row" "thing_of_row" 571 160 4 3 271 true (.ref 273) 574 575
def z183:=zi "thing_of_row" Kn "gapscribe.going" 561 274
def z184:=zu [("tree",580),("record",581),("place",582),("form",583),("answer",584),("rows",585),("steps",586),("machine",587),("became",588),("row",589)]
def z185:=zj "go_on" Le
def z186:=zb "go_on" 577 169 4 3 276 590 591
def z187:=zi "go_on" Le "gapscribe.going" 561 281
def z188:=zu [("tree",598),("machine",599),("answer",600)]
def z189:=zj "run" L7
def Ol (P:Params)(t:List Obj):List Obj:=z8::z181::z182::z183::z1::z8::z184::z1::z185::z186::z187::z1::z8::z188::z1::z189::t
def z190:=zb "run" 595 178 1 3 283 601 602
def z191:=zi "run" L7 "gapscribe.runs" 593 288
def z192:=zu [("_law_script",609),("_law_k",610)]
def z193:=zj "_law_cell" Lv
def z194:=zb "_law_cell" 606 183 2 3 290 611 612
def z195:=zi "_law_cell" Lv "law_gapscribe_k53_whole_going_on_is_the_run" 604 295
def z196:=zu [("_law_cell_here",617),("_law_k",618)]
def z197:=zj "_law_mixed" Ln
def z198:=zb "_law_mixed" 614 187 2 3 297 619 620
def z199:=zi "_law_mixed" Ln "law_gapscribe_k53_whole_going_on_is_the_run" 604 302
def Nq (P:Params)(t:List Obj):List Obj:=z190::z191::z1::z8::z192::z1::z193::z194::z195::z1::z8::z196::z1::z197::z198::z199::t
def z200:=zu [("_law_found",625),("_law_due",626),("_law_k",627)]
def z201:=zj "_law_same" Jm
def z202:=zb "_law_same" 622 189 2 3 304 628 629
def z203:=zi "_law_same" Jm "law_gapscribe_k53_whole_going_on_is_the_run" 604 309
def z204:=zu [("_law_cell_here",634),("_law_many",635),("_law_signs",636),("_law_kept",637),("_law_size",638),("_law_at",639),("_law_names_here",640),("_law_k",641),("_law_word",642),("_law_j",643),("_law_step_here",644)]
def z205:=zj "_law_names" Ka
def z206:=zb "_law_names" 631 206 2 3 311 645 646
def z207:=zi "_law_names" Ka "law_gapscribe_k53_whole_going_on_is_the_run" 604 316
def Nw (P:Params)(t:List Obj):List Obj:=z1::z8::z200::z1::z201::z202::z203::z1::z8::z204::z1::z205::z206::z207::z1::z8::t
def z208:=zu [("_law_cell_here",651)]
def z209:=zj "_law_number" Lp
def z210:=zb "_law_number" 648 222 1 3 318 652 653
def z211:=zi "_law_number" Lp "law_gapscribe_k53_whole_going_on_is_the_run" 604 323
def z212:=zu [("_law_script",658)]
def z213:=zj "_law_is_free" L9
def z214:=zb "_law_is_free" 655 228 1 3 325 659 660
def z215:=zi "_law_is_free" L9 "law_gapscribe_k53_whole_going_on_is_the_run" 604 330
def z216:=zu [("_law_cells",665),("_law_names_here",666),("_law_deep",667),("_law_cell_here",668),("_law_rest",669),("_law_some",670),("_law_word",671),("_law_note",672),("_law_many",673),("_law_parts",674),("_law_k",675)]
def Mq (P:Params)(t:List Obj):List Obj:=z208::z1::z209::z210::z211::z1::z8::z212::z1::z213::z214::z215::z1::z8::z216::z1::t
def z217:=zj "_law_any" Iw
def Zc1:Obj:=zb "_law_any" 662 230 3 3 332 676 677
def Zc8:Obj:=zi "_law_any" Iw "law_gapscribe_k53_whole_going_on_is_the_run" 604 337
def Zp4 (P:Params)(t:List Obj):List Obj:=z217::Zc1::Zc8::t
def Rtree_478:Params->B:=λP=>tO (Zjk P (Fp P (Fb P (F9 P (F4 P (Fu P (Gj P (Gw P (G6 P (Hv P (Kh P (Iz P (J2 P (Jn P (Jk P (Kf P (Od P (Ol P (Nq P (Nw P (Mq P (Zp4 P []))))))))))))))))))))))
def d11 (P:Params):=d10 P++[ze P "_law_end" 684 (.ref 343),ze P "_law_form" 705 (.ref 350),ze P "_law_is_thing" 713 (.ref 357),ze P "_law_is_row" 723 (.ref 364),ze P "_law_is_record" 731 (.ref 371),ze P "_law_run" 739 (.ref 378),ze P "_law_go_on" 750 (.ref 385),ze P "_law_copy" 756 (.ref 390),ze P "_law_filled" 766 (.ref 397),ze P "_law_gaps" 781 (.ref 404),ze P "_law_apart" 790 (.ref 411),ze P "_law_step" 805 (.ref 418)]
def z220 (P:Params):=zt "dict" (.dict ⟨d11 P⟩ 52)
def y10:List (Int×Int×Addr):=y9++[(257,0,342),(274,0,349),(308,0,356),(318,0,363),(334,0,370),(343,0,377),(350,0,384),(357,0,389),(360,0,396),(366,0,403),(379,0,410),(387,0,417)]
def z221:=zy y10
def Zl0 (P:Params)(t:List Obj):List Obj:=Gb P (z220 P) z221 t
def z222:=zj "_law_end" K1
def z223:=zk "_law_end" "_law_end" 679 257 4 3 339 true (.ref 341) 682 683
def z224:=zi "_law_end" K1 "law_gapscribe_k53_whole_going_on_is_the_run" 604 342
def z225:=zu [("_law_cells",688),("_law_around",689),("_law_names_here",690),("_law_room",691),("_law_sort",692),("_law_cell_here",693),("_law_pick",694),("_law_one",695),("_law_rest",696),("_law_name",697),("_law_kind",698),("_law_first",699),("_law_other",700),("_law_more",701),("_law_word",702)]
def z226:=zj "_law_form" Ja
def z227:=zb "_law_form" 685 274 5 3 344 703 704
def z228:=zi "_law_form" Ja "law_gapscribe_k53_whole_going_on_is_the_run" 604 349
def Zbq (P:Params)(t:List Obj):List Obj:=z217::Zc1::Zc8::z1::z8::z222::z223::z224::z1::z8::z225::z1::z226::z227::z228::z1::t
def z229:=zu [("_law_thing",709),("_law_many",710)]
def z230:=zj "_law_is_thing" K7
def z231:=zb "_law_is_thing" 706 308 2 3 351 711 712
def z232:=zi "_law_is_thing" K7 "law_gapscribe_k53_whole_going_on_is_the_run" 604 356
def z233:=zu [("_law_row",717),("_law_k",718),("_law_thing",719),("_law_pair",720)]
def z234:=zj "_law_is_row" Ld
def z235:=zb "_law_is_row" 714 318 2 3 358 721 722
def z236:=zi "_law_is_row" Ld "law_gapscribe_k53_whole_going_on_is_the_run" 604 363
def z237:=zu [("_law_found",727),("_law_k",728)]
def Zc2 (P:Params)(t:List Obj):List Obj:=z8::z229::z1::z230::z231::z232::z1::z8::z233::z1::z234::z235::z236::z1::z8::z237::t
def z238:=zj "_law_is_record" K0
def z239:=zb "_law_is_record" 724 334 1 3 365 729 730
def z240:=zi "_law_is_record" K0 "law_gapscribe_k53_whole_going_on_is_the_run" 604 370
def z241:=zu [("_law_tree",735),("_law_found",736)]
def z242:=zj "_law_run" K3
def z243:=zb "_law_run" 732 343 1 3 372 737 738
def z244:=zi "_law_run" K3 "law_gapscribe_k53_whole_going_on_is_the_run" 604 377
def z245:=zu [("_law_tree",743),("_law_record",744),("_law_place",745),("_law_form_here",746),("_law_found",747)]
def z246:=zj "_law_go_on" Mj
def O4 (P:Params)(t:List Obj):List Obj:=z1::z238::z239::z240::z1::z8::z241::z1::z242::z243::z244::z1::z8::z245::z1::z246::t
def z247:=zb "_law_go_on" 740 350 4 3 379 748 749
def z248:=zi "_law_go_on" Mj "law_gapscribe_k53_whole_going_on_is_the_run" 604 384
def z249:=zj "_law_copy" Lg
def z250:=zk "_law_copy" "_law_copy" 751 357 1 3 386 true (.ref 388) 754 755
def z251:=zi "_law_copy" Lg "law_gapscribe_k53_whole_going_on_is_the_run" 604 389
def z252:=zu [("_law_tree",760),("_law_place",761),("_law_form_here",762),("_law_parts",763)]
def z253:=zj "_law_filled" Jq
def z254:=zb "_law_filled" 757 360 3 3 391 764 765
def z255:=zi "_law_filled" Jq "law_gapscribe_k53_whole_going_on_is_the_run" 604 396
def Zb1 (P:Params)(t:List Obj):List Obj:=z247::z248::z1::z8::z249::z250::z251::z1::z8::z252::z1::z253::z254::z255::z1::z8::t
def z256:=zu [("_law_form_here",770),("_law_place",771),("_law_bound",772),("_law_word",773),("_law_note",774),("_law_parts",775),("_law_found",776),("_law_k",777),("_law_more",778)]
def z257:=zj "_law_gaps" Io
def z258:=zb "_law_gaps" 767 366 3 3 398 779 780
def z259:=zi "_law_gaps" Io "law_gapscribe_k53_whole_going_on_is_the_run" 604 403
def z260:=zu [("_law_rows",785),("_law_due",786),("_law_k",787)]
def z261:=zj "_law_apart" Lz
def z262:=zb "_law_apart" 782 379 2 3 405 788 789
def z263:=zi "_law_apart" Lz "law_gapscribe_k53_whole_going_on_is_the_run" 604 410
def z264:=zu [("_law_tree",794),("_law_record",795),("_law_place",796),("_law_form_here",797),("_law_filled_here",798),("_law_due",799),("_law_handed",800),("_law_found",801),("_law_kept",802)]
def Zc5 (P:Params)(t:List Obj):List Obj:=z256::z1::z257::z258::z259::z1::z8::z260::z1::z261::z262::z263::z1::z8::z264::z1::t
def z265:=zj "_law_step" K9
def Zch:Obj:=zb "_law_step" 791 387 4 3 412 803 804
def Zaz:Obj:=zi "_law_step" K9 "law_gapscribe_k53_whole_going_on_is_the_run" 604 417
def Zjp (P:Params)(t:List Obj):List Obj:=z265::Zch::Zaz::t
def Rtree_560:Params->B:=λP=>tO (Zl0 P (Fp P (Fb P (F9 P (F4 P (Fu P (Gj P (Gw P (G6 P (Hv P (Kh P (Iz P (J2 P (Jn P (Jk P (Kf P (Od P (Ol P (Nq P (Nw P (Mq P (Zbq P (Zc2 P (O4 P (Zb1 P (Zc5 P (Zjp P [])))))))))))))))))))))))))))
def d12 (P:Params):=d11 P++[ze P "law" 811 (.ref 423)]
def z268 (P:Params):=zt "dict" (.dict ⟨d12 P⟩ 53)
def y11:List (Int×Int×Addr):=y10++[(402,0,422)]
def z269:=zy y11
def Zgf (P:Params)(t:List Obj):List Obj:=Gb P (z268 P) z269 t
def z270:=zj "law" K8
def z271:=zk "law" "law" 806 402 1 3 419 true (.ref 421) 809 810
def z272:=zi "law" K8 "law_gapscribe_k53_whole_going_on_is_the_run" 604 422
def Zhr (P:Params)(t:List Obj):List Obj:=z265::Zch::Zaz::z1::z8::z270::z271::z272::t
def Rtree_567:Params->B:=λP=>tO (Zgf P (Fp P (Fb P (F9 P (F4 P (Fu P (Gj P (Gw P (G6 P (Hv P (Kh P (Iz P (J2 P (Jn P (Jk P (Kf P (Od P (Ol P (Nq P (Nw P (Mq P (Zbq P (Zc2 P (O4 P (Zb1 P (Zc5 P (Zhr P [])))))))))))))))))))))))))))
def Rheap_568:Params->Heap:=λP=>⟨⟨Zgf P (Fp P (Fb P (F9 P (F4 P (Fu P (Gj P (Gw P (G6 P (Hv P (Kh P (Iz P (J2 P (Jn P (Jk P (Kf P (Od P (Ol P (Nq P (Nw P (Mq P (Zbq P (Zc2 P (O4 P (Zb1 P (Zc5 P (Zhr P []))))))))))))))))))))))))))⟩,Life.mk [] [] [] 0 [] [] false #[] [] 0 false false false 0 [2000,10,10] false 0 true [] [] 0 false⟩
end
noncomputable def KK:Params->Pg:=λP=>(nat_lit 2,boot_o_2 P)::(nat_lit 3,z268 P)::(nat_lit 23,z11 P)::(nat_lit 24,z36)::(nat_lit 36,z20 P)::(nat_lit 37,z21)::(nat_lit 48,z30 P)::(nat_lit 49,z31)::(nat_lit 67,z46 P)::(nat_lit 68,z47)::(nat_lit 76,z52)::(nat_lit 77,z53)::(nat_lit 83,z56)::(nat_lit 84,z57)::(nat_lit 90,z60)::(nat_lit 91,z61)::(nat_lit 97,z64)::(nat_lit 98,z65)::(nat_lit 104,z70)::(nat_lit 105,z71)::(nat_lit 111,z74)::(nat_lit 112,z75)::(nat_lit 118,z78)::(nat_lit 119,z79)::(nat_lit 125,z82)::(nat_lit 126,z83)::(nat_lit 132,z86)::(nat_lit 133,z87)::(nat_lit 139,z90)::(nat_lit 140,z91)::(nat_lit 141,z92 P)::(nat_lit 142,z93)::(nat_lit 143,z94)::(nat_lit 144,z95)::(nat_lit 145,z96)::(nat_lit 146,z97)::(nat_lit 147,z98)::(nat_lit 148,z99)::(nat_lit 152,Zav)::(nat_lit 153,Za5)::(nat_lit 159,z107)::(nat_lit 160,Mt)::(nat_lit 173,Za0)::(nat_lit 174,Zci)::(nat_lit 180,z121)::(nat_lit 181,z122)::(nat_lit 187,z125)::(nat_lit 188,z126)::(nat_lit 194,z129)::(nat_lit 195,z130)::(nat_lit 201,z133)::(nat_lit 202,z134)::(nat_lit 208,z137)::(nat_lit 209,z138)::(nat_lit 213,z140)::(nat_lit 214,z141)::(nat_lit 220,z144)::(nat_lit 221,z145)::(nat_lit 227,z148)::(nat_lit 228,z149)::(nat_lit 234,z152)::(nat_lit 235,z153)::(nat_lit 241,Zb6)::(nat_lit 242,z157)::(nat_lit 248,z160)::(nat_lit 249,z161)::(nat_lit 255,z164)::(nat_lit 256,Zau)::(nat_lit 258,Zbl P)::(nat_lit 259,O6)::(nat_lit 269,z179)::(nat_lit 270,z180)::(nat_lit 274,z182)::(nat_lit 275,z183)::(nat_lit 281,z186)::(nat_lit 282,z187)::(nat_lit 288,z190)::(nat_lit 289,z191)::(nat_lit 295,z194)::(nat_lit 296,z195)::(nat_lit 302,z198)::(nat_lit 303,z199)::(nat_lit 309,z202)::(nat_lit 310,z203)::(nat_lit 316,z206)::(nat_lit 317,z207)::(nat_lit 323,z210)::(nat_lit 324,z211)::(nat_lit 330,z214)::(nat_lit 331,z215)::(nat_lit 337,Zc1)::(nat_lit 338,Zc8)::(nat_lit 342,z223)::(nat_lit 343,z224)::(nat_lit 349,z227)::(nat_lit 350,z228)::(nat_lit 356,z231)::(nat_lit 357,z232)::(nat_lit 363,z235)::(nat_lit 364,z236)::(nat_lit 370,z239)::(nat_lit 371,z240)::(nat_lit 377,z243)::(nat_lit 378,z244)::(nat_lit 384,z247)::(nat_lit 385,z248)::(nat_lit 389,z250)::(nat_lit 390,z251)::(nat_lit 396,z254)::(nat_lit 397,z255)::(nat_lit 403,z258)::(nat_lit 404,z259)::(nat_lit 410,z262)::(nat_lit 411,z263)::(nat_lit 417,Zch)::(nat_lit 418,Zaz)::(nat_lit 422,z271)::(nat_lit 423,z272)::[]
noncomputable def kk0 (P:Params)(r:Pg):Pg:=(nat_lit 2,boot_o_2 P)::(nat_lit 3,z268 P)::(nat_lit 23,z11 P)::(nat_lit 24,z36)::(nat_lit 36,z20 P)::(nat_lit 37,z21)::(nat_lit 48,z30 P)::(nat_lit 49,z31)::(nat_lit 67,z46 P)::(nat_lit 68,z47)::(nat_lit 76,z52)::r
noncomputable def kk1 (P:Params)(r:Pg):Pg:=(nat_lit 77,z53)::(nat_lit 83,z56)::(nat_lit 84,z57)::(nat_lit 90,z60)::(nat_lit 91,z61)::(nat_lit 97,z64)::(nat_lit 98,z65)::(nat_lit 104,z70)::(nat_lit 105,z71)::(nat_lit 111,z74)::(nat_lit 112,z75)::r
noncomputable def kk2 (P:Params)(r:Pg):Pg:=(nat_lit 118,z78)::(nat_lit 119,z79)::(nat_lit 125,z82)::(nat_lit 126,z83)::(nat_lit 132,z86)::(nat_lit 133,z87)::(nat_lit 139,z90)::(nat_lit 140,z91)::(nat_lit 141,z92 P)::(nat_lit 142,z93)::(nat_lit 143,z94)::r
noncomputable def kk3 (P:Params)(r:Pg):Pg:=(nat_lit 144,z95)::(nat_lit 145,z96)::(nat_lit 146,z97)::(nat_lit 147,z98)::(nat_lit 148,z99)::(nat_lit 152,Zav)::(nat_lit 153,Za5)::(nat_lit 159,z107)::(nat_lit 160,Mt)::(nat_lit 173,Za0)::(nat_lit 174,Zci)::r
noncomputable def kk4 (P:Params)(r:Pg):Pg:=(nat_lit 180,z121)::(nat_lit 181,z122)::(nat_lit 187,z125)::(nat_lit 188,z126)::(nat_lit 194,z129)::(nat_lit 195,z130)::(nat_lit 201,z133)::(nat_lit 202,z134)::(nat_lit 208,z137)::(nat_lit 209,z138)::(nat_lit 213,z140)::r
noncomputable def kk5 (P:Params)(r:Pg):Pg:=(nat_lit 214,z141)::(nat_lit 220,z144)::(nat_lit 221,z145)::(nat_lit 227,z148)::(nat_lit 228,z149)::(nat_lit 234,z152)::(nat_lit 235,z153)::(nat_lit 241,Zb6)::(nat_lit 242,z157)::(nat_lit 248,z160)::(nat_lit 249,z161)::r
noncomputable def kk6 (P:Params)(r:Pg):Pg:=(nat_lit 255,z164)::(nat_lit 256,Zau)::(nat_lit 258,Zbl P)::(nat_lit 259,O6)::(nat_lit 269,z179)::(nat_lit 270,z180)::(nat_lit 274,z182)::(nat_lit 275,z183)::(nat_lit 281,z186)::(nat_lit 282,z187)::(nat_lit 288,z190)::r
noncomputable def kk7 (P:Params)(r:Pg):Pg:=(nat_lit 289,z191)::(nat_lit 295,z194)::(nat_lit 296,z195)::(nat_lit 302,z198)::(nat_lit 303,z199)::(nat_lit 309,z202)::(nat_lit 310,z203)::(nat_lit 316,z206)::(nat_lit 317,z207)::(nat_lit 323,z210)::(nat_lit 324,z211)::r
noncomputable def kk8 (P:Params)(r:Pg):Pg:=(nat_lit 330,z214)::(nat_lit 331,z215)::(nat_lit 337,Zc1)::(nat_lit 338,Zc8)::(nat_lit 342,z223)::(nat_lit 343,z224)::(nat_lit 349,z227)::(nat_lit 350,z228)::(nat_lit 356,z231)::(nat_lit 357,z232)::(nat_lit 363,z235)::r
noncomputable def kk9 (P:Params)(r:Pg):Pg:=(nat_lit 364,z236)::(nat_lit 370,z239)::(nat_lit 371,z240)::(nat_lit 377,z243)::(nat_lit 378,z244)::(nat_lit 384,z247)::(nat_lit 385,z248)::(nat_lit 389,z250)::(nat_lit 390,z251)::(nat_lit 396,z254)::(nat_lit 397,z255)::r
noncomputable def kk10 (P:Params)(r:Pg):Pg:=(nat_lit 403,z258)::(nat_lit 404,z259)::(nat_lit 410,z262)::(nat_lit 411,z263)::(nat_lit 417,Zch)::(nat_lit 418,Zaz)::(nat_lit 422,z271)::(nat_lit 423,z272)::r
noncomputable def KKc:Params->Pg:=λP=>kk0 P (kk1 P (kk2 P (kk3 P (kk4 P (kk5 P (kk6 P (kk7 P (kk8 P (kk9 P (kk10 P []))))))))))
theorem e_KC:KKc=KKc:=rfl
name_quick x_KC for K53.KKc by K53.e_KC
noncomputable def KA:List Addr:=[2,3,23,24,36,37,48,49,67,68,76,77,83,84,90,91,97,98,104,105,111,112,118,119,125,126,132,133,139,140,141,142,143,144,145,146,147,148,152,153,159,160,173,174,180,181,187,188,194,195,201,202,208,209,213,214,220,221,227,228,234,235,241,242,248,249,255,256,258,259,269,270,274,275,281,282,288,289,295,296,302,303,309,310,316,317,323,324,330,331,337,338,342,343,349,350,356,357,363,364,370,371,377,378,384,385,389,390,396,397,403,404,410,411,417,418,422,423]
noncomputable def RB (P:Params):List Q7×List Heap:=([Rtree_78 P,Rtree_93 P,Rtree_143 P,Rtree_200 P,Rtree_211 P,Rtree_316 P,Rtree_398 P,Rtree_478 P,Rtree_560 P,Rtree_567 P],[Rheap_568 P])
theorem e_RB:RB=RB:=rfl
name_quick x_RB for K53.RB by K53.e_RB
end K53
namespace PySem.W.Fast
noncomputable def tw13790159369958002135:Rg->Pg:=tw12372850416117744881
theorem te13790159369958002135:K53.KK=tw13790159369958002135:=(rfl:K53.KK=K53.KKc).trans te12372850416117744881
noncomputable def tw18411767222632024818:Rg->Q7:=tw11056663603490777572
theorem te18411767222632024818:K53.Rtree_78=tw18411767222632024818:=te11056663603490777572
noncomputable def tw11567142209299308344:Rg->Q7:=tw754414900675150057
theorem te11567142209299308344:K53.Rtree_93=tw11567142209299308344:=te754414900675150057
noncomputable def tw17554344429169788257:Rg->Q7:=tw16343193085872212914
theorem te17554344429169788257:K53.Rtree_143=tw17554344429169788257:=te16343193085872212914
noncomputable def tw16457949311763733081:Rg->Q7:=tw1206223885062617873
theorem te16457949311763733081:K53.Rtree_200=tw16457949311763733081:=te1206223885062617873
noncomputable def tw16832469700168062724:Rg->Q7:=tw9503991403632730823
theorem te16832469700168062724:K53.Rtree_211=tw16832469700168062724:=te9503991403632730823
noncomputable def tw1116423304279407055:Rg->Q7:=tw7559617912691559524
theorem te1116423304279407055:K53.Rtree_316=tw1116423304279407055:=te7559617912691559524
noncomputable def tw13720889495902905780:Rg->Q7:=tw12470392869085152153
theorem te13720889495902905780:K53.Rtree_398=tw13720889495902905780:=te12470392869085152153
noncomputable def tw320886881052524673:Rg->Q7:=tw7712102356661706292
theorem te320886881052524673:K53.Rtree_478=tw320886881052524673:=te7712102356661706292
noncomputable def tw17000344807373616852:Rg->Q7:=tw12076231785231213742
theorem te17000344807373616852:K53.Rtree_560=tw17000344807373616852:=te12076231785231213742
noncomputable def tw16912866251830035207:Rg->Q7:=tw8866389993999354054
theorem te16912866251830035207:K53.Rtree_567=tw16912866251830035207:=te8866389993999354054
noncomputable def tw14997243233351319654:Rg->PySem.Heap:=tw11399295233218713609
theorem te14997243233351319654:K53.Rheap_568=tw14997243233351319654:=te11399295233218713609
end PySem.W.Fast
local macro_rules | `(tactic| walk_at "gd")=>`(tactic| (refine'⟨?ka,_,L2.fun_mk ?kl ?kc ?kk⟩; (case ka=>k_is); (case kl=>k_is); (case kc=>k_is); (case kk=>k_is)))
local macro_rules | `(tactic| walk_at "gm")=>`(tactic| (refine'⟨?ka,?ki,_,L2.fun_mk ?kl ?kc ?kk⟩; (case ka=>k_is); (case ki=>k_is); (case kl=>k_is); (case kc=>k_is); (case kk=>k_is)))
namespace K53
open PySem L2
noncomputable abbrev Zc0:=Zir
theorem all1 {α:Type}{P:List α->Prop}(h:∀a,P [a]):∀us:List α,us.length=1->P us
 |[a],_=>h a
theorem all2 {α:Type}{P:List α->Prop}(h:∀a b,P [a,b]):∀us:List α,us.length=2->P us
 |[a,b],_=>h a b
theorem all3 {α:Type}{P:List α->Prop}(h:∀a b c,P [a,b,c]):∀us:List α,us.length=3->P us
 |[a,b,c],_=>h a b c
theorem all4 {α:Type}{P:List α->Prop}(h:∀a b c d,P [a,b,c,d]):∀us:List α,us.length=4->P us
 |[a,b,c,d],_=>h a b c d
theorem all5 {α:Type}{P:List α->Prop}(h:∀a b c d e,P [a,b,c,d,e]):∀us:List α,us.length=5->P us
 |[a,b,c,d,e],_=>h a b c d e
local macro_rules | `(tactic| walk_at "bi")=>`(tactic| first|exact λ_ _ _ _ _ _=>K53.all1 λ_=>rfl|exact λ_ _ _ _ _ _=>K53.all2 λ_ _=>rfl|exact λ_ _ _ _ _ _=>K53.all3 λ_ _ _=>rfl|exact λ_ _ _ _ _ _=>K53.all4 λ_ _ _ _=>rfl|exact λ_ _ _ _ _ _=>K53.all5 λ_ _ _ _ _=>rfl)
theorem ZZg {P:Program}{w:World}{K:PySem.W.Frag}{mg:Str->Option Value}{base:Heap}{f:Addr}{fd:FuncData}{nm:Str}{ps:List Str}{S:Nat->Sp}{c:Nat}(no:∀vs H Q E,¬S 0 vs H Q E)(st:∀n,A8 P w K mg base (n+c) nm ps (S n)->FnOk P w K mg base Aq (n+1+c) f fd ps (S (n+1)))(mk:∀n,FnOk P w K mg base Aq (n+c) f fd ps (S n)->A8 P w K mg base (n+c) nm ps (S n)):∀n,FnOk P w K mg base Aq (n+c) f fd ps (S n)
 |0=>⟨λvs H Q E h=>absurd h (no _ _ _ _),λA outer s H j I vs Q E _ _ _ _ h=>absurd h (no _ _ _ _)⟩
 |n+1=>st n (mk n (ZZg no st mk n))
theorem Zu5 (ho:K.lookup GE=some ⟨cG,ddG,.cls cdG,slG⟩)(hok:Ta K cdG.ns=true)(hni:Qb K cdG.ns "__init__"=some none):Sz K VE (.ref GE::VE)=true/\(Td K GE).isSome=true:=by
 have e:Sz K VE VE=true:=by unfold Sz;rfl
 refine⟨?_,by unfold Td;rw[ho];rfl⟩;unfold Sz;dsimp only;rw[ho];dsimp only;rw[hok,hni,e];simp
theorem Ztd (hC:K.lookup C=some ⟨.type "type",ddC,.cls cdC,slC⟩)(hm:cdC.mro=.ref C::.ref GE::VE)(hs:slC.toList=[k0,k1,k2,k3,some (.builtin "ValueError.__new__"),k5])(hd:cdC.hasDel=false)(h:Sz K VE (.ref GE::VE)=true)(hok:Ta K cdC.ns=true)(hni:Qb K cdC.ns "__init__"=some none):Oc K C:=by
 obtain⟨nm,bs,mro,ns,I,F,sn,sub,ab,col,j⟩:=cdC;obtain⟨l⟩:=slC;dsimp only at hm hd hok hni hs;subst hm hd hs;exact⟨_,_,_,_,_,_,_,_,_,_,_,_,_,_,_,_,hC,h,hok,hni⟩
noncomputable def Hx (t1 t2 t3 t4 t5 t6:Addr):List (Str×V):=[("plus",.ref t1),("minus",.ref t2),("less",.ref t3),("call",.ref t4),("if",.ref t5),("let",.ref t6)]
theorem Znx:((Hx t1 t2 t3 t4 t5 t6).map (·.1)).Nodup:=by
 show(["plus","minus","less","call","if","let"]:List Str).Nodup;right
theorem Zqz (h1:∀H,SqT K H t1 ([1,0].map V.int))(h2:∀H,SqT K H t2 ([1,0].map V.int))(h3:∀H,SqT K H t3 ([1,0].map V.int))(h4:∀H,SqT K H t4 ([1,0].map V.int))(h5:∀H,SqT K H t5 ([0].map V.int))(h6:∀H,SqT K H t6 ([0].map V.int))(wd:Str) :
  (Dk (Hx t1 t2 t3 t4 t5 t6) wd).isSome=(Bh wd).isSome/\∀ns,Bh wd=some ns->∃b,Dk (Hx t1 t2 t3 t4 t5 t6) wd=some (.ref b)/\∀H,SqT K H b (ns.map V.int):=by
 by_cases I:wd="plus"
 ·subst I;have p:Bh "plus"=some [1,0]:=by right
  exact⟨by rw[p];rfl,λns h=>by rw[p]at h;cases h;exact⟨t1,rfl,h1⟩⟩
 by_cases F:wd="minus"
 ·subst F;have p:Bh "minus"=some [1,0]:=by right
  exact⟨by rw[p];rfl,λns h=>by rw[p]at h;cases h;exact⟨t2,rfl,h2⟩⟩
 by_cases Y:wd="less"
 ·subst Y;have p:Bh "less"=some [1,0]:=by right
  exact⟨by rw[p];rfl,λns h=>by rw[p]at h;cases h;exact⟨t3,rfl,h3⟩⟩
 by_cases O:wd="call"
 ·subst O;have p:Bh "call"=some [1,0]:=by right
  exact⟨by rw[p];rfl,λns h=>by rw[p]at h;cases h;exact⟨t4,rfl,h4⟩⟩
 by_cases j:wd="if"
 ·subst j;have p:Bh "if"=some [0]:=by right
  exact⟨by rw[p];rfl,λns h=>by rw[p]at h;cases h;exact⟨t5,rfl,h5⟩⟩
 by_cases U:wd="let"
 ·subst U;have p:Bh "let"=some [0]:=by right
  exact⟨by rw[p];rfl,λns h=>by rw[p]at h;cases h;exact⟨t6,rfl,h6⟩⟩
 have p:Bh wd=none:=by
  unfold Bh;rw[if_neg (by simp[I,F,Y,O]),if_neg (by simp[j,U])]
 have q:Dk (Hx t1 t2 t3 t4 t5 t6) wd=none:=by
  unfold Dk Hx;simp[Ps I,Ps F,Ps Y,Ps O,Ps j,Ps U]
 rw[p,q];exact⟨rfl,λns h=>nomatch h⟩
noncomputable abbrev Gd (K:Pg)(n:Str)(st:Stmt)(f:Addr):Prop:=Qb K mainGlobals n=some (some (.ref f))/\∃fd,Fun K n n st f fd
noncomputable abbrev Gm (K:Pg)(C:Addr)(n q:Str)(st:Stmt)(f:Addr):Prop:=Qj K (.ref C) n=some (some (.ref f))/\Vs K (.ref f)=true/\∃fd,Fun K n q st f fd
noncomputable abbrev Bi (n q:Str)(st:Stmt)(ps:List Str):Prop:=∀(kV doc pm:Value)(an:Option Addr)(cdv ct:Value)(us:List Value),us.length=ps.length->bindArgs (Sb n q (Hr st) (Fc st) (A5 st) .none kV doc pm an cdv ct) ⟨us,[]⟩=pure (ps.zip us)
section
variable {P:Program}{w:World}{K:Pg}{mg:Str->Option Value}{base h:Heap}(X:K.In h)(G:h.Ns mainGlobals mg){n q:Str}{st:Stmt}{f C:Addr}{k:Nat}{ps:List Str}{sp:Sp}
include X G
theorem cal (g:Gd K n st f)(ok:∀fd,Fun K n n st f fd->FnOk P w K mg base Aq k f fd ps sp)(b:Bi n n st ps:=by walk_at "bi"):A8 P w K mg base k n ps sp:=by
 obtain⟨a,fd,F⟩:=g;exact J0 (ok fd F) (Vq X G a) F.kp (F.binds b)
theorem calx (g:Gd K n st f)(ok:∀fd,Fun K n n st f fd->FnOk P w K mg base (Bo P w) k f fd ps sp)(b:Bi n n st ps:=by walk_at "bi"):Ho P w K mg base k n ps sp:=by
 obtain⟨a,fd,F⟩:=g;exact Zm8 (ok fd F) (Vq X G a) F.kp (F.binds b)
omit X G
theorem met {CX:Cq}(cl:Cls K C)(g:Gm K C n q st f)(ok:∀fd,Fun K n q st f fd->FnOk P w K mg base CX k f fd ps sp)(b:Bi n q st ps:=by walk_at "bi"):C0 CX P w K mg base k C n ps sp:=by
 obtain⟨a,i,fd,F⟩:=g;exact⟨f,fd,ok fd F,cl,⟨a,i,F.kp⟩,F.binds b⟩
end
theorem all_mk {l:Ws}{w:World}{K:Pg}{h:Heap}{mg:Str->Option Value}{fa f1 f2 f3 f4 f5 f6 f7 f8 f9 f10 f11 f12 f13 f14 f15 f16 f17 f18 f19 f20 f21 f22 f23 f24 f25 f26 f27 f28 f29 f30 f31 f32 f33 f34 f35 f36:Addr}(X:K.In h)(G:h.Ns mainGlobals mg)(hfa:mg "law"=some (.ref fa))
  (a1:Gd K "is_whole" Mb f1) (a2:Gd K "placed_forms" Lc f2) (a3:Gd K "has_part" Kk f3) (a4:Gd K "forms_down_to" K2 f4) (a5:Gd K "form_at" Kx f5) (a6:Gd K "with_part" L8 f6) (a7:Gd K "with_at" Kr f7) (a8:Gd K "refuse_no_gap" J7 f8) (a9:Gd K "is_finished" Lx f9) (a10:Gd K "names_bound" Mg f10) (a11:Gd K "are_numbers" Ma f11) (a12:Gd K "reckoned" Ky f12) (a13:Gd K "thing_now" Ly f13) (a14:Gd K "thing_of_row" Kn f14) (a15:Gd K "go_on" Le f15)
  (a16:Gd K "run" L7 f16) (a17:Gd K "_law_cell" Lv f17) (a18:Gd K "_law_mixed" Ln f18) (a19:Gd K "_law_same" Jm f19) (a20:Gd K "_law_names" Ka f20) (a21:Gd K "_law_number" Lp f21) (a22:Gd K "_law_is_free" L9 f22) (a23:Gd K "_law_any" Iw f23) (a24:Gd K "_law_end" K1 f24) (a25:Gd K "_law_form" Ja f25) (a26:Gd K "_law_is_thing" K7 f26) (a27:Gd K "_law_is_row" Ld f27) (a28:Gd K "_law_is_record" K0 f28) (a29:Gd K "_law_run" K3 f29) (a30:Gd K "_law_go_on" Mj f30)
  (a31:Gd K "_law_copy" Lg f31) (a32:Gd K "_law_filled" Jq f32) (a33:Gd K "_law_gaps" Io f33) (a34:Gd K "_law_apart" Lz f34) (a35:Gd K "_law_step" K9 f35) (a36:Gd K "law" K8 f36) (z1:Qb K mainGlobals "isinstance"=some none) (z2:Qb K mainGlobals "int"=some none) (z3:Qb K mainGlobals "bool"=some none) (z4:Qb K mainGlobals "reversed"=some none) (z5:Qb K mainGlobals "list"=some none) (z6:Qb K mainGlobals "enumerate"=some none) (z7:Qb K mainGlobals "len"=some none)
  (z8:Qb K mainGlobals "zip"=some none) (z9:Qb K mainGlobals "all"=some none) (z10:Qb K mainGlobals "tuple"=some none) (z11:Qb K mainGlobals "range"=some none) (z12:Qb K mainGlobals "str"=some none) (z13:Qb K mainGlobals "max"=some none) (z14:Qb K mainGlobals "dict"=some none) {u1:Tok} (b1:Qb K mainGlobals "MOST_STEPS"=some (some (.int 500 u1))) {wa pa t1 t2 t3 t4 t5 t6:Addr} {wo o1 o2 o3 o4 o5 o6:Option Addr} {wi i1 i2 i3 i4 i5 i6:Array Value} {wn pn n1 n2 n3 n4 n5 n6:Nat}
  {ws s1 s2 s3 s4 s5 s6:Array (Option Value)} {pi:Array DictEntry} (b2:Qb K mainGlobals "WORDS_WITH_AROUND"=some (some (.ref wa))) (b3:K.lookup wa=some ⟨.type "tuple",wo,.seq wi wn,ws⟩) (b4:Ev wi.toList=some (WA.map V.str)) (b5:Qb K mainGlobals "PARTS_AWAITED"=some (some (.ref pa))) (b6:K.lookup pa=some ⟨.type "dict",none,.dict pi pn,#[]⟩) (b7:(pa == sysModules)=false) (b8:Ents w.params pi.toList (Hx t1 t2 t3 t4 t5 t6)) (gt1:K.lookup t1=some ⟨.type "tuple",o1,.seq i1 n1,s1⟩) (gu1:Ev i1.toList=some ([1,0].map V.int)) (gt2:K.lookup t2=some ⟨.type "tuple",o2,.seq i2 n2,s2⟩)
  (gu2:Ev i2.toList=some ([1,0].map V.int)) (gt3:K.lookup t3=some ⟨.type "tuple",o3,.seq i3 n3,s3⟩) (gu3:Ev i3.toList=some ([1,0].map V.int)) (gt4:K.lookup t4=some ⟨.type "tuple",o4,.seq i4 n4,s4⟩) (gu4:Ev i4.toList=some ([1,0].map V.int)) (gt5:K.lookup t5=some ⟨.type "tuple",o5,.seq i5 n5,s5⟩) (gu5:Ev i5.toList=some ([0].map V.int)) (gt6:K.lookup t6=some ⟨.type "tuple",o6,.seq i6 n6,s6⟩) (gu6:Ev i6.toList=some ([0].map V.int)) {GE TL AM g1 g2 g3 g4 g5 g6 g7 g8 g9 g10 g11 g12 g13:Addr} {cG cN cM:Value} {dG dN dT dM:Option Addr}
  {kG kT:ClassData} {lG lN lT lM:Array (Option Value)} {eN eM:Array DictEntry} {nN nM:Nat} {j0 j1 j2 j3 j5:Option Value} (x1:Qb K mainGlobals "GapError"=some (some (.ref GE))) (x2:K.lookup GE=some ⟨cG,dG,.cls kG,lG⟩) (x3:K.lookup kG.ns=some ⟨cN,dN,.dict eN nN,lN⟩) (x4:(eN.toList.all λe=>match e.key with|.str _ _=>true|_=>false)=true) (x5:Qb K kG.ns "__init__"=some none) (y1:Qb K mainGlobals "TooLong"=some (some (.ref TL))) (y2:K.lookup TL=some ⟨.type "type",dT,.cls kT,lT⟩) (y3:kT.mro=.ref TL::.ref GE::VE)
  (y4:lT.toList=[j0,j1,j2,j3,some (.builtin "ValueError.__new__"),j5]) (y5:kT.hasDel=false) (y6:K.lookup kT.ns=some ⟨cM,dM,.dict eM nM,lM⟩) (y7:(eM.toList.all λe=>match e.key with|.str _ _=>true|_=>false)=true) (y8:Qb K kT.ns "__init__"=some none) (y9:PySem.W.typeIn K (.ref TL)=some (.type "type")) (yf:Sa K (.ref TL) (.ref TL)=some true) (yg:Sa K (.ref TL) (.type "BaseException")=some true) (m0:Qb K mainGlobals "Machine"=some (some (.ref AM))) (m1:T7 K AM Str.empty=true) (m2:U6 K AM=true)
  (m3:Wg K AM=true) (m4:Qj K (.ref AM) "__setattr__"=some (some (.builtin "object.__setattr__"))) (m5:Wq K AM=true) (m6:Rm K (.ref AM)=true) (m7:Qj K (.ref AM) "forms"=some none) (m8:Qj K (.ref AM) "rows"=some none) (m9:Qj K (.ref AM) "waiting"=some none) (ma:Qj K (.ref AM) "things"=some none) (mb:Qj K (.ref AM) "steps"=some none) (h1:Gm K AM "__init__" "Machine.__init__" Lf g1) (h2:Gm K AM "make_steps" "Machine.make_steps" Jg g2)
  (h3:Gm K AM "new_row" "Machine.new_row" Ko g3) (h4:Gm K AM "thing_of_leaf" "Machine.thing_of_leaf" Kb g4) (h5:Gm K AM "come_to" "Machine.come_to" Jp g5) (h6:Gm K AM "taken_things" "Machine.taken_things" Ku g6) (h7:Gm K AM "go_further" "Machine.go_further" Lw g7) (h8:Gm K AM "thing_at_the_end" "Machine.thing_at_the_end" J4 g8) (h9:Gm K AM "thing_of_form" "Machine.thing_of_form" Kv g9) (h10:Gm K AM "thing_of_parts" "Machine.thing_of_parts" Ki g10)
  (h11:Gm K AM "go_within" "Machine.go_within" K4 g11) (h12:Gm K AM "is_function" "Machine.is_function" Lr g12) (h13:Gm K AM "call" "Machine.call" Md g13) :
  ∃fd:FuncData,(∀(s:Shared)(v:Value),BindsTo s fd ⟨[v],[]⟩ [("_law_script",v)])/\∀base:Heap,K.In base->base.Ns mainGlobals mg->FnOk l.prog w K mg base Aq 204 fa fd ["_law_script"] (Zc0 K):=by
 obtain⟨aL,fd,FL⟩:=a36;have e:=hfa.symm.trans (Vq X G aL);cases e;have FX:=FL;obtain⟨_,_,kV,cj,pm,an,ck,ct,_,ef,_,_⟩:=FL.ex;refine⟨fd,λs v=>by rw[ef];exact .of_eq rfl,λbase _ _=>?_⟩;have gl:=λ{n v}=>@Vq K h mg n v X G;have no:=λ{n}=>@PySem.W.mg_none_of K h mg n X G;have T:Txt K mg:=⟨no z1,no z2,no z3,no z4,no z5,no z6,no z7,no z8,no z9,no z10,no z11,no z12,no z13,no z14⟩;have bx:Eu mg "MOST_STEPS" (.int 500):=⟨_,gl b1,⟨_,rfl⟩⟩;have ce:Eu mg "WORDS_WITH_AROUND" (.ref wa):=⟨_,gl b2,rfl⟩;have cc:=Hc b3 b4 (by decide);have bp:Eu mg "PARTS_AWAITED" (.ref pa):=⟨_,gl b5,rfl⟩;have bn:Gq l.prog w K pa (Hx t1 t2 t3 t4 t5 t6):=Zoi b6 b7 b8 Znx;have bo:=Zqz (K:=K) (Hc gt1 gu1 (by decide)) (Hc gt2 gu2 (by decide)) (Hc gt3 gu3 (by decide)) (Hc gt4 gu4 (by decide)) (Hc gt5 gu5 (by decide)) (Hc gt6 gu6 (by decide));obtain⟨tG,iG⟩:=Zu5 x2 (by unfold Ta;rw[x3];show(eN.all λe=>match e.key with|.str _ _=>true|_=>false)=true;rw[<- Array.all_toList];exact x4) x5;have cf:=Ztd y2 y3 y4 y5 tG (by unfold Ta;rw[y6];show(eM.all λe=>match e.key with|.str _ _=>true|_=>false)=true;rw[<- Array.all_toList];exact y7) y8;have br:=gl y1;have bu:Lh K TL:=⟨y9,by unfold Td;rw[y2];rfl,yg⟩;have bw:Cls K AM:=⟨m1,m2,m3,m4⟩;have Y:Mc K AM:=⟨bw,m7,m8,m9,ma,mb⟩;have me:=λ{CX k n q st f ps sp}=>@met l.prog w K mg base n q st f AM k ps sp CX bw;have Z:=λ{k n st f ps sp}=>@cal l.prog w K mg base h X G n st f k ps sp;have cx:=λ{k n st f ps sp}=>@calx l.prog w K mg base h X G n st f k ps sp;have be:=Z a1 λ_ F=>Zve F T;have ah:=Z a2 λ_ F=>Zq0 F T;have bb:=Z a3 λ_ F=>Zk7 F T be;have U:=Z a4 λ_ F=>Znv F T bb;have bi:=Z a5 λ_ F=>Zon F T U;have ay:=Z a6 λ_ F=>Zlg F T;have bh:=Z a7 λ_ F=>Zr8 F T U ay;have ad:=Z a8 λ_ F=>Zt2 F T;have am:=Z a9 λ_ F=>Zqv F T;have aj:=Z a10 λ_ F=>Zor F T;have al:=Z a11 λ_ F=>Ziw F T;have bf:=Z a12 λ_ F=>Ztw F T;have aa:=Z a13 λ_ F=>Ztm F T;have M1:=me h2 λ_ F=>Zp0 F T Y bx;have M2:=me h3 λ_ F=>Zl1 F T Y ce cc;have M3:=me h4 λ_ F=>Zk5 F T Y M2;have M5:=me h6 λ_ F=>Ztf F T Y;have MW:=me h11 λ_ F=>Zsf F T Y aj;have MI:=me h12 λ_ F=>Zpu F T Y am;have cb:=me h13 λ_ F=>Zmb F T Y MW;have M6:=me h7 λ_ F=>Zm0 F T Y bp bn bo M5 M2 MW cb MI al bf;have cg:=me h2 λ_ F=>Znj F T Y bx cf br;have ch:=me h5 λ_ F=>Zrc (Zjd (Zrw F T Y bp bn bo M1 M3)) (Zso F T Y bp bn bo cg M3);have bt:=me h8 λ_ F=>Zrz F T Y ch M6;have b9:=me h9 λ_ F=>Zit F T Y bt;have b0:=me h9 λ_ F=>Zrn (Zit F T Y bt);have ci:=me h10 λ_ F=>Zut (Zu3 F T Y bt);have bv:Og Aq l.prog w K mg base 2 "Machine" AM ["self","tree","steps"] (Nd K AM):=by
  obtain⟨a,i,fd,F⟩:=h1;exact⟨g1,fd,Zkj F T Y ah M1,⟨m5,a,i,m6⟩,gl m0,F.binds (by walk_at "bi")⟩
 have ag:=cx a14 λ_ F=>Zop F T Y bp bn bo aa M2 b0 ci;have bj:=cx a15 λ_ F=>Zj0 F T Y ad bi bh aa ag bv;have bq:=cx a16 λ_ F=>Zq7 F T Y bv b9;have ac:=Z a17 λ_ F=>Zlo F T;have I:=Z a18 λ_ F=>Zri F T;have ax:=Z a19 λ_ F=>ZZg (S:=He K) (c:=1) (by rintro vs H Q E ⟨x,y,d,m,_,h,_⟩;exact absurd h (Vj _)) (λn=>Ziz F T) (λn h=>J0 h (gl a19.1) F.kp (F.binds (by walk_at "bi"))) 7;have ap:=Z a20 λ_ F=>Zst F T I;have ao:=Z a21 λ_ F=>Zjm F T;have af:=Z a22 λ_ F=>Zs3 F T ac;have ba:=Z a23 λ_ F=>ZZg (S:=Hq K) (c:=1) (by rintro vs H Q E ⟨_,_,_,_,_,_,h,_⟩;exact absurd h (Vj _)) (λn=>Zot F T) (λn h=>J0 h (gl a23.1) F.kp (F.binds (by walk_at "bi"))) 31;have bg:=Z a24 λ_ F=>Zu7 F T ao;have aw:=Z a25 λ_ F=>ZZg (S:=Ih K) (c:=3) (by rintro vs H Q E ⟨_,_,_,_,_,_,_,_,_,_,h1,h2,_⟩;lia) (λn=>Zrf F T I bg) (λn h=>J0 h (gl a25.1) F.kp (F.binds (by walk_at "bi"))) 20;have O:=Z a26 λ_ F=>Zog F T;have ak:=Z a27 λ_ F=>Zq9 F T O;have j:=Z a28 λ_ F=>Zua F T O ak;have ae:=Z a29 λ_ F=>Zvf F T bq bu br yf;have aq:=Z a30 λ_ F=>Zuw F T bj bu br yf;have av:=Z a31 λ_ F=>Zt0 F T;have ai:=Z a32 λ_ F=>ZZg (S:=Hb K) (c:=1) (by rintro vs H Q E ⟨_,_,_,_,_,_,_,_,_,_,h,_⟩;exact absurd h (Vj _)) (λn=>Ztc F T) (λn h=>J0 h (gl a32.1) F.kp (F.binds (by walk_at "bi"))) 201;have a0:=Z a33 λ_ F=>ZZg (S:=Ht K) (c:=1) (by rintro vs H Q E ⟨_,t,_,_,_,_,_,_,_,_,_,_,h,_⟩;cases t;rw[Tr.size]at h;lia) (λn=>Zna F T) (λn h=>J0 h (gl a33.1) F.kp (F.binds (by walk_at "bi"))) 200;have as:=Z a34 λ_ F=>Zuf F T;have au:=Z a35 λ_ F=>Zrg F T ai ae av aq ax j as;exact Zun FX T ac I ap aw af ba a0 ae j au
theorem walk {l:Ws}{q:Program}{loose:List Str}{XP:(Str->Option Value)->Heap->Prop}{YP:World->Heap->Prop}{d:DefRec}{K:Params->Pg}(hn:l.most=some 63)(hdf:d.params.defaults=[])
  (hY:∀(w:World)(h:Heap),YP w h->(K w.params).In h)
  (F:∀(w:World)(mg:Str->Option Value)(fa:Addr)(h:Heap),(K w.params).In h->h.Ns mainGlobals mg->mg d.name=some (.ref fa) ->
   ∃fd:FuncData,(∀(s:Shared)(u:Value),BindsTo s fd ⟨[u],[]⟩ [("_law_script",u)])/\∀base:Heap,(K w.params).In base->base.Ns mainGlobals mg->FnOk l.prog w (K w.params) mg base Aq 204 fa fd ["_law_script"] (Zc0 (K w.params))) :
  PySem.W.WalkO q loose XP YP l.row.toRowW d [] (λf vs=>PySem.call f vs) :=
 L2.walk_of (n:=63) (k:=204) (x:="_law_script") (CX:=λ_=>Aq) (sp:=λw=>Zc0 (K w.params)) hn (by decide) hdf ⟨rfl,by decide,by decide⟩ hY F (λ_ _ a ns I _ j=>⟨a,ns,rfl,j,I,λ_=>rfl⟩) λ_ _ _ _ _ z=>z
end K53
open PySem PySem.W PyProof.Rows
set_option maxRecDepth 100000 in
set_option maxHeartbeats 0 in
theorem PySem.Challenge.cw_gapscribe_k53_whole_going_on_is_the_run_holds : PySem.Challenge.rw_gapscribe_k53_whole_going_on_is_the_run.Holds := by
 w_on; o_law; o_head (PySem.W.kHook K53.KK K53.KA (λ_=>by kernel_rfl)); (case hw=>w_witness2)
 k_fill
 refine K53.walk (l:=PySem.Challenge.rw_gapscribe_k53_whole_going_on_is_the_run) rfl rfl (λw h Y=>PySem.W.kIn_of Y) ?F
 case F =>
  intro w mg O h I G j;refine' K53.all_mk I G j ?a1 ?a2 ?a3 ?a4 ?a5 ?a6 ?a7 ?a8 ?a9 ?a10 ?a11 ?a12 ?a13 ?a14 ?a15 ?a16 ?a17 ?a18 ?a19 ?a20 ?a21 ?a22 ?a23 ?a24 ?a25 ?a26 ?a27 ?a28 ?a29 ?a30 ?a31 ?a32 ?a33 ?a34 ?a35 ?a36 ?z1 ?z2 ?z3 ?z4 ?z5 ?z6 ?z7 ?z8 ?z9 ?z10 ?z11 ?z12 ?z13 ?z14 ?b1 ?b2 ?b3 ?b4 ?b5 ?b6 ?b7 ?b8 ?gt1 ?gu1 ?gt2 ?gu2 ?gt3 ?gu3 ?gt4 ?gu4 ?gt5 ?gu5 ?gt6 ?gu6 ?x1 ?x2 ?x3 ?x4 ?x5 ?y1 ?y2 ?y3 ?y4 ?y5 ?y6 ?y7 ?y8 ?y9 ?yf ?yg ?m0 ?m1 ?m2 ?m3 ?m4 ?m5 ?m6 ?m7 ?m8 ?m9 ?ma ?mb ?h1 ?h2 ?h3 ?h4 ?h5 ?h6 ?h7 ?h8 ?h9 ?h10 ?h11 ?h12 ?h13
  (case a1=>walk_at "gd")
  (case a2=>walk_at "gd")
  (case a3=>walk_at "gd")
  (case a4=>walk_at "gd")
  (case a5=>walk_at "gd")
  (case a6=>walk_at "gd")
  (case a7=>walk_at "gd")
  (case a8=>walk_at "gd")
  (case a9=>walk_at "gd")
  (case a10=>walk_at "gd")
  (case a11=>walk_at "gd")
  (case a12=>walk_at "gd")
  (case a13=>walk_at "gd")
  (case a14=>walk_at "gd")
  (case a15=>walk_at "gd")
  (case a16=>walk_at "gd")
  (case a17=>walk_at "gd")
  (case a18=>walk_at "gd")
  (case a19=>walk_at "gd")
  (case a20=>walk_at "gd")
  (case a21=>walk_at "gd")
  (case a22=>walk_at "gd")
  (case a23=>walk_at "gd")
  (case a24=>walk_at "gd")
  (case a25=>walk_at "gd")
  (case a26=>walk_at "gd")
  (case a27=>walk_at "gd")
  (case a28=>walk_at "gd")
  (case a29=>walk_at "gd")
  (case a30=>walk_at "gd")
  (case a31=>walk_at "gd")
  (case a32=>walk_at "gd")
  (case a33=>walk_at "gd")
  (case a34=>walk_at "gd")
  (case a35=>walk_at "gd")
  (case a36=>walk_at "gd")
  (case z1=>k_is)
  (case z2=>k_is)
  (case z3=>k_is)
  (case z4=>k_is)
  (case z5=>k_is)
  (case z6=>k_is)
  (case z7=>k_is)
  (case z8=>k_is)
  (case z9=>k_is)
  (case z10=>k_is)
  (case z11=>k_is)
  (case z12=>k_is)
  (case z13=>k_is)
  (case z14=>k_is)
  (case b1=>k_is)
  (case b2=>k_is)
  (case b3=>k_is)
  (case b4=>rfl)
  (case b5=>k_is)
  (case b6=>k_is)
  (case b7=>rfl)
  (case b8=>(repeat (first|exact .nil|refine .cons rfl ?_)))
  (case gt1=>k_is)
  (case gu1=>rfl)
  (case gt2=>k_is)
  (case gu2=>rfl)
  (case gt3=>k_is)
  (case gu3=>rfl)
  (case gt4=>k_is)
  (case gu4=>rfl)
  (case gt5=>k_is)
  (case gu5=>rfl)
  (case gt6=>k_is)
  (case gu6=>rfl)
  (case x1=>k_is)
  (case x2=>k_is)
  (case x3=>k_is)
  (case x4=>rfl)
  (case x5=>k_is)
  (case y1=>k_is)
  (case y2=>k_is)
  (case y3=>rfl)
  (case y4=>rfl)
  (case y5=>rfl)
  (case y6=>k_is)
  (case y7=>rfl)
  (case y8=>k_is)
  (case y9=>k_is)
  (case yf=>k_is)
  (case yg=>k_is)
  (case m0=>k_is)
  (case m1=>k_is)
  (case m2=>k_is)
  (case m3=>k_is)
  (case m4=>k_is)
  (case m5=>k_is)
  (case m6=>k_is)
  (case m7=>k_is)
  (case m8=>k_is)
  (case m9=>k_is)
  (case ma=>k_is)
  (case mb=>k_is)
  (case h1=>walk_at "gm")
  (case h2=>walk_at "gm")
  (case h3=>walk_at "gm")
  (case h4=>walk_at "gm")
  (case h5=>walk_at "gm")
  (case h6=>walk_at "gm")
  (case h7=>walk_at "gm")
  (case h8=>walk_at "gm")
  (case h9=>walk_at "gm")
  (case h10=>walk_at "gm")
  (case h11=>walk_at "gm")
  (case h12=>walk_at "gm")
  (case h13=>walk_at "gm")
#print axioms PySem.Challenge.cw_gapscribe_k53_whole_going_on_is_the_run_holds
