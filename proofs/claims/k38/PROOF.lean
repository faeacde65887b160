import PyProof.Rows.All
import Wide.All
import OpenK.AllK
import Wide.FinOn
import Lean
import PyProof.EqAt
import PyProof.EqKinds
import PyProof.TupleCall
import PyProof.StrBlock2
import KE.KDictOf
import PyProof.AttrMissHeap
import KE.KRevSl
import KE.KDictSum
import PyProof.Rows.SortStr
import PySem.Challenge.RW_gapscribe_k38_looks_by_own_solving
set_option compiler.extract_closed false
set_option bootstrap.genMatcherCode false
set_option genSizeOfSpec false
set_option Elab.async false
set_option linter.all false
set_option maxRecDepth 100000
open Array renaming length_toList->T8
open Bool renaming false_ne_true->P5,and_eq_true->R3,eq_iff_iff->So,false_eq_true->Ue,or_false->Vs
open Classical renaming choose_spec->Ri,byContradiction->V8,choose->Uh
open False renaming elim->Ry
open Int renaming emod_lt_of_pos->Sl,toNat_natCast->Sm,emod_nonneg->Sq
open List renaming getElem?_eq_getElem->Pj,getElem?_eq_some_iff->Pq,size_toArray->Po,length_append->Pr,length_map->Pp,mem_cons->Pm,mem_singleton->Py,length_cons->Pw,range->Pn,getElem?_append_left->Qh,getElem?_append_right->Qk,getD_eq_getElem?_getD->Qm,length_singleton->Qg,not_mem_nil->P6,mem_append->P3,length_take->Qb,getElem?_map->Qf,mem_cons_of_mem->Qo,eq_nil_of_length_eq_zero->Re,append_assoc->Qi,mem_of_getElem?->Qu,append_nil->Qj,drop_eq_getElem_cons->Rn,length_set->Qp,mem_append_right->Rh,map_append->Qv,take_of_length_le->Rp,take_succ->Qq,getElem?_eq_none->Rq,mem_append_left->Rr,getElem_mem->Q4,prefix_rfl->Qz,prefix_append->Rj,take_length->Q9,mem_range->Q0,replicate->Q1,getElem?_set_self->R4,append_inj'->Rk,map_cons->Q3,cons_append->Ru,length->Qx,eq_nil_or_concat->Sg,concat_eq_append->Si,mem_map->Q7,foldl_append->R8,lookup_cons->R9,all_eq_true->Sa,nodup_cons->Sb,foldl_cons->Sd,drop_of_length_le->Tx,getElem?_mapIdx->T7,take_add_one->Tf,replicate_succ->Ua,length_reverse->Ub,mem_cons_self->Uc,forIn_cons->Ti,find?_cons->Tk,flatten_cons->Uf,getElem?_set_ne->Vb,length_drop->Ug,reverse_append->Vd,of_mem_zip->Ui,nil_append->Uj,getElem?_cons_succ->V9,zip_nil_left->Vg,length_range->Vh,forIn_nil->Up,drop_zero->Uq,take_append_drop->Wa,getElem_map->Vk,any_cons->Ut,dropLast_concat_getLast->W9,filterMap_cons->We,flatMap_append->Wf,idxOf_lt_length_of_mem->Xb,getElem_of_mem->Wg,length_mapIdx->Wm,getElem_range->Wn,nodup_nil->Vq,flatMap_cons->Ws,ext_getElem?->Wu,all_cons->Vt,ext_getElem->Ww,drop_length->Wx,mem_filter->Wz,length_nil->W1,map_map->V2,range_succ->W2,zipWith->V3
open Nat renaming le_refl->Pk,lt_of_lt_of_le->Qa,ne_of_lt->P4,zero_le->P8,le_trans->Qn,lt_irrefl->Q2,not_lt_zero->Rv,ne_of_gt->Rb,zero_add->Rc,lt_succ_self->Tg,le_add_right->Th,sub_self->Sf,min_eq_left->Um,lt_succ_of_lt->Vf,le_succ->Tp,sub_zero->Uv,le_of_lt->Vv,succ_pos->V0
open Ne renaming symm->Ql
open Option renaming isSome_iff_exists->Rz,map_some->Vp,isSome_map->Wt
open Option.some renaming inj->Pz
open PyProof.Rows renaming callWith_type1->Rg,slot_tuple_getitem->Sw,boot_enumerate->Xa,assignInOrder_cons->Wj
open PySem renaming wpAny_bind->Pi,wpAny_pure->Pl,wpAny_field->P9,wpAny_callSpecial?_slot->Ro,wpAny_setField_rec->Rs,wpAny_call_entry->Rt,wpAny_seqItems->Rl,wpAny_holding->Ra,wpAny_truthy_bool->R6,wpAny_newObj_type->R7,mem_of_lookup->Sj,builtinLookup_eq_fast->Ta,tupleKind_room_in1->Tc,wpAny_passesOwn->Sn,wpAny_getItem_str_slice->U5,wpAny_pyIter_tuple->Ud,typeLookup_type->Tj,wpAny_attempt->Tl,wpAny_specialOf->Uk,wpAny_updateSeq->Ul,Params->To,noFill_tuple_add->Vi,wpAny_isInstance->Vj,wpAny_pyIter_revIter->Wc,wpAny_updateSeq_pair->Wd,wpAny_standAt->Us,plainId_quiet->Uu,call_meets->Sr,wpAny_execs_nil->Vl,post_val_or_str->Vn,codeAny_builtin->Vo,wpAny_Call_Name_kw->Wk,wpAny_mono->Ts,wpAny_rule->Tt,wpAny_pyIter_enum->Wq,Stmt->Tu,seq_tuple_add->Vr,wpAny_onRaise->Vu,wpAny_pyIter_zip->Wv,concat_meets->Vw,wpAny_typeOf->Vx,revObj->Vz,call_meetsIn->V1,wpAny_letGo->V5
open PySem.Around renaming under_plainId->Vc
open PySem.AutoSeq1 renaming wpAny_loadPart'->Uz
open PySem.Builtin.List renaming listTooLong->Sx,listLengthHint->Tv,listExtendWith->V6
open PySem.Builtin.Slice renaming slicePlaces->U1,sliceAdjust->V7
open PySem.Builtin.SmallTypes renaming ownedTupleIsFree->Rm,nextOf->Q8,ownedTupleHandOut->W3
open PySem.Builtin.Tuple renaming tupleExact->U3
open PySem.Calls renaming spliced_cons->Sk,spliced_nil->Te,callWith_builtin->U8,evalArgs_plain->Wb
open PySem.Challenge renaming pw_gapscribe_k38_looks_by_own_solving->Sv
open PySem.Draws renaming list->Ss
open PySem.F renaming plainAttrs_list->Qd,slot_list_append->Qs,type_list_append->Qt,slot_zip_next->R5,slot_tuple_iterator_next->Uy,plain_extend_loop->Tw,slot_dict_get->Tb,slot_enumerate_next->U0,slot_list_pop->Tz,type_list_pop->T0,args_tuple_add_2->U2,entry_tuple_add->U4,args_zip_next_1->U6,slot_tuple_add->U7,entry_zip_next->U9,entry_dict_get->Va,args_tuple_iterator_next_1->W4,entry_tuple_iterator_next->W5,args_enumerate_next_1->W6,entry_enumerate_next->W7
open PySem.Heap renaming get?_push_of_some->Px,lt_size->Pt,get?_push_size->Qe,SameBut->P7,size_push->Q6,get?_update_other->Sz,get?_update_self->S9,ExtBut->Tq
open PySem.Obj renaming mapSeq->Qy
open PySem.Paired renaming length->Ur
open PySem.PassesOwn renaming never->Qc
open PySem.SeqAt renaming EqAt->P0,RcAt->Uw
open PySem.SeqAt.EqAt renaming int_int->Ve,same->Vm,int_str->Wh,str_int->Wi,of_refs->Wl
open PySem.SeqAt.RcAt renaming tuples->Wr
open PySem.Str renaming ofString->Qw
open PySem.Txt renaming slice_le->Vy,slice->Ux
open PySem.W renaming Frag->Ph,kia_one->Q5,nsIn->Qr,kitOne->Rx,fnOf->Se,keepIn->Uo,BT->Su,methodObj->Wo,kitx_list->Wp,instObj->Wy,OpenLaw->W0
open Sum.inl renaming inj->V4
inductive eX3 {T0 T1 T2:Type}(p:T0->T1->T2->Prop):Prop
 |mk (x0:T0)(x1:T1)(x2:T2)(h:p x0 x1 x2)
inductive eX4 {T0 T1 T2 T3:Type}(p:T0->T1->T2->T3->Prop):Prop
 |mk (x0:T0)(x1:T1)(x2:T2)(x3:T3)(h:p x0 x1 x2 x3)
inductive eX5 {T0 T1 T2 T3 T4:Type}(p:T0->T1->T2->T3->T4->Prop):Prop
 |mk (x0:T0)(x1:T1)(x2:T2)(x3:T3)(x4:T4)(h:p x0 x1 x2 x3 x4)
inductive eX6 {T0 T1 T2 T3 T4 T5:Type}(p:T0->T1->T2->T3->T4->T5->Prop):Prop
 |mk (x0:T0)(x1:T1)(x2:T2)(x3:T3)(x4:T4)(x5:T5)(h:p x0 x1 x2 x3 x4 x5)
inductive eX7 {T0 T1 T2 T3 T4 T5 T6:Type}(p:T0->T1->T2->T3->T4->T5->T6->Prop):Prop
 |mk (x0:T0)(x1:T1)(x2:T2)(x3:T3)(x4:T4)(x5:T5)(x6:T6)(h:p x0 x1 x2 x3 x4 x5 x6)
inductive eX8 {T0 T1 T2 T3 T4 T5 T6 T7:Type}(p:T0->T1->T2->T3->T4->T5->T6->T7->Prop):Prop
 |mk (x0:T0)(x1:T1)(x2:T2)(x3:T3)(x4:T4)(x5:T5)(x6:T6)(x7:T7)(h:p x0 x1 x2 x3 x4 x5 x6 x7)
inductive eX9 {T0 T1 T2 T3 T4 T5 T6 T7 T8:Type}(p:T0->T1->T2->T3->T4->T5->T6->T7->T8->Prop):Prop
 |mk (x0:T0)(x1:T1)(x2:T2)(x3:T3)(x4:T4)(x5:T5)(x6:T6)(x7:T7)(x8:T8)(h:p x0 x1 x2 x3 x4 x5 x6 x7 x8)
inductive eX13 {T0 T1 T2 T3 T4 T5 T6 T7 T8 T9 T10 T11 T12:Type}(p:T0->T1->T2->T3->T4->T5->T6->T7->T8->T9->T10->T11->T12->Prop):Prop
 |mk (x0:T0)(x1:T1)(x2:T2)(x3:T3)(x4:T4)(x5:T5)(x6:T6)(x7:T7)(x8:T8)(x9:T9)(x10:T10)(x11:T11)(x12:T12)(h:p x0 x1 x2 x3 x4 x5 x6 x7 x8 x9 x10 x11 x12)
inductive eX14 {T0 T1 T2 T3 T4 T5 T6 T7 T8 T9 T10 T11 T12 T13:Type}(p:T0->T1->T2->T3->T4->T5->T6->T7->T8->T9->T10->T11->T12->T13->Prop):Prop
 |mk (x0:T0)(x1:T1)(x2:T2)(x3:T3)(x4:T4)(x5:T5)(x6:T6)(x7:T7)(x8:T8)(x9:T9)(x10:T10)(x11:T11)(x12:T12)(x13:T13)(h:p x0 x1 x2 x3 x4 x5 x6 x7 x8 x9 x10 x11 x12 x13)
local macro_rules | `(tactic| right)=>`(tactic| decide +kernel)
namespace L2
open PySem PySem.Spec PyProof.Rows
theorem zBzQ {p:Prop}(h:p:=by first|exact .inl rfl|exact .inr rfl|assumption):p:=h
def zQ:=zBzQ._auto_1
theorem zBzW {p:Prop}(h:p:=by decide):p:=h
def zW:=zBzW._auto_1
theorem zBzE {p:Prop}(h:p:=by intro _;rfl):p:=h
def zE:=zBzE._auto_1
theorem zBzX {p:Prop}(h:p:=by rfl):p:=h
def zX:=zBzX._auto_1
noncomputable abbrev Av:=Sum Int Str
noncomputable def Jf:Av->Value->Bool
 |.inl k,v=>Value.isInt k v
 |.inr x,v=>Value.isStrOf x v
noncomputable def keyH (w:World):Av->Int
 |.inl k=>hashInt k
 |.inr x=>hashStr w x
theorem F4:∀{k:Av}{v:Value},Jf k v=true->(∃i t,k=Sum.inl i/\v=Value.int i t)\/(∃x t,k=Sum.inr x/\v=Value.str x t)
 |.inl i,v,h=>by
  obtain⟨t,e⟩:=Value.isInt_shape (k:=i) (v:=v) h;exact .inl ⟨i,t,rfl,e⟩
 |.inr x,v,h=>by
  obtain⟨t,e⟩:=Value.isStrOf_shape (x:=x) (v:=v) h;exact .inr ⟨x,t,rfl,e⟩
theorem Zss (i:Int)(t:Tok):Jf (.inl i) (.int i t)=true:=by simp[Jf,Value.isInt]
theorem Zni (x:Str)(t:Tok):Jf (.inr x) (.str x t)=true:=by simp[Jf,Value.isStrOf]
theorem Zod (a b:Int):decide ((Sum.inl a:Av)=Sum.inl b)=(a == b):=by
 by_cases e:a=b
 ·subst e;simp
 ·have h:¬(Sum.inl a:Av)=Sum.inl b:=λq=>e (V4 q);rw[decide_eq_false h];exact(beq_eq_false_iff_ne.mpr e).symm
theorem Zr1 (a b:Str):decide ((Sum.inr a:Av)=Sum.inr b)=decide (a=b):=by
 by_cases e:a=b
 ·subst e;simp
 ·have h:¬(Sum.inr a:Av)=Sum.inr b:=λq=>e (Sum.inr.inj q);rw[decide_eq_false h,decide_eq_false e]
theorem Zpq (a:Int)(b:Str):decide ((Sum.inl a:Av)=Sum.inr b)=false:=decide_eq_false (λq=>nomatch q)
theorem Zsy (a:Str)(b:Int):decide ((Sum.inr a:Av)=Sum.inl b)=false:=decide_eq_false (λq=>nomatch q)
noncomputable def C3 (prog:Program)(w:World):PySem.KeyKind prog w Av where
 is:=Jf
 hash:=keyH w
 inj:=λv a b ha hb=>by
  rcases F4 ha with⟨i,t,rfl,rfl⟩|⟨x,t,rfl,rfl⟩
  ·rcases F4 hb with⟨j,u,rfl,e⟩|⟨y,u,rfl,e⟩
   ·injection e with e1 _;rw[e1]
   ·exact nomatch e
  ·rcases F4 hb with⟨j,u,rfl,e⟩|⟨y,u,rfl,e⟩
   ·exact nomatch e
   ·injection e with e1 _;rw[e1]
 byValue:=λk v h=>by
  rcases F4 h with⟨i,t,rfl,rfl⟩|⟨x,t,rfl,rfl⟩ <;> rfl
 pyHash:=λF h=>by
  rcases F4 F with⟨i,t,rfl,rfl⟩|⟨x,t,rfl,rfl⟩
  ·exact wpAny_pyHash_int h
  ·exact wpAny_pyHash_str h
 eqBool:=λI F h=>by
  rcases F4 I with⟨i,t,rfl,rfl⟩|⟨x,t,rfl,rfl⟩
  ·rcases F4 F with⟨j,u,rfl,rfl⟩|⟨y,u,rfl,rfl⟩
   ·rw[Zod]at h;exact wpAny_eqBool_int h
   ·rw[Zpq]at h;exact Wh i t y u _ _ _ _ h
  ·rcases F4 F with⟨j,u,rfl,rfl⟩|⟨y,u,rfl,rfl⟩
   ·rw[Zsy]at h;exact Wi x t j u _ _ _ _ h
   ·rw[Zr1]at h;exact wpAny_eqBool_str h
 «strs»:=λk x t v h=>by
  rcases F4 h with⟨i,u,rfl,e⟩|⟨y,u,rfl,e⟩
  ·exact nomatch e
  ·injection e with e1 _;subst e1;cases v <;> rfl
theorem Zmr (prog:Program)(w:World)(i:Int)(t:Tok):(C3 prog w).is (.inl i) (.int i t)=true:=Zss i t
theorem Ztq (prog:Program)(w:World)(x:Str)(t:Tok):(C3 prog w).is (.inr x) (.str x t)=true:=Zni x t
inductive V where
 |non|bl (b:Bool)|int (i:Int)|str (x:Str)|byt (b:Array UInt8)|flt (b:UInt64)|ref (a:Addr)|ty (n:String)
 deriving DecidableEq
def RelV:V->Value->Prop
 |.non,u=>u=Value.none
 |.bl b,u=>u=Value.bool b
 |.int i,u=>∃t,u=Value.int i t
 |.str x,u=>∃t,u=Value.str x t
 |.byt b,u=>∃t,u=Value.bytes b t
 |.flt b,u=>∃t,u=Value.float b t
 |.ref a,u=>u=Value.ref a
 |.ty n,u=>u=Value.type n
noncomputable abbrev Vals:List V->List Value->Prop:=Paired RelV
theorem Vals.length (r:Vals xs us):xs.length=us.length:=Ur r
theorem Vals.get:∀{xs:List V}{us:List Value}{i:Nat}{x:V},Vals xs us->xs[i]?=some x->∃u,us[i]?=some u/\RelV x u
 |_,_,_,_,.nil,e=>by simp at e
 |_,_,0,_,.cons r _,e=>by simp at e;subst e;exact⟨_,rfl,r⟩
 |_,_,i+1,x,.cons _ t,e=>by
  obtain⟨u,h1,h2⟩:=Vals.get (i:=i) (x:=x) t (by simpa using e);exact⟨u,by simpa using h1,h2⟩
theorem Vals.set (r:RelV x u):∀{xs:List V}{us:List Value}(i:Nat),Vals xs us->Vals (xs.set i x) (us.set i u)
 |_,_,_,.nil=>.nil
 |_,_,0,.cons _ t=>.cons r t
 |_,_,i+1,.cons q t=>.cons q (Vals.set r i t)
theorem Vals.append:∀{xs ys:List V}{us ws:List Value},Vals xs us->Vals ys ws->Vals (xs++ys) (us++ws)
 |_,_,_,_,.nil,s=>s
 |_,_,_,_,.cons r t,s=>.cons r (Vals.append t s)
theorem Vals.take:∀{xs:List V}{us:List Value}(n:Nat),Vals xs us->Vals (xs.take n) (us.take n)
 |_,_,0,_=>.nil
 |_,_,_+1,.nil=>.nil
 |_,_,n+1,.cons r t=>.cons r (Vals.take n t)
theorem Vals.drop:∀{xs:List V}{us:List Value}(n:Nat),Vals xs us->Vals (xs.drop n) (us.drop n)
 |_,_,0,r=>r
 |_,_,_+1,.nil=>.nil
 |_,_,n+1,.cons _ t=>Vals.drop n t
def RelO:Option V->Option Value->Prop
 |some v,some u=>RelV v u
 |none,none=>True
 |_,_=>False
def KV {κ:Type}:List (κ×V)->List (κ×Value)->Prop:=Paired λ(p:κ×V) (q:κ×Value)=>p.1=q.1/\RelV p.2 q.2
noncomputable def kV:Av->V
 |.inl i=>.int i
 |.inr x=>.str x
inductive HO where
  |lst (xs:List V)
  |tup (xs:List V)
  |dK (kvs:List (Av×V))|dT (kvs:List (List Av×V))
  |set (S:Int->Bool) (n:Nat)
  |ins (C dx:Addr) (fs:List (Str×V))
  |own (x:Addr)
  |xd (fs:List (Str×V))
  |met (f x:Addr)
  |rng (lo hi:Int)
  |frz (o:Obj) (u:HO)
  |tbl (ps:Array Value)
  |ext (φ:Heap->Prop)
noncomputable abbrev Hp:=Addr->Option HO
noncomputable def upd (H:Hp)(a:Addr)(o:HO):Hp:=λb=>if b=a then some o else H b
theorem Ac:upd H a o a=some o:=by unfold upd;rw[if_pos rfl]
theorem Ai (h:b≠a):upd H a o b=H b:=by unfold upd;rw[if_neg h]
theorem Zb1:upd (upd H a o) a u=upd H a u:=by
 funext b;unfold upd;split <;> rfl
theorem Fs {H:Hp}{a b:Addr}{o u:HO}(h:H a=some o)(h':H b=some u)(d:o≠u):a≠b:=by
 intro e;subst e;rw[h]at h';exact d (Pz h')
theorem A6 {H:Hp}{a b:Addr}{o:HO}(h:H a=some o)(h':H b=none):a≠b:=by
 intro e;subst e;rw[h]at h';cases h'
section
variable (P:Program)(w:World)
def ObjOk (H:Hp)(h:Heap)(a:Addr):HO->Prop
 |.lst xs=>xs.length<=sizeLine/\∃(its:List Value)(n:Nat),Vals xs its/\h.get? a=some { cls:=.type "list",data:=.seq its.toArray n }
 |.tup xs=>xs.length<=sizeLine/\∃its:List Value,Vals xs its/\IsTup h a its.toArray
 |.dK kvs=>kvs.length<=sizeLine/\(a == sysModules)=false/\∃vs,KV kvs vs/\h.DictOf (C3 P w) a vs
 |.dT kvs=>kvs.length<=sizeLine/\(a == sysModules)=false/\∃xs:List (List Av×Addr×Value),
   Paired (λ(p:List Av×V) (q:List Av×Addr×Value)=>p.1=q.1/\H q.2.1=some (.tup (p.1.map kV))/\RelV p.2 q.2.2) kvs xs /\
   eX3 λo es ep=>h.get? a=some o/\o.ExactDict/\o.data=.dict es ep/\es.toList=xs.map (entryOfKey (tupleKind (C3 P w)))/\(xs.map (·.1)).Nodup
 |.set S n=>h.SetOf (intKind P w) a S n
 |.ins C dx fs=>H dx=some (.own a)/\fs.length<=1000/\dx≠a/\h.get? a=some (Wy C dx) /\
   ∃mA,h.Ns1 dx mA/\(∀f,RelO (fs.lookup f) (mA f))/\PySem.Within mA (fs.map (·.1))
 |.own _=>∃o,h.get? a=some o
 |.xd fs=>∃mA,h.Ns1 a mA/\∀f,RelO (fs.lookup f) (mA f)
 |.rng lo hi=>eX3 λt u v=>h.get? a=some { cls:=.type "range",data:=.fields #[.int lo t,.int hi u,.int 1 v] }
 |.frz o u=>h.get? a=some o/\ObjOk H h a u
 |.tbl ps=>h.get? a=some { cls:=.none,data:=.fields ps }
 |.met f x=>h.get? a=some (Wo (.ref f) (.ref x))
 |.ext φ=>φ h/\(∃o,h.get? a=some o)/\∀h1 h2:Heap,φ h1->(∀o,h1.get? a=some o->h2.get? a=some o)->φ h2
def HOk (H:Hp)(h:Heap):Prop:=∀a o,H a=some o->ObjOk P w H h a o
end
section
variable {P:Program}{w:World}{H H':Hp}{h h':Heap}{a:Addr}{o:HO}
theorem ObjOk.lt (x:ObjOk P w H h a o):a<h.objs.size:=by
 cases o with
 |lst xs=>obtain⟨_,_,_,_,e⟩:=x;exact Pt e
 |tup xs=>obtain⟨_,_,_,p⟩:=x;exact p.lt
 |dK kvs=>obtain⟨_,_,_,_,o,_,_,e,_⟩:=x;exact Pt e
 |dT kvs=>obtain⟨_,_,_,_,o,_,_,e,_⟩:=x;exact Pt e
 |set S n=>obtain⟨o,_,_,_,e,_⟩:=x;exact Pt e
 |ins C dx fs=>obtain⟨_,_,_,e,_⟩:=x;exact Pt e
 |own y=>obtain⟨_,e⟩:=x;exact Pt e
 |xd fs=>obtain⟨_,⟨_,_,_,e,_⟩,_⟩:=x;exact Pt e
 |rng lo hi=>obtain⟨_,_,_,e⟩:=x;exact Pt e
 |frz F u=>obtain⟨e,_⟩:=x;exact Pt e
 |tbl ps=>exact Pt (show h.get? a=some _ from x)
 |met f y=>exact Pt (show h.get? a=some _ from x)
 |ext φ=>obtain⟨_,⟨_,e⟩,_⟩:=x;exact Pt e
theorem Paired.mapP {α β:Type}{F G:α->β->Prop}:∀{l₁:List α}{l₂:List β},Paired F l₁ l₂->(∀a b,F a b->G a b)->Paired G l₁ l₂
 |_,_,.nil,_=>.nil
 |_,_,.cons r t,f=>.cons (f _ _ r) (Paired.mapP t f)
theorem ObjOk.stay (x:ObjOk P w H h a o)(k:∀b u,(b=a\/H b=some (.own a))->h.get? b=some u->h'.get? b=some u)
  (ho:∀b,H b=some (.own a)->H' b=some (.own a)) (ht:∀b xs,H b=some (.tup xs)->H' b=some (.tup xs)):ObjOk P w H' h' a o:=by
 induction o with
 |lst xs=>obtain⟨z,O,n,r,e⟩:=x;exact⟨z,O,n,r,k _ _ (.inl rfl) e⟩
 |tup xs=>obtain⟨z,O,r,F,e,c⟩:=x;exact⟨z,O,r,F,k _ _ (.inl rfl) e,c⟩
 |dK kvs=>obtain⟨z,y,vs,r,F,es,I,e,c⟩:=x;exact⟨z,y,vs,r,F,es,I,k _ _ (.inl rfl) e,c⟩
 |dT kvs =>
  obtain⟨z,y,xs,r,F,es,I,e,c⟩:=x;exact⟨z,y,xs,Paired.mapP r λp q z=>⟨z.1,ht _ _ z.2.1,z.2.2⟩,F,es,I,k _ _ (.inl rfl) e,c⟩
 |set S n=>obtain⟨F,es,I,t,e,c⟩:=x;exact⟨F,es,I,t,k _ _ (.inl rfl) e,c⟩
 |ins C dx fs =>
  obtain⟨d,z,ne,e,mA,⟨od,es,I,U,c⟩,r⟩:=x;exact⟨ho _ d,z,ne,k _ _ (.inl rfl) e,mA,⟨od,es,I,k _ _ (.inr d) U,c⟩,r⟩
 |own y=>obtain⟨F,e⟩:=x;exact⟨F,k _ _ (.inl rfl) e⟩
 |xd fs=>obtain⟨mA,⟨od,es,I,e,c⟩,r⟩:=x;exact⟨mA,⟨od,es,I,k _ _ (.inl rfl) e,c⟩,r⟩
 |rng lo hi=>obtain⟨t,u,v,e⟩:=x;exact⟨t,u,v,k _ _ (.inl rfl) e⟩
 |frz F u Y=>obtain⟨e,q⟩:=x;exact⟨k _ _ (.inl rfl) e,Y q⟩
 |tbl ps =>
  have e:h.get? a=some { cls:=.none,data:=.fields ps }:=x;show h'.get? a=some { cls:=.none,data:=.fields ps };exact k a _ (.inl rfl) e
 |met f y =>
  have e:h.get? a=some (Wo (.ref f) (.ref y)):=x;show h'.get? a=some (Wo (.ref f) (.ref y));exact k a _ (.inl rfl) e
 |ext φ=>obtain⟨p,⟨o,e⟩,st⟩:=x;exact⟨st _ _ p λo q=>k _ _ (.inl rfl) q,⟨o,k _ _ (.inl rfl) e⟩,st⟩
theorem HOk.lt (x:HOk P w H h)(e:H a=some o):a<h.objs.size:=(x a o e).lt
theorem HOk.fresh (x:HOk P w H h)(e:h.objs.size<=a):H a=none:=by
 cases q:H a with
 |none=>rfl
 |some u=>exact absurd (Qa (x.lt q) e) (Q2 _)
theorem HOk.kept (x:HOk P w H h)(k:∀b u,h.get? b=some u->h'.get? b=some u):HOk P w H h':=λa o e =>
 (x a o e).stay (λb u _ q=>k b u q) (λ_ q=>q) λ_ _ q=>q
theorem HOk.laid (x:HOk P w H h)(k:∀b u,h.get? b=some u->h'.get? b=some u)(hp:h.objs.size<=a)(new:ObjOk P w (upd H a o) h' a o):HOk P w (upd H a o) h':=λb u e=>by
 have F:=x.fresh hp;by_cases hb:b=a
 ·subst hb;rw[Ac]at e;cases e;exact new
 ·rw[Ai hb]at e;exact(x b u e).stay (λc v _ q=>k c v q) (λc q=>by rw[Ai (A6 q F)];exact q) λc xs q=>by rw[Ai (A6 q F)];exact q
end
def Rd (H:Hp)(a:Addr)(u:HO):Prop:=H a=some u\/∃o,H a=some (.frz o u)
theorem Rd.ok (r:Rd H a u)(x:HOk P w H h):ObjOk P w H h a u:=by
 rcases r with r|⟨o,r⟩
 ·exact x a u r
 ·obtain⟨_,q⟩:=x a _ r;exact q
def Mut:Option HO->Prop
 |some (.lst _)=>True
 |some (.dK _)=>True
 |some (.dT _)=>True
 |some (.set _ _)=>True
 |some (.ins _ _ _)=>True
 |some (.ext _)=>True
 |_=>False
section
variable {P:Program}{w:World}{H:Hp}{h h':Heap}{x e:Addr}{o':HO}
theorem HOk.write (ok:HOk P w H h)(mu:Mut (H x))(he:e=x\/H e=some (.own x))(k:∀b u,b≠e->h.get? b=some u->h'.get? b=some u)(heo:∃u,h'.get? e=some u)
  (new:ObjOk P w (upd H x o') h' x o'):HOk P w (upd H x o') h':=λb u q=>by
 have I:∀c y,H c=some (.own y)->c≠x:=λc y r z=>by subst z;rw[r]at mu;exact mu
 have O:∀c xs,H c=some (.tup xs)->c≠x:=λc xs r z=>by subst z;rw[r]at mu;exact mu
 by_cases hb:b=x
 ·subst hb;rw[Ac]at q;cases q;exact new
 ·rw[Ai hb]at q;by_cases F:b=e
  ·have U:H b=some (.own x):=by
    rcases he with z|z
    ·exact absurd (F.trans z) hb
    ·rw[F];exact z
   rw[q]at U;cases U;obtain⟨v,Y⟩:=heo;exact⟨v,by rw[F];exact Y⟩
  ·refine(ok b u q).stay (λc v hc r=>k c v ?_ r) (λc r=>by rw[Ai (I c b r)];exact r) λc xs r=>by rw[Ai (O c xs r)];exact r
   rcases hc with rfl|hc
   ·exact F
   ·rintro rfl;rcases he with z|z
    ·exact I c b hc z
    ·rw[hc]at z;cases z;exact hb rfl
end
structure Un (fs ex:List Addr)(H H':Hp)(h h':Heap):Prop where
 keep:∀b o,h.get? b=some o->H b=none->b ∉ fs->b ∉ ex->h'.get? b=some o
 slot:∀b o,h.get? b=some o->H b=none->b∈fs->b ∉ ex->∃sl,h'.get? b=some { o with slots:=sl }
 free:∀b o,h.get? b=some o->H b=none->b ∉ ex->H' b=none
 there:∀b o,h.get? b=some o->b ∉ ex->∃o',h'.get? b=some o'
 tups:∀b xs,H b=some (.tup xs)->H' b=some (.tup xs)
 frzs:∀b o u,H b=some (.frz o u)->H' b=some (.frz o u)
 tbls:∀b ps,H b=some (.tbl ps)->∃more,H' b=some (.tbl (ps++more))
section
variable {fs fs' ex ex':List Addr}{H H1 H2:Hp}{h h1 h2 h':Heap}{a x e:Addr}{o:HO}
theorem Un.any (u:Un fs ex H H1 h h1)(q:h.get? b=some ob)(n:H b=none)(hx:b ∉ ex):∃sl,h1.get? b=some { ob with slots:=sl }:=by
 by_cases hb:b∈fs
 ·exact u.slot b ob q n hb hx
 ·exact⟨ob.slots,u.keep b ob q n hb hx⟩
theorem Un.kept (k:∀b u,h.get? b=some u->h'.get? b=some u):Un fs ex H H h h' :=
 ⟨λb F q _ _ _=>k b F q,λb F q _ _ _=>⟨F.slots,k b F q⟩,λ_ _ _ n _=>n,λb F q _=>⟨F,k b F q⟩,λ_ _ q=>q,λ_ _ _ q=>q,λ_ ps q=>⟨#[],by rw[q];simp⟩⟩
theorem Un.refl:Un fs ex H H h h:=Un.kept λ_ _ q=>q
theorem Un.laid (k:∀b u,h.get? b=some u->h'.get? b=some u)(hp:h.objs.size<=a)(hn:H a=none):Un fs ex H (upd H a o) h h' where
 keep:=λb u q _ _ _=>k b u q
 slot:=λb u q _ _ _=>⟨u.slots,k b u q⟩
 free:=λb u q n _=>by rw[Ai (P4 (Qa (Pt q) hp))];exact n
 there:=λb u q _=>⟨u,k b u q⟩
 tups:=λb xs q=>by rw[Ai (A6 q hn)];exact q
 frzs:=λb u xs q=>by rw[Ai (A6 q hn)];exact q
 tbls:=λb ps q=>⟨#[],by rw[Ai (A6 q hn),q];simp⟩
theorem Un.write (mu:Mut (H x))(he:e=x\/H e=some (.own x))(k:∀b u,b≠e->h.get? b=some u->h'.get? b=some u)(heo:∃u,h'.get? e=some u):Un fs ex H (upd H x o) h h':=by
 have O:∀b,H b=none->b≠x:=λb n z=>by subst z;rw[n]at mu;exact mu
 have hb:∀b,H b=none->b≠e:=λb n z=>by
  subst z;rcases he with r|r
  ·exact O b n r
  ·rw[n]at r;cases r
 have I:∀b u,H b=some u->¬Mut (some u)->b≠x:=λb u q nm z=>by subst z;rw[q]at mu;exact nm mu
 refine⟨λb u q n _ _=>k b u (hb b n) q,λb u q n _ _=>⟨u.slots,k b u (hb b n) q⟩,λb u q n _=>by rw[Ai (O b n)];exact n,λb u q _=>?_,
  λb xs q=>by rw[Ai (I b _ q λz=>z)];exact q,λb u xs q=>by rw[Ai (I b _ q λz=>z)];exact q,λb ps q=>⟨#[],by rw[Ai (I b _ q λz=>z),q];simp⟩⟩
 by_cases F:b=e
 ·subst F;exact heo
 ·exact⟨u,k b u F q⟩
end
noncomputable def trk (h:Heap)(H:Hp):List Addr:=(Pn h.objs.size).filter λa=>(H a).isSome
noncomputable def F2 (h:Heap)(H:Hp):Heap:=PySem.W.hideAll h (trk h H)
theorem Zsk (h:Heap)(H:Hp):(F2 h H).objs.size=h.objs.size:=PySem.W.hideAll_size _ _
theorem Zk0 (e:h.get? b=some o)(n:H b=none):(F2 h H).get? b=some o :=
 PySem.W.hideAll_get _ e λF=>by
  have q:(H b).isSome=true:=(Wz.mp F).2;rw[n]at q;simp at q
theorem Zsf (e:(F2 h H).get? b=some o):h.get? b=some o/\H b=none:=by
 have F:h.get? b=some o:=PySem.W.of_hideAll (trk h H) e;refine⟨F,?_⟩;cases q:H b with
 |none=>rfl
 |some x =>
  have I:b∈trk h H:=Wz.mpr ⟨Q0.mpr (Pt F),by simp[q]⟩;have z:(F2 h H).get? b=none:=PySem.W.hideAll_none (trk h H) I;rw[z]at e;cases e
structure Mod (K:Ph)(mg:Str->Option Value)(base:Heap):Prop where
 kin:K.In base
 glob:base.Ns mainGlobals mg
 blt:∃mb,base.Ns builtinsNs mb/\∀x:Str,x≠"__name__" -> mb x=bootBuiltins x
 nolimit:base.NoLimit
structure Cx where
 prog:Program
 w:World
 K:Ph
 mg:Str->Option Value
 base:Heap
 A:Around
 N:List Str
 s₀:Shared
 H₀:Hp
 env:Env
 outer:List Env
 stack:List Env
 ex:List Addr
 fn:Str->Bool
 calm:Bool
 pn:List (Addr×Obj)
 xe:Value->Shared->Prop
noncomputable def Dg (l:List Env):List Addr:=l.filterMap (·.frame)
noncomputable abbrev Cx.fs (X:Cx):List Addr:=Dg X.outer
def Vis (sc:Scope)(x:Str):Prop:=sc.names.lookup x=some .local\/sc.names.lookup x=some .cell\/sc.names.lookup x=some .free
def Fg (sc:Scope)(x:Str):Prop:=sc.names.lookup x=some .local\/sc.names.lookup x=some .cell
def Look (env:Env)(h:Heap)(m:Str->Option Value)(x:Str)(u:Value):Prop :=
 (env.kindOf x=some .local/\m x=some u)\/((env.kindOf x=some .cell\/env.kindOf x=some .free)/\∃c,env.cells.lookup x=some c/\h.IsCell c (some u))
structure Cx.Ok (X:Cx):Prop where
 mod:Mod X.K X.mg X.base
 kind:X.env.scope.kind=.function
 glob:X.env.globals=mainGlobals
 blt:X.env.builtins=builtinsNs
 above:X.s₀.heap.objs.size<=X.env.locals
 inj:∀x y c,X.env.cells.lookup x=some c->X.env.cells.lookup y=some c->x=y
 has:∀x,(X.env.kindOf x=some .cell\/X.env.kindOf x=some .free)->∃c,X.env.cells.lookup x=some c
 cab:∀x c,X.fn x=true->X.env.cells.lookup x=some c->X.s₀.heap.objs.size<=c
 hd:X.calm=true->X.A.handled=none
 frames:X.A.frames=some X.stack
 stk:X.stack=X.outer\/(X.stack=X.env::X.outer/\X.env.frame=some X.env.locals)
 exf:∀b∈X.ex,b≠X.env.locals/\∀x c,X.env.cells.lookup x=some c->c≠b
 bs:∀b o,X.base.get? b=some o->X.s₀.heap.get? b=some o/\X.H₀ b=none
 bsz:X.base.objs.size<=X.s₀.heap.objs.size
 noex:∀b o,X.base.get? b=some o->b ∉ X.ex
 exfs:∀b∈X.ex,b ∉ X.fs
 funs:X.s₀.heap.FunFrames X.base X.outer
 frf:∀b∈X.fs,X.H₀ b=none
structure Inv (X:Cx)(pins:List (Addr×Obj))(σ:List (Option V))(H:Hp)(s:Shared):Prop where
 ok:X.Ok
 os:s.os=X.s₀.os
 bare:AllBare s.gens
 base:Un X.fs X.ex X.H₀ H X.s₀.heap s.heap
 loc:∃m,s.heap.Ns X.env.locals m/\∀(i:Nat)(x:Str)(v:V),X.N[i]?=some x->σ[i]?=some (some v)->Vis X.env.scope x->∃u,RelV v u/\Look X.env s.heap m x u
 cell:∀x c,X.env.cells.lookup x=some c->∃v,s.heap.IsCell c v
 free:H X.env.locals=none
 freeC:∀x c,X.env.cells.lookup x=some c->H c=none
 pin:∀p∈X.pn++pins,s.heap.get? p.1=some p.2/\H p.1=none/\p.1≠X.env.locals/\p.1 ∉ X.fs/\∀v,p.2.data≠.cell v
 hok:HOk X.prog X.w H s.heap
 len:σ.length=X.N.length
section
variable {X:Cx}{pins:List (Addr×Obj)}{σ:List (Option V)}{H H':Hp}{s:Shared}{h':Heap}
theorem Cx.Ok.nofr (ok:X.Ok)(e:X.base.get? b=some o):b ∉ X.fs:=λhb=>by
 have:=(ok.funs.mem hb).1;rw[e]at this;cases this
theorem Inv.bs (I:Inv X pins σ H s):∀b o,X.base.get? b=some o->s.heap.get? b=some o/\H b=none:=λb o e =>
 ⟨I.base.keep b o (I.ok.bs b o e).1 (I.ok.bs b o e).2 (I.ok.nofr e) (I.ok.noex b o e),I.base.free b o (I.ok.bs b o e).1 (I.ok.bs b o e).2 (I.ok.noex b o e)⟩
theorem Inv.bk (I:Inv X pins σ H s):∀b o,X.base.get? b=some o->s.heap.get? b=some o:=λb o e=>(I.bs b o e).1
theorem Inv.mod (I:Inv X pins σ H s):Mod X.K X.mg X.base:=I.ok.mod
theorem Inv.kIn (I:Inv X pins σ H s):X.K.In s.heap:=I.ok.mod.kin.keeps I.bk
theorem Inv.lt (I:Inv X pins σ H s):X.env.locals<s.heap.objs.size:=let ⟨_,hn,_⟩:=I.loc;hn.lt
theorem Inv.sz (I:Inv X pins σ H s):X.s₀.heap.objs.size<=s.heap.objs.size:=Qn I.ok.above (Vv I.lt)
theorem Inv.nofs (I:Inv X pins σ H s)(h:s.heap.objs.size<=a):a ∉ X.fs:=λhb=>by
 obtain⟨_,o,F,_⟩:=I.ok.funs.mem hb;exact absurd (Qa (Pt F) (Qn I.sz h)) (Q2 _)
theorem Inv.cne (I:Inv X pins σ H s):∀x c,X.env.cells.lookup x=some c->c≠X.env.locals:=λx c e z=>by
 obtain⟨v,o,U,hd⟩:=I.cell x c e;obtain⟨m,⟨o',es,Y,O,F,_⟩,_⟩:=I.loc;rw[z,O]at U;cases U;rw[F]at hd;cases hd
theorem Inv.funs (I:Inv X pins σ H s):s.heap.FunFrames X.base X.outer:=by
 have all:∀(l:List Env),(∀b∈Dg l,b∈X.fs)->X.s₀.heap.FunFrames X.base l->s.heap.FunFrames X.base l:=by
  intro l
  induction l with
  |nil=>intro _ _;trivial
  |cons env r Y =>
   intro U hl;obtain⟨hk,⟨L,o,O,hn,ho,hd⟩,Z⟩:=hl;have F:L∈X.fs:=U L (by unfold Dg;rw[We,O];exact Uc);obtain⟨sl,e⟩:=I.base.slot L o ho (I.ok.frf L F) F λz=>I.ok.exfs L z F;exact⟨hk,⟨L,_,O,hn,e,hd⟩,Y (λb hb=>U b (by unfold Dg;rw[We,O];exact Qo _ hb)) Z⟩
 exact all X.outer (λ_ hb=>hb) I.ok.funs
theorem Inv.stack (I:Inv X pins σ H s):s.heap.FunFrames X.base X.stack:=by
 rcases I.ok.stk with e|⟨e,F⟩
 ·rw[e];exact I.funs
 ·rw[e];obtain⟨m,O,_⟩:=I.loc;refine .cons (by rw[I.ok.kind];decide) F O ?_ I.funs;exact Heap.get?_none_of_le (Qn I.ok.bsz I.ok.above)
theorem Inv.stkSub (I:Inv X pins σ H s):∀b∈Dg X.stack,b∈X.env.locals::X.fs:=λb hb=>by
 rcases I.ok.stk with e|⟨e,F⟩
 ·rw[e]at hb;exact Qo _ hb
 ·rw[e]at hb;unfold Dg at hb;rw[We,F]at hb;exact hb
theorem Inv.stkFree (I:Inv X pins σ H s):∀b∈Dg X.stack,H b=none:=λb hb=>by
 rcases Pm.mp (I.stkSub b hb) with e|hb
 ·rw[e];exact I.free
 ·obtain⟨_,o,F,_⟩:=I.ok.funs.mem hb;exact I.base.free b o F (I.ok.frf b hb) λz=>I.ok.exfs b z hb
theorem Inv.step {g':Array GenState}{t':Nat}{d':Drawn}{ch:List Addr}(I:Inv X pins σ H s)
  (hch:∀b∈ch,(b∈X.ex\/X.s₀.heap.objs.size<=b)/\b≠X.env.locals/\(∀x c,X.env.cells.lookup x=some c->c≠b)/\∀p∈X.pn++pins,p.1≠b)
  (keep:∀b o,b≠X.env.locals->b ∉ X.fs->b ∉ ch->s.heap.get? b=some o->H b=none->h'.get? b=some o)
  (slot:∀b o,b≠X.env.locals->b∈X.fs->b ∉ ch->s.heap.get? b=some o->H b=none->∃sl,h'.get? b=some { o with slots:=sl }) (free:∀b o,b ∉ ch->s.heap.get? b=some o->H b=none->H' b=none)
  (there:∀b o,b ∉ ch->s.heap.get? b=some o->∃o',h'.get? b=some o')
  (tups:∀b xs,H b=some (.tup xs)->H' b=some (.tup xs)) (frzs:∀b o u,H b=some (.frz o u)->H' b=some (.frz o u)) (tbls:∀b ps,H b=some (.tbl ps)->∃more,H' b=some (.tbl (ps++more)))
  (ns:∀m,s.heap.Ns X.env.locals m->h'.Ns X.env.locals m) (hok:HOk X.prog X.w H' h') (hg:AllBare g') :
  Inv X pins σ H' { s with heap:=h',gens:=g',drawn:=d',toks:=t' }:=by
 have aa:∀b o,X.s₀.heap.get? b=some o->b≠X.env.locals:=λb o e=>P4 (Qa (Pt e) I.ok.above);have Z:∀b o,X.s₀.heap.get? b=some o->b ∉ X.ex->b ∉ ch:=λb o e F hb=>by
  rcases (hch b hb).1 with z|z
  ·exact F z
  ·exact absurd (Qa (Pt e) z) (Q2 _)
 have U:∀x c,X.env.cells.lookup x=some c->∀v,s.heap.IsCell c v->h'.IsCell c v:=λx c e v ⟨o,ho,hd⟩=>by
  have O:c ∉ ch:=λz=>(hch c z).2.2.1 x c e rfl;by_cases hc:c∈X.fs
  ·obtain⟨sl,q⟩:=slot c o (I.cne x c e) hc O ho (I.freeC x c e);exact⟨_,q,hd⟩
  ·exact⟨o,keep c o (I.cne x c e) hc O ho (I.freeC x c e),hd⟩
 refine⟨I.ok,I.os,hg,⟨λb o e n hb F=>?_,λb o e n hb F=>?_,λb o e n F=>?_,λb o e F=>?_,λb xs e=>tups b xs (I.base.tups b xs e),λb o xs e=>frzs b o xs (I.base.frzs b o xs e),λb ps e=>?_⟩,?_,λx c e=>?_,?_,λx c e=>?_,λp hp=>?_,hok,I.len⟩
 ·exact keep b o (aa b o e) hb (Z b o e F) (I.base.keep b o e n hb F) (I.base.free b o e n F)
 ·obtain⟨sl,Y⟩:=I.base.slot b o e n hb F;obtain⟨ae,e2⟩:=slot b _ (aa b o e) hb (Z b o e F) Y (I.base.free b o e n F);exact⟨ae,e2⟩
 ·obtain⟨o',Y⟩:=I.base.there b o e F;exact free b o' (Z b o e F) Y (I.base.free b o e n F)
 ·obtain⟨o',Y⟩:=I.base.there b o e F;exact there b o' (Z b o e F) Y
 ·obtain⟨m1,Y⟩:=I.base.tbls b ps e;obtain⟨m2,e2⟩:=tbls b _ Y;exact⟨m1++m2,by rw[e2,Array.append_assoc]⟩
 ·obtain⟨m,hn,hl⟩:=I.loc;refine⟨m,ns m hn,λi x v Y e2 e3=>?_⟩;obtain⟨u,r,l⟩:=hl i x v Y e2 e3;refine⟨u,r,?_⟩;rcases l with l|⟨k,c,e,z⟩
  ·exact .inl l
  ·exact .inr ⟨k,c,e,U x c e _ z⟩
 ·obtain⟨v,z⟩:=I.cell x c e;exact⟨v,U x c e v z⟩
 ·obtain⟨m,⟨o,_,_,ho,_⟩,_⟩:=I.loc;exact free _ o (λz=>(hch _ z).2.1 rfl) ho I.free
 ·obtain⟨v,o,ho,hd⟩:=I.cell x c e;exact free c o (λz=>(hch c z).2.2.1 x c e rfl) ho (I.freeC x c e)
 ·obtain⟨e,n,ne,nf,d⟩:=I.pin p hp;have O:p.1 ∉ ch:=λz=>(hch p.1 z).2.2.2 p hp rfl;exact⟨keep p.1 p.2 ne nf O e n,free p.1 p.2 O e n,ne,nf,d⟩
theorem Inv.un (I:Inv X pins σ H s)(u:Un X.fs [] H H' s.heap h')(hok:HOk X.prog X.w H' h'):Inv X pins σ H' { s with heap:=h',toks:=t' }:=by
 obtain⟨m,⟨o,es,ep,Y,r⟩,_⟩:=id I.loc;obtain⟨sl,Z⟩:=u.any Y I.free (by simp);exact I.step (g':=s.gens) (d':=s.drawn) (ch:=[]) (λ_ z=>nomatch z) (λb o _ hb _ e n=>u.keep b o e n hb (by simp)) (λb o _ hb _ e n=>u.slot b o e n hb (by simp)) (λb o _ e n=>u.free b o e n (by simp)) (λb o _ e=>u.there b o e (by simp)) u.tups u.frzs u.tbls (λm' hm=>by
  obtain⟨o',O,U,F,r'⟩:=hm;rw[Y]at F;cases F;exact⟨_,O,U,Z,r'⟩) hok I.bare
theorem Inv.call (I:Inv X pins σ H s)(u:Un (Dg X.stack) ch H H' s.heap h')(hok:HOk X.prog X.w H' h')(hg:AllBare g')(hch:∀b∈ch,(b∈X.ex\/X.s₀.heap.objs.size<=b)/\b≠X.env.locals/\(∀x c,X.env.cells.lookup x=some c->c≠b)/\∀p∈X.pn++pins,p.1≠b) :
  Inv X pins σ H' { s with heap:=h',gens:=g',drawn:=d',toks:=t' }:=by
 obtain⟨m,⟨o,es,ep,Z,r⟩,_⟩:=id I.loc;obtain⟨sl,U⟩:=u.any Z I.free λz=>(hch _ z).2.1 rfl;exact I.step (ch:=ch) hch (λb o U hb hc e n=>u.keep b o e n (λz=>(Pm.mp (I.stkSub b z)).elim U hb) hc) (λb o _ _ hc e n=>u.any e n hc) (λb o hc e n=>u.free b o e n hc) (λb o hc e=>u.there b o e hc) u.tups u.frzs u.tbls (λm' hm=>by
  obtain⟨o',O,Y,F,r'⟩:=hm;rw[Z]at F;cases F;exact⟨_,O,Y,U,r'⟩) hok hg
theorem Inv.turned (I:Inv X pins σ H s)(k:∀b o,b≠it->s.heap.get? b=some o->h'.get? b=some o)(hn:H it=none)(hL:it≠X.env.locals)(h1:it∈X.ex\/X.s₀.heap.objs.size<=it)(h2:∀x c,X.env.cells.lookup x=some c->c≠it)(h3:∀p∈X.pn++pins,p.1≠it):Inv X pins σ H { s with heap:=h',toks:=t' }:=by
 have F:∀b u,H b=some u->b≠it:=λb u e z=>by rw[z,hn]at e;cases e
 refine I.step (g':=s.gens) (d':=s.drawn) (ch:=[it]) (λb hb=>?_) (λb o _ _ hc e _=>k b o (λz=>hc (by simp[z])) e) (λb o _ _ hc e _=>⟨o.slots,k b o (λz=>hc (by simp[z])) e⟩) (λ_ _ _ _ n=>n)
  (λb o hc e=>⟨o,k b o (λz=>hc (by simp[z])) e⟩) (λ_ _ e=>e) (λ_ _ _ e=>e) (λb ps e=>⟨#[],by rw[e];simp⟩) (λm U=>?_) (λb u e=>?_) I.bare
 ·have e:b=it:=by simpa using hb
  subst e;exact⟨h1,hL,h2,h3⟩
 ·obtain⟨o,es,O,Y,r⟩:=U;exact⟨o,es,O,k _ o (Ql hL) Y,r⟩
 ·refine(I.hok b u e).stay (λc v hc q=>k c v ?_ q) (λ_ q=>q) λ_ _ q=>q;rcases hc with z|z
  ·rw[z];exact F b u e
  ·exact F c _ z
theorem Inv.tok (I:Inv X pins σ H s)(t:Nat):Inv X pins σ H { s with toks:=t }:=I.un (h':=s.heap) (t':=t) Un.refl I.hok
theorem Inv.kept (I:Inv X pins σ H s)(k:∀b u,s.heap.get? b=some u->h'.get? b=some u):Inv X pins σ H { s with heap:=h',toks:=t' }:=I.un (Un.kept k) (I.hok.kept k)
theorem Inv.laid (I:Inv X pins σ H s)(k:∀b u,s.heap.get? b=some u->h'.get? b=some u)(hp:s.heap.objs.size<=a)(new:ObjOk X.prog X.w (upd H a o) h' a o) :
  Inv X pins σ (upd H a o) { s with heap:=h',toks:=t' }:=I.un (Un.laid k hp (I.hok.fresh hp)) (I.hok.laid k hp new)
theorem Inv.write (I:Inv X pins σ H s)(mu:Mut (H x))(he:e=x\/H e=some (.own x))(k:∀b u,b≠e->s.heap.get? b=some u->h'.get? b=some u)(heo:∃u,h'.get? e=some u)(new:ObjOk X.prog X.w (upd H x o) h' x o):Inv X pins σ (upd H x o) { s with heap:=h',toks:=t' }:=I.un (Un.write mu he k heo) (I.hok.write mu he k heo new)
theorem Inv.pins_of (I:Inv X pins σ H s)(h:∀p∈pins',s.heap.get? p.1=some p.2/\H p.1=none/\p.1≠X.env.locals/\p.1 ∉ X.fs/\∀v,p.2.data≠.cell v):Inv X pins' σ H s :=
 ⟨I.ok,I.os,I.bare,I.base,I.loc,I.cell,I.free,I.freeC,λp F=>(P3.mp F).elim (λz=>I.pin p (Rr _ z)) (h p),I.hok,I.len⟩
theorem Zix {N:List Str}(hN:N.Nodup){i j:Nat}{x:Str}(a:N[i]?=some x)(b:N[j]?=some x):i=j:=by
 obtain⟨h1,F⟩:=Pq.mp a;obtain⟨h2,I⟩:=Pq.mp b;exact(List.getElem_inj hN).mp (F.trans I.symm)
theorem Zga (I:Inv X pins σ H s)(hN:X.N.Nodup)(hi:X.N[i]?=some x)(hx:Fg X.env.scope x)(r:RelV v u)(h:∀s',Inv X pins (σ.set i (some v)) H s'->(∃a,P7 a s.heap s'.heap/\(a=X.env.locals\/X.env.cells.lookup x=some a))->Q () s')(hf:autoParam (X.fn x=true\/X.env.scope.names.lookup x=some .local) zQ):wpAny M A (storeName X.env x u) Q E s:=by
 obtain⟨m,hn,hl⟩:=id I.loc;have ag:(X.env.scope.kind == .class || (X.env.scope.kind == .module && X.env.locals != X.env.globals))=false:=by rw[I.ok.kind];rfl
 have aa:i<σ.length:=by rw[I.len];exact(Pq.mp hi).1
 have cne:=I.cne;have O:∀{a:Addr}{h':Heap},(∃o,s.heap.get? a=some o/\H a=none)->P7 a s.heap h'->HOk X.prog X.w H h':=λ{a h'} ha F b ob e=>by
  obtain⟨_,_,Y⟩:=ha;refine(I.hok b ob e).stay (λc w' hc q=>(F.2 c ?_).trans q) (λ_ q=>q) λ_ _ q=>q;rintro rfl;rcases hc with rfl|hc
  ·rw[Y]at e;cases e
  ·rw[Y]at hc;cases hc
 rcases hx with hk|hk
 ·refine wpAny_storeName_local hk hn (λh' am F=>?_) ag;obtain⟨oL,_,_,al,_⟩:=id hn;refine h _ ⟨I.ok,I.os,I.bare,⟨λb o e n hb hx=>?_,λb o e n hb hx=>?_,I.base.free,λb o e hx=>?_,I.base.tups,I.base.frzs,I.base.tbls⟩,⟨_,am,λj y v' U Z e3=>?_⟩,λy c e=>?_,I.free,I.freeC,λp hp=>?_,O ⟨oL,al,I.free⟩ F,by simpa using I.len⟩ ⟨_,F,.inl rfl⟩
  ·exact(F.2 b (P4 (Qa (Pt e) I.ok.above))).trans (I.base.keep b o e n hb hx)
  ·obtain⟨sl,U⟩:=I.base.slot b o e n hb hx;exact⟨sl,(F.2 b (P4 (Qa (Pt e) I.ok.above))).trans U⟩
  ·obtain⟨o',U⟩:=I.base.there b o e hx;exact⟨o',(F.2 b (P4 (Qa (Pt e) I.ok.above))).trans U⟩
  ·by_cases hj:j=i
   ·subst hj;rw[hi]at U;cases U;rw[R4 aa]at Z;cases Z;exact⟨u,r,.inl ⟨hk,by simp⟩⟩
   ·rw[Vb (Ql hj)]at Z;obtain⟨u',r',q⟩:=hl j y v' U Z e3;refine⟨u',r',?_⟩;rcases q with⟨k,e⟩|⟨k,c,e,z⟩
    ·refine .inl ⟨k,?_⟩;have:y≠x:=λe=>hj (Zix hN U (e ▸ hi));simp[this,e]
    ·exact .inr ⟨k,c,e,z.sameBut F (cne y c e)⟩
  ·obtain⟨w',z⟩:=I.cell y c e;exact⟨w',z.sameBut F (cne y c e)⟩
  ·obtain⟨e,n,ne,nf,d⟩:=I.pin p hp;exact⟨(F.2 p.1 ne).trans e,n,ne,nf,d⟩
 ·have ae:X.fn x=true:=by
   rcases hf with z|z
   ·exact z
   ·rw[z]at hk;cases hk
  obtain⟨c,hc⟩:=I.ok.has x (.inl hk);obtain⟨w',z⟩:=I.cell x c hc;refine wpAny_storeName_cell I.ok.kind hk hc z (λh' ah F=>?_);obtain⟨oc,aj,ak⟩:=id z;refine h { s with heap:=h' } ⟨I.ok,I.os,I.bare,⟨λb o e n hb hx=>?_,λb o e n hb hx=>?_,I.base.free,λb o e hx=>?_,I.base.tups,I.base.frzs,I.base.tbls⟩,⟨m,hn.sameBut F (Ql (cne x c hc)),λj y v' U Z e3=>?_⟩,λy c' e=>?_,I.free,I.freeC,λp hp=>?_,O ⟨oc,aj,I.freeC x c hc⟩ F,by simpa using I.len⟩ ⟨c,F,.inr hc⟩
  ·exact(F.2 b (P4 (Qa (Pt e) (I.ok.cab x c ae hc)))).trans (I.base.keep b o e n hb hx)
  ·obtain⟨sl,U⟩:=I.base.slot b o e n hb hx;exact⟨sl,(F.2 b (P4 (Qa (Pt e) (I.ok.cab x c ae hc)))).trans U⟩
  ·obtain⟨o',U⟩:=I.base.there b o e hx;exact⟨o',(F.2 b (P4 (Qa (Pt e) (I.ok.cab x c ae hc)))).trans U⟩
  ·by_cases hj:j=i
   ·subst hj;rw[hi]at U;cases U;rw[R4 aa]at Z;cases Z;exact⟨u,r,.inr ⟨.inl hk,c,hc,ah⟩⟩
   ·rw[Vb (Ql hj)]at Z;obtain⟨u',r',q⟩:=hl j y v' U Z e3;refine⟨u',r',?_⟩;rcases q with q|⟨k,c',e,z'⟩
    ·exact .inl q
    ·refine .inr ⟨k,c',e,z'.sameBut F ?_⟩;rintro rfl;exact hj (Zix hN U (I.ok.inj _ _ _ e hc ▸ hi))
  ·by_cases ai:c'=c
   ·subst ai;exact⟨_,ah⟩
   ·obtain⟨w2,z2⟩:=I.cell y c' e;exact⟨w2,z2.sameBut F ai⟩
  ·obtain⟨e,n,ne,nf,d⟩:=I.pin p hp;refine⟨(F.2 p.1 ?_).trans e,n,ne,nf,d⟩;intro q;rw[q,aj]at e;have q':oc=p.2:=Pz e;exact d w' (by rw[<- q'];exact ak)
theorem Ll (I:Inv X pins σ H s)(hN:X.N.Nodup)(hi:X.N[i]?=some x)(hx:Fg X.env.scope x)(r:RelV v u)(h:∀s',Inv X pins (σ.set i (some v)) H s'->Q () s')(hf:autoParam (X.fn x=true\/X.env.scope.names.lookup x=some .local) zQ):wpAny M A (storeName X.env x u) Q E s :=
 Zga I hN hi hx r (λs' F _=>h s' F) hf
theorem Inv.call' (I:Inv X pins σ H s)(ho:s'.os=s.os)(u:Un (Dg X.stack) ch H H' s.heap s'.heap)(hok:HOk X.prog X.w H' s'.heap)(hg:AllBare s'.gens)(hch:∀b∈ch,(b∈X.ex\/X.s₀.heap.objs.size<=b)/\b≠X.env.locals/\(∀x c,X.env.cells.lookup x=some c->c≠b)/\∀p∈X.pn++pins,p.1≠b):Inv X pins σ H' s':=by
 obtain⟨h',U,F,O,o'⟩:=s';have e:o'=s.os:=ho;subst e;exact I.call (g':=U) (t':=O) (d':=F) u hok hg hch
end
noncomputable abbrev XK:=Value->Option Addr->Hp->Prop
noncomputable abbrev St:=List (Option V)
noncomputable abbrev VK:=V->Hp->Prop
noncomputable abbrev TE:=St->Hp->VK->Prop
noncomputable abbrev TT:=St->Hp->(Bool->Hp->Prop)->Prop
noncomputable abbrev TA:=St->Hp->(List V->Hp->Prop)->Prop
structure Dj where
 nx:St->Hp->Prop
 rt:VK
 bk:St->Hp->Prop:=λ_ _=>False
 ct:St->Hp->Prop:=λ_ _=>False
noncomputable abbrev TS:=Dj->St->Hp->Prop
def EP (X:Cx)(pins:List (Addr×Obj))(σ:St)(Q:VK)(u:Value)(s':Shared):Prop:=∃v H',Inv X pins σ H' s'/\RelV v u/\Q v H'
def TP (X:Cx)(pins:List (Addr×Obj))(σ:St)(Q:Bool->Hp->Prop)(b:Bool)(s':Shared):Prop:=∃H',Inv X pins σ H' s'/\Q b H'
def AP (X:Cx)(pins:List (Addr×Obj))(σ:St)(Q:List V->Hp->Prop)(us:List Value)(s':Shared):Prop:=∃vs H',Inv X pins σ H' s'/\Vals vs us/\Q vs H'
def SP (X:Cx)(pins:List (Addr×Obj))(D:Dj)(f:Flow)(s':Shared):Prop :=
 match f with
 |.next=>∃σ' H',Inv X pins σ' H' s'/\D.nx σ' H'
 |.brk=>∃σ' H',Inv X pins σ' H' s'/\D.bk σ' H'
 |.cont=>∃σ' H',Inv X pins σ' H' s'/\D.ct σ' H'
 |.ret u=>eX3 λv σ' H'=>Inv X pins σ' H' s'/\RelV v u/\D.rt v H'
def PE (X:Cx)(e:Expr)(t:TE):Prop :=
 ∀(pins:List (Addr×Obj))(s:Shared)(σ:St)(H:Hp)(Q:VK),Inv X pins σ H s->t σ H Q->wpAny (model X.prog X.w) X.A (eval e X.env) (EP X pins σ Q) X.xe s
def PT (X:Cx)(e:Expr)(t:TT):Prop :=
 ∀(pins:List (Addr×Obj))(s:Shared)(σ:St)(H:Hp)(Q:Bool->Hp->Prop),Inv X pins σ H s->t σ H Q->wpAny (model X.prog X.w) X.A (isTrue e X.env (eval e X.env)) (TP X pins σ Q) X.xe s
def PW (X:Cx)(e:Expr)(t:TT):Prop :=
 ∀(whole:Sem Value)(pins:List (Addr×Obj))(s:Shared)(σ:St)(H:Hp)(Q:Bool->Hp->Prop),Inv X pins σ H s->t σ H Q->wpAny (model X.prog X.w) X.A (isTrue e X.env whole) (TP X pins σ Q) X.xe s
theorem PW.pt (h:PW X e t):PT X e t:=h _
def PA (X:Cx)(es:List Expr)(t:TA):Prop :=
 ∀(pos:Pos)(pins:List (Addr×Obj))(s:Shared)(σ:St)(H:Hp)(Q:List V->Hp->Prop),Inv X pins σ H s->t σ H Q->wpAny (model X.prog X.w) X.A (spliced (backTo pos (starEach es X.env))) (AP X pins σ Q) X.xe s
def PS (X:Cx)(st:Stmt)(t:TS):Prop :=
 ∀(pins:List (Addr×Obj))(s:Shared)(σ:St)(H:Hp)(D:Dj),Inv X pins σ H s->t D σ H->wpAny (model X.prog X.w) X.A (exec st X.env) (SP X pins D) X.xe s
def PSs (X:Cx)(st:List Stmt)(t:TS):Prop :=
 ∀(pins:List (Addr×Obj))(s:Shared)(σ:St)(H:Hp)(D:Dj),Inv X pins σ H s->t D σ H->wpAny (model X.prog X.w) X.A (execs st X.env) (SP X pins D) X.xe s
theorem Ap {α:Type}{t:Sem α}{Q Q':α->Shared->Prop}{M:Model}{A:Around}{E:Value->Shared->Prop}{s:Shared}(h:wpAny M A t Q E s)(hQ:∀a s,Q a s->Q' a s):wpAny M A t Q' E s:=Ts h hQ λ_ _ x=>x
section
variable {X:Cx}
def Oy (i:Nat):TE:=λσ H Q=>∃v,σ[i]?=some (some v)/\Q v H
def tC (v:V):TE:=λ_ H Q=>Q v H
theorem Zfn {i j pos}:PE X (.Constant (.int i) j pos) (tC (.int i)):=λ_ _ _ H _ I h=>wpAny_Constant_int ⟨.int i,H,I.tok _,⟨_,rfl⟩,h⟩
theorem Zir {b j pos}:PE X (.Constant (.bool b) j pos) (tC (.bl b)):=λ_ _ _ H _ I h=>Constant_bool ⟨.bl b,H,I,rfl,h⟩
theorem Zej {j pos}:PE X (.Constant .none j pos) (tC .non):=λ_ _ _ H _ I h=>Constant_none ⟨.non,H,I,rfl,h⟩
theorem Zgu {x j pos}:PE X (.Constant (.str x) j pos) (tC (.str x)):=λ_ _ _ H _ I h=>Calls.Constant_str ⟨.str x,H,I.tok _,⟨_,rfl⟩,h⟩
def Gl (X:Cx)(x:Str):Prop:=X.env.kindOf x=some .globalImplicit
theorem Zdj (I:Inv X pins σ H s)(hg:Gl X x)(hm:X.mg x=some u)(h:Q u s)(hd:autoParam ((x == ("__debug__":Str))=false) zW):wpAny (model X.prog X.w) X.A (eval (.Name x pos) X.env) Q E s :=
 Calls.Name_function_global I.ok.kind hg (Calls.loadGlobal_global (by rw[I.ok.glob];exact I.mod.glob.keeps I.bk) hm h) hd
theorem Ef (I:Inv X pins σ H s)(hg:Gl X x)(hm:X.mg x=none)(hv:bootBuiltins x=some u)(h:Q u s)(hn:autoParam (x≠"__name__") zW)(hd:autoParam ((x == ("__debug__":Str))=false) zW):wpAny (model X.prog X.w) X.A (eval (.Name x pos) X.env) Q E s:=by
 obtain⟨F,h1,h2⟩:=I.mod.blt;exact Calls.Name_function_global I.ok.kind hg (Calls.loadGlobal_builtin (by rw[I.ok.glob];exact I.mod.glob.keeps I.bk) hm (by rw[I.ok.blt];exact h1.keeps I.bk) ((h2 x hn).trans hv) h) hd
theorem Zs3 (hg:Gl X x)(hm:X.mg x=some u)(r:RelV v u)(hd:autoParam ((x == ("__debug__":Str))=false) zW):PE X (.Name x pos) (tC v) :=
 λ_ _ _ H _ I h=>Zdj I hg hm ⟨v,H,I,r,h⟩ hd
variable {a b:Expr}{ta tb:TE}{pos:Pos}
def PC (X:Cx)(op:CmpOp)(a b:Expr)(t:TE):Prop :=
 ∀(pins:List (Addr×Obj))(s:Shared)(σ:St)(H:Hp)(Q:VK),Inv X pins σ H s->t σ H Q ->
  wpAny (model X.prog X.w) X.A (eval a X.env) (λv I=>wpAny (model X.prog X.w) X.A (eval b X.env) (λu F=>wpAny (model X.prog X.w) X.A (compareOp op v u) (EP X pins σ Q) X.xe F) X.xe I) X.xe s
theorem M3 (b:Expr)(h:op≠.In)(h2:op≠.NotIn):behindInMarks op b=false:=by
 have F:(op == CmpOp.In)=false:=by cases op <;> first|rfl|exact absurd rfl h
 have I:(op == CmpOp.NotIn)=false:=by cases op <;> first|rfl|exact absurd rfl h2
 cases b <;> simp[behindInMarks,F,I]
def Zcz (ta:TE):TE:=λσ H Q=>ta σ H λx H1=>Q (.bl (decide (x=.non))) H1
def Zb6 (ta:TE):TE:=λσ H Q=>ta σ H λx H1=>Q (.bl (!decide (x=.non))) H1
theorem RelV.none_iff (r:RelV x v):(v == Value.none)=decide (x=.non):=by
 cases x with
 |non=>cases r;rfl
 |bl _=>cases r;rfl
 |int _=>obtain⟨t,rfl⟩:=r;rfl
 |str _=>obtain⟨t,rfl⟩:=r;rfl
 |byt _=>obtain⟨t,rfl⟩:=r;rfl
 |flt _=>obtain⟨t,rfl⟩:=r;rfl
 |ref _=>cases r;rfl
 |ty _=>cases r;rfl
def tB (t:TE):TT:=λσ H Q=>t σ H λx H1=>∃c,x=.bl c/\Q c H1
variable {tA tB':TT}{rest:List Expr}
def Ox (t u:TT):TT:=λσ H Q=>t σ H λc H1=>if c=true then u σ H1 Q else Q false H1
def tOr (t u:TT):TT:=λσ H Q=>t σ H λc H1=>if c=true then Q true H1 else u σ H1 Q
def Zc2 (t:TT):TT:=λσ H Q=>t σ H λc H1=>Q (!c) H1
def Zbk (ta tb:TE):TE:=λσ H Q=>ta σ H λx H1=>∃c,x=.bl c/\if c=true then tb σ H1 Q else Q (.bl false) H1
def Zas (ta tb:TE):TE:=λσ H Q=>ta σ H λx H1=>∃c,x=.bl c/\if c=true then Q (.bl true) H1 else tb σ H1 Q
def O5 (ta:TE):TE:=λσ H Q=>ta σ H λx H1=>∃c,x=.bl c/\Q (.bl (!c)) H1
def tIf (t:TT)(ta tb:TE):TE:=λσ H Q=>t σ H λc H1=>if c=true then ta σ H1 Q else tb σ H1 Q
end
def SqL (K:Ph)(H:Hp)(a:Addr)(xs:List V):Prop :=
 Rd H a (.lst xs) \/
  eX3 λ(o:Obj)(its:Array Value)(n:Nat)=>K.lookup a=some o/\o.cls=.type "list"/\o.dict=none/\o.data=.seq its n/\its.size<=sizeLine/\Vals xs its.toList
def SqT (K:Ph)(H:Hp)(a:Addr)(xs:List V):Prop :=
 Rd H a (.tup xs) \/
  eX3 λ(o:Obj)(its:Array Value)(n:Nat)=>K.lookup a=some o/\o.cls=.type "tuple"/\o.data=.seq its n/\its.size<=sizeLine/\Vals xs its.toList
noncomputable def N1:Value->Option V
 |.none=>some .non
 |.bool b=>some (.bl b)
 |.int i _=>some (.int i)
 |.str x _=>some (.str x)
 |.bytes b _=>some (.byt b)
 |.float b _=>some (.flt b)
 |.ref a=>some (.ref a)
 |.type n=>some (.ty n)
 |_=>none
theorem RelV.abs (r:RelV x u):N1 u=some x:=by
 cases x with
 |non=>cases r;rfl
 |bl _=>cases r;rfl
 |int _=>obtain⟨t,rfl⟩:=r;rfl
 |str _=>obtain⟨t,rfl⟩:=r;rfl
 |byt _=>obtain⟨t,rfl⟩:=r;rfl
 |flt _=>obtain⟨t,rfl⟩:=r;rfl
 |ref _=>cases r;rfl
 |ty _=>cases r;rfl
theorem RelV.inj (r:RelV x u)(q:RelV y u):x=y:=Pz (r.abs.symm.trans q.abs)
theorem Vals.inj:∀{xs ys:List V}{us:List Value},Vals xs us->Vals ys us->xs=ys
 |_,_,_,.nil,.nil=>rfl
 |_,_,_,.cons r t,.cons I F=>by rw[r.inj I,Vals.inj t F]
section
variable {X:Cx}{pins:List (Addr×Obj)}{σ:St}{H:Hp}{s:Shared}{a:Addr}{xs ys:List V}
theorem SqL.of {K:Ph}(h:H a=some (.lst xs)):SqL K H a xs:=.inl (.inl h)
theorem SqT.of {K:Ph}(h:H a=some (.tup xs)):SqT K H a xs:=.inl (.inl h)
theorem Inv.list (I:Inv X pins σ H s)(h:SqL X.K H a xs):∃its:List Value,Vals xs its/\PlainL s.heap a its.toArray/\xs.length<=sizeLine:=by
 rcases h with h|⟨o,its,n,F,hc,hd,O,U,r⟩
 ·obtain⟨z,its,n,r,e⟩:=h.ok I.hok;exact⟨its,r,⟨_,n,e,rfl,rfl,rfl⟩,z⟩
 ·refine⟨its.toList,r,⟨o,n,I.kIn a o F,hc,hd,by simpa using O⟩,?_⟩;have e:=r.length;simp only[T8]at e;lia
theorem Inv.tuple (I:Inv X pins σ H s)(h:SqT X.K H a xs):∃its:List Value,Vals xs its/\IsTup s.heap a its.toArray/\xs.length<=sizeLine:=by
 rcases h with h|⟨o,its,n,F,hc,O,U,r⟩
 ·obtain⟨z,its,r,p⟩:=h.ok I.hok;exact⟨its,r,p,z⟩
 ·refine⟨its.toList,r,⟨o,I.kIn a o F,hc,n,by simpa using O⟩,?_⟩;have e:=r.length;simp only[T8]at e;lia
theorem Inv.list_inj (I:Inv X pins σ H s)(h:SqL X.K H a xs)(h':SqL X.K H a ys):xs=ys:=by
 obtain⟨O,r,⟨o,n,e,_,_,d⟩,_⟩:=I.list h;obtain⟨F,Z,⟨o',n',U,_,_,Y⟩,_⟩:=I.list h';rw[e]at U;cases U;rw[d]at Y;injection Y with d1 _;have:O=F:=by simpa using congrArg Array.toList d1
 subst this;exact r.inj Z
theorem Inv.tuple_inj (I:Inv X pins σ H s)(h:SqT X.K H a xs)(h':SqT X.K H a ys):xs=ys:=by
 obtain⟨O,r,⟨o,e,_,n,d⟩,_⟩:=I.tuple h;obtain⟨F,Z,⟨o',U,_,n',Y⟩,_⟩:=I.tuple h';rw[e]at U;cases U;rw[d]at Y;injection Y with d1 _;have:O=F:=by simpa using congrArg Array.toList d1
 subst this;exact r.inj Z
end
noncomputable abbrev Cx.wish (X:Cx)(E:Value->Shared->Prop):Cx:={ X with xe:=E }
noncomputable abbrev Cx.nox (X:Cx):Cx:=X.wish λ_ _=>False
theorem Cx.Ok.wish {X:Cx}(ok:X.Ok)(E:Value->Shared->Prop):(X.wish E).Ok :=
 ⟨ok.mod,ok.kind,ok.glob,ok.blt,ok.above,ok.inj,ok.has,ok.cab,ok.hd,ok.frames,ok.stk,ok.exf,ok.bs,ok.bsz,ok.noex,ok.exfs,ok.funs,ok.frf⟩
theorem Cx.Ok.unwish {X:Cx}{E:Value->Shared->Prop}(ok:(X.wish E).Ok):X.Ok :=
 ⟨ok.mod,ok.kind,ok.glob,ok.blt,ok.above,ok.inj,ok.has,ok.cab,ok.hd,ok.frames,ok.stk,ok.exf,ok.bs,ok.bsz,ok.noex,ok.exfs,ok.funs,ok.frf⟩
section
variable {X:Cx}{pins:List (Addr×Obj)}{σ:St}{H:Hp}{s:Shared}{E:Value->Shared->Prop}
theorem Inv.wish (I:Inv X pins σ H s)(E:Value->Shared->Prop):Inv (X.wish E) pins σ H s:=⟨I.ok.wish E,I.os,I.bare,I.base,I.loc,I.cell,I.free,I.freeC,I.pin,I.hok,I.len⟩
theorem Inv.unwish (I:Inv (X.wish E) pins σ H s):Inv X pins σ H s:=⟨I.ok.unwish,I.os,I.bare,I.base,I.loc,I.cell,I.free,I.freeC,I.pin,I.hok,I.len⟩
theorem SP.unwish (h:SP (X.wish E) pins D f s'):SP X pins D f s':=by
 cases f with
 |next=>obtain⟨F,H',I,q⟩:=h;exact⟨F,H',I.unwish,q⟩
 |brk=>obtain⟨F,H',I,q⟩:=h;exact⟨F,H',I.unwish,q⟩
 |cont=>obtain⟨F,H',I,q⟩:=h;exact⟨F,H',I.unwish,q⟩
 |ret u=>obtain⟨v,F,H',I,r,q⟩:=h;exact⟨v,F,H',I.unwish,r,q⟩
theorem PSs.nox {st:List Stmt}{t:TS}(h:PSs X.nox st t):PSs X st t:=λpins s σ H D I F =>
 Ts (h pins s σ H D (I.wish _) F) (λ_ _ q=>q.unwish) λ_ _ z=>Ry z
end
section
variable {X:Cx}{st:Stmt}{rest:List Stmt}{t u:TS}{e:Expr}{te:TE}{pos:Pos}
def Zch:TS:=λD σ H=>D.nx σ H
def Za7 (t u:TS):TS:=λD σ H=>t { D with nx:=u D } σ H
def Zih:TS:=λD σ H=>D.ct σ H
theorem Inv.quiet (I:Inv X pins σ H s):interactive X.env=false:=by simp[interactive,I.ok.kind]
def Om (te:TE):TS:=λD σ H=>te σ H λ_ H1=>D.nx σ H1
def Zct (te:TE):TS:=λD σ H=>te σ H D.rt
def Dh (c:TT)(t u:TS):TS:=λD σ H=>c σ H λb H1=>if b=true then t D σ H1 else u D σ H1
end
noncomputable abbrev TG:=V->St->Hp->(St->Hp->Prop)->Prop
noncomputable abbrev E4:=List V->St->Hp->(St->Hp->Prop)->Prop
def PG (X:Cx)(target:Expr)(t:TG):Prop :=
 ∀(pins:List (Addr×Obj))(s:Shared)(σ:St)(H:Hp)(v:V)(u:Value)(Q:St->Hp->Prop),Inv X pins σ H s->RelV v u->t v σ H Q ->
  wpAny (model X.prog X.w) X.A (assign target X.env u) (λ_ s'=>∃σ' H',Inv X pins σ' H' s'/\Q σ' H') X.xe s
def PGs (X:Cx)(ts:List Expr)(t:E4):Prop :=
 ∀(pins:List (Addr×Obj))(s:Shared)(σ:St)(H:Hp)(vs:List V)(us:List Value)(Q:St->Hp->Prop),Inv X pins σ H s->Vals vs us->t vs σ H Q ->
  wpAny (model X.prog X.w) X.A (assignInOrder ((assignEach ts X.env).map (·.2)) us) (λ_ s'=>∃σ' H',Inv X pins σ' H' s'/\Q σ' H') X.xe s
noncomputable abbrev Lq:=V->V->V->Hp->(Hp->Prop)->Prop
def Zcf (X:Cx)(t:Lq):Prop :=
 ∀(pins:List (Addr×Obj))(s:Shared)(σ:St)(H:Hp)(o i v:V)(ov iv u:Value)(Q:Hp->Prop),Inv X pins σ H s->RelV o ov->RelV i iv->RelV v u->t o i v H Q ->
  wpAny (model X.prog X.w) X.A (setItem ov iv u) (λ_ s'=>∃H',Inv X pins σ H' s'/\Q H') X.xe s
noncomputable abbrev Jv:=V->V->Hp->VK->Prop
def PIp (X:Cx)(op:Operator)(t:Jv):Prop :=
 ∀(pins:List (Addr×Obj))(s:Shared)(σ:St)(H:Hp)(x y:V)(v u:Value)(Q:VK),Inv X pins σ H s->RelV x v->RelV y u->t x y H Q ->
  wpAny (model X.prog X.w) X.A (inplaceOp op v u) (EP X pins σ Q) X.xe s
section
variable {X:Cx}{pos:Pos}
def He (i:Nat):TG:=λv σ H Q=>Q (σ.set i (some v)) H
def Za9:E4:=λvs σ H Q=>vs=[]/\Q σ H
def O6 (t:TG)(u:E4):E4:=λvs σ H Q=>∃v r,vs=v::r/\t v σ H λF H'=>u r F H' Q
def Nh (K:Ph)(n:Nat)(t:E4):TG:=λv σ H Q=>∃a xs,v=.ref a/\SqT K H a xs/\xs.length=n/\t xs σ H Q
def Zbw (to ti:TE)(t:Lq):TG:=λv σ H Q=>to σ H λo H1=>ti σ H1 λi H2=>t o i v H2 λF=>Q σ F
def G7 (te:TE)(g:TG):TS:=λD σ H=>te σ H λx H1=>g x σ H1 D.nx
def Zby (i j:Nat)(ta:TA):TS:=λD σ H=>ta σ H λvs H1=>∃v w,vs=[v,w]/\D.nx ((σ.set i (some v)).set j (some w)) H1
def Zav (i:Nat)(te:TE)(ti:Jv):TS:=λD σ H=>∃x,σ[i]?=some (some x)/\te σ H λy H1=>ti x y H1 λz H2=>D.nx (σ.set i (some z)) H2
def ipI (f:Int->Int->Int):Jv:=λx y H Q=>∃i j,x=.int i/\y=.int j/\Q (.int (f i j)) H
theorem Zpo:PIp X .Add (ipI λi j=>i+j):=by
 intro pins s σ H x y v u Q I O F h;obtain⟨i,j,U,Y,q⟩:=h;subst U;subst Y;obtain⟨t,rfl⟩:=O;obtain⟨Z,rfl⟩:=F;exact iadd_int ⟨.int _,H,I.tok _,⟨_,rfl⟩,q⟩
end
section
variable {X:Cx}{pos:Pos}
def Zf4 (c:TT)(tb:TS):TS:=λD σ H=>∃W:Nat->St->Hp->Prop,(∃m,W m σ H)/\∀m σ H,W m σ H ->
 c σ H λb H1=>if b=true then ∃N:St->Hp->Prop,(∀σ' H',N σ' H'->∃m',m'<m/\W m' σ' H')/\tb { D with nx:=N,ct:=N,bk:=D.nx } σ H1 else D.nx σ H1
end
structure It where
 go:Nat->Hp->Prop
 yld:Nat->Hp->V->Hp->Prop
 stop:Nat->Hp->Prop
def FpOk (X:Cx)(pins:List (Addr×Obj))(H:Hp)(b:Addr):Prop :=
 H b=none/\b≠X.env.locals/\b ∉ X.fs/\(b∈X.ex\/X.s₀.heap.objs.size<=b)/\(∀x c,X.env.cells.lookup x=some c->c≠b)/\∀p∈X.pn++pins,p.1≠b
theorem Inv.fpOk (I:Inv X pins σ H s)(hb:s.heap.objs.size<=b)(hn:H' b=none):FpOk X pins H' b:=by
 refine⟨hn,Rb (Qa I.lt hb),I.nofs hb,.inr (Qn I.sz hb),λx c e z=>?_,λp F z=>?_⟩
 ·obtain⟨v,q⟩:=I.cell x c e;exact absurd (Qa q.lt (by rw[z];exact hb)) (Q2 _)
 ·exact absurd (Qa (Pt (I.pin p F).1) (by rw[z];exact hb)) (Q2 _)
structure Gi (P:Program)(w:World)(K:Ph)(tg:Expr)(J:It)(fp:List Addr)(it:Addr)(tn:Nat->Heap->Prop):Prop where
 mem:it∈fp
 obj:∀i h,tn i h->∀b∈fp,∃o,h.get? b=some o/\∀v,o.data≠.cell v
 keep:∀i h h',tn i h->(∀b∈fp,∀o,h.get? b=some o->h'.get? b=some o)->tn i h'
 item:∀(X:Cx),X.prog=P->X.w=w->X.K=K->X.calm=true->∀(i:Nat)(pins:List (Addr×Obj))(s:Shared)(σ:St)(H:Hp)(E:Value->Shared->Prop),Inv X pins σ H s->(∀b∈fp,FpOk X pins H b)->tn i s.heap->J.go i H ->
  wpAny (model P w) X.A (pyNext (.ref it)) (λr s1=>∃u,r=some u /\
   wpAny (model P w) X.A (letOwnedTupleGo tg (.ref it) u) (λ_ s2=>∃x H',Inv X pins σ H' s2/\RelV x u/\J.yld i H x H'/\tn (i+1) s2.heap/\∀b∈fp,H' b=none) E s1) E s
 done:∀(X:Cx),X.prog=P->X.w=w->X.K=K->X.calm=true->∀(i:Nat)(pins:List (Addr×Obj))(s:Shared)(σ:St)(H:Hp)(E:Value->Shared->Prop),Inv X pins σ H s->(∀b∈fp,FpOk X pins H b)->tn i s.heap->J.stop i H ->
  wpAny (model P w) X.A (pyNext (.ref it)) (λr s1=>r=none/\Inv X pins σ H s1) E s
 self:∀(A:Around)(i:Nat)(s:Shared)(Q:Value->Shared->Prop)(E:Value->Shared->Prop),tn i s.heap->Q (.ref it) s->wpAny (model P w) A (pyIter (.ref it)) Q E s
noncomputable abbrev TI:=St->Hp->(It->Hp->Prop)->Prop
def PIE (X:Cx)(pins:List (Addr×Obj))(σ:St)(tg:Expr)(R:It->Hp->Prop)(itv:Value)(s2:Shared):Prop :=
 eX5 λ(it:Addr)(fp:List Addr)(tn:Nat->Heap->Prop)(J:It)(H':Hp)=>itv=.ref it/\Inv X pins σ H' s2/\Gi X.prog X.w X.K tg J fp it tn/\tn 0 s2.heap/\(∀b∈fp,FpOk X pins H' b)/\R J H'
def PI (X:Cx)(tg iter:Expr)(wi:TI):Prop :=
 ∀(pins:List (Addr×Obj))(s:Shared)(σ:St)(H:Hp)(R:It->Hp->Prop),Inv X pins σ H s->wi σ H R ->
  wpAny (model X.prog X.w) X.A (eval iter X.env) (λv F=>wpAny (model X.prog X.w) X.A (pyIter v) (PIE X pins σ tg R) X.xe F) X.xe s
theorem K9 (ho:s.heap.get? it=some o)(hc:o.cls=.type n)(hd:o.data=.fields vs)(hn:["enumerate","zip","dict_itemiterator","dict_reverseitemiterator","odict_iterator","itertools.zip_longest","itertools.pairwise"].contains n=false)(hQ:Q () s):wpAny M A (letOwnedTupleGo tg (.ref it) u) Q E s:=by
 unfold letOwnedTupleGo;cases tg <;> first
  |exact Pl hQ
  | (cases u <;> first
    |exact Pl hQ
    | (refine Pi (wpAny_load ho ?_)
       rw[hc,hd];show wpAny M A (if (["enumerate","zip","dict_itemiterator","dict_reverseitemiterator","odict_iterator","itertools.zip_longest","itertools.pairwise"].contains n && vs[0]? == some (rawInt _))=true then _ else _) Q E s;rw[if_neg (by intro h;rw[hn,Bool.false_and]at h;cases h)];exact Pl hQ))
noncomputable def Hr (K:Ph)(a:Addr):It :=
 ⟨λi H=>∃xs x,SqL K H a xs/\xs[i]?=some x,λi H x H'=>H'=H/\∀xs,SqL K H a xs->xs[i]?=some x,λi H=>∃xs,SqL K H a xs/\xs.length<=i⟩
noncomputable def Ic (K:Ph)(a:Addr):It :=
 ⟨λi H=>∃xs x,SqT K H a xs/\xs[i]?=some x,λi H x H'=>H'=H/\∀xs,SqT K H a xs->xs[i]?=some x,λi H=>∃xs,SqT K H a xs/\xs.length<=i⟩
noncomputable def Gx (lo:Int)(n:Nat):It:=⟨λi _=>i<n,λi H x H'=>H'=H/\x=.int (lo+i),λi _=>n<=i⟩
theorem Zsh {P:Program}{w:World}{K:Ph}{tg:Expr}(a it:Addr):Gi P w K tg (Hr K a) [it] it (λi h=>h.IsListIter it a i) where
 mem:=by simp
 obj:=λi h st b hb=>by
  have e:b=it:=by simpa using hb
  subst e;obtain⟨o,e,c,d⟩:=st;exact⟨o,e,λv z=>by rw[d]at z;cases z⟩
 keep:=λi h h' st k=>st.at λo e=>k it (by simp) o e
 item:=by
  intro X hP hw hK hc i pins s σ H E I O st hg;subst hP hw hK;obtain⟨xs,x,U,hx⟩:=hg;obtain⟨Y,Z,p,hz⟩:=I.list U;obtain⟨u,hu,ru⟩:=Z.get hx;obtain⟨f0,f1,f2,f3,f4,f5⟩:=O it (by simp);refine wpAny_pyNext_list_item st p.isList (x:=u) (by simpa using hu) λh' F sb=>?_;have I1:Inv X pins σ H { s with heap:=h' }:=I.turned (t':=s.toks) (λb o hb e=>(sb.2 b hb).trans e) f0 f1 f3 f4 f5;obtain⟨o,e,c,d⟩:=id F;exact⟨u,rfl,K9 (s:={ s with heap:=h' }) e c d (by decide) ⟨x,H,I1,ru,⟨rfl,λys hy=>by rw[I.list_inj hy U];exact hx⟩,F,λb hb=>(O b hb).1⟩⟩
 done:=by
  intro X hP hw hK hc i pins s σ H E I O st hg;subst hP hw hK;obtain⟨xs,U,hx⟩:=hg;obtain⟨Y,Z,p,hz⟩:=I.list U;obtain⟨f0,f1,f2,f3,f4,f5⟩:=O it (by simp);have hl:=Z.length;exact wpAny_pyNext_list_end (I.ok.hd hc) st p.isList (by simp;lia) λh' eb=>⟨rfl,I.turned (t':=s.toks) (λb o hb e=>eb b o hb e) f0 f1 f3 f4 f5⟩
 self:=λ_ _ _ _ _ st h=>wpAny_pyIter_listiter st h
theorem Zsb {P:Program}{w:World}{K:Ph}{tg:Expr}(a it:Addr):Gi P w K tg (Ic K a) [it] it (λi h=>h.IsTupleIter it a i) where
 mem:=by simp
 obj:=λi h st b hb=>by
  have e:b=it:=by simpa using hb
  subst e;obtain⟨o,e,c,d⟩:=st;exact⟨o,e,λv z=>by rw[d]at z;cases z⟩
 keep:=λi h h' st k=>st.at λo e=>k it (by simp) o e
 item:=by
  intro X hP hw hK hc i pins s σ H E I U st hg;subst hP hw hK;obtain⟨xs,x,Y,hx⟩:=hg;obtain⟨F,Z,p,hz⟩:=I.tuple Y;obtain⟨u,hu,ru⟩:=Z.get hx;obtain⟨f0,f1,f2,f3,f4,f5⟩:=U it (by simp);refine wpAny_pyNext_tuple_item st (show s.heap.IsTuple a F.toArray from p) (x:=u) (by simpa using hu) λh' O sb=>?_;have I1:Inv X pins σ H { s with heap:=h' }:=I.turned (t':=s.toks) (λb o hb e=>(sb.2 b hb).trans e) f0 f1 f3 f4 f5;obtain⟨o,e,c,d⟩:=id O;exact⟨u,rfl,K9 (s:={ s with heap:=h' }) e c d (by decide) ⟨x,H,I1,ru,⟨rfl,λys hy=>by rw[I.tuple_inj hy Y];exact hx⟩,O,λb hb=>(U b hb).1⟩⟩
 done:=by
  intro X hP hw hK hc i pins s σ H E I U st hg;subst hP hw hK;obtain⟨xs,Y,hx⟩:=hg;obtain⟨F,Z,p,hz⟩:=I.tuple Y;obtain⟨f0,f1,f2,f3,f4,f5⟩:=U it (by simp);have hl:=Z.length;exact wpAny_pyNext_tuple_end (I.ok.hd hc) st (show s.heap.IsTuple a F.toArray from p) (by simp;lia) λh' eb=>⟨rfl,I.turned (t':=s.toks) (λb o hb e=>eb b o hb e) f0 f1 f3 f4 f5⟩
 self:=λ_ _ _ _ _ st h=>wpAny_pyIter_tupleiter st h
theorem Zjj {P:Program}{w:World}{K:Ph}{tg:Expr}(it:Addr)(lo:Int)(n:Nat):Gi P w K tg (Gx lo n) [it] it (λi h=>IsRangeIter h it (lo+(i:Nat)*1) ((n:Int)-(i:Nat)) 1) where
 mem:=by simp
 obj:=λi h st b hb=>by
  have e:b=it:=by simpa using hb
  subst e;exact⟨_,st,λv z=>by
   have z':Data.fields _=Data.cell v:=z;cases z'⟩
 keep:=λi h h' st k=>k it (by simp) _ st
 item:=by
  intro X hP hw U hc i pins s σ H E I O st hg;subst hP hw U;obtain⟨Y,f1,f2,f3,Z,f5⟩:=O it (by simp);have W:=Walks.range (prog:=X.prog) (w:=X.w) (I.ok.hd hc) it lo 1 n;refine W.item i s _ _ hg st λv h' tk hv F kk=>?_;obtain⟨t,rfl⟩:=hv;have I1:Inv X pins σ H { s with heap:=h',toks:=tk }:=I.turned (λb o hb e=>kk b o (by simpa using hb) e) Y f1 f3 Z f5;refine⟨_,rfl,K9 (s:={ s with heap:=h',toks:=tk }) (n:="range_iterator") F rfl rfl (by decide) ⟨.int (lo+i),H,I1,⟨t,?_⟩,⟨rfl,rfl⟩,F,λb hb=>(O b hb).1⟩⟩;rw[Int.mul_one]
 done:=by
  intro X hP hw U hc i pins s σ H E I O st hg;subst hP hw U;obtain⟨Y,f1,f2,f3,Z,f5⟩:=O it (by simp);exact wpAny_pyNext_range_end (I.ok.hd hc) st (by have:n<=i:=hg;lia) λh' eb=>⟨rfl,I.turned (t':=s.toks) (λb o hb e=>eb b o hb e) Y f1 f3 Z f5⟩
 self:=λ_ _ _ _ _ st h=>wpAny_pyIter_rangeiter st h
section
variable {X:Cx}{tg:Expr}
theorem Zs8 {pins:List (Addr×Obj)}{σ:St}{H:Hp}{s:Shared}{R:It->Hp->Prop}{E:Value->Shared->Prop}{lo hi:Int}{t u v:Tok}{tk:Nat}(I:Inv X pins σ H s)(h1:-(2 ^ 62)<=lo)(h2:lo<2 ^ 62)(h3:-(2 ^ 62)<=hi)(h4:hi<2 ^ 62)
  (q:R (Gx lo (hi-lo).toNat) H):wpAny (model X.prog X.w) X.A (pyIter (.ref s.heap.objs.size)) (PIE X pins σ tg R) E { s with heap:=s.heap.push { cls:=.type "range",data:=.fields #[.int lo t,.int hi u,.int 1 v] },toks:=tk }:=by
 refine wpAny_pyIter_range (IsRange.new ..) (small_one h1 h2 h3 h4) ?_;have F:Inv X pins σ H { s with heap:=s.heap.push { cls:=.type "range",data:=.fields #[.int lo t,.int hi u,.int 1 v] },toks:=tk }:=I.kept λb o e=>Px _ e;refine⟨(s.heap.push { cls:=.type "range",data:=.fields #[.int lo t,.int hi u,.int 1 v] }).objs.size,[(s.heap.push { cls:=.type "range",data:=.fields #[.int lo t,.int hi u,.int 1 v] }).objs.size],_,_,H,rfl,
  F.kept (t':=tk) λb o e=>Px _ e,Zjj _ lo (hi-lo).toNat,?_,λb hb=>?_,q⟩
 ·have O:lo+((0:Nat):Int)*1=lo:=by simp
  have U:(((hi-lo).toNat:Nat):Int)-((0:Nat):Int)=Builtin.Range.rangeSize lo hi 1:=by rw[rangeSize_one];split <;> lia
  show IsRangeIter _ _ (lo+((0:Nat):Int)*1) ((((hi-lo).toNat:Nat):Int)-((0:Nat):Int)) 1;rw[O,U];exact Qe _ rfl
 ·have e:b=(s.heap.push { cls:=.type "range",data:=.fields #[.int lo t,.int hi u,.int 1 v] }).objs.size:=by simpa using hb
  subst e;exact F.fpOk (Pk _) (F.hok.fresh (Pk _))
def Zcn (ta:TA):TI:=λσ H R=>ta σ H λvs H1=>∃j:Int,vs=[.int j]/\-(2 ^ 62)<=j/\j<2 ^ 62/\R (Gx 0 j.toNat) H1
def Oj (wi:TI)(g:TG)(tb:TS):TS:=λD σ H=>wi σ H λJ H1=>∃W:Nat->Nat->St->Hp->Prop,(∃m,W 0 m σ H1)/\∀i m σ H,W i m σ H ->
 (J.stop i H/\D.nx σ H)\/(J.go i H/\∃N:St->Hp->Prop,(∀σ' H',N σ' H'->∃m',m'<m/\W (i+1) m' σ' H')/\∀x H',J.yld i H x H'->g x σ H' λF H2=>tb { D with nx:=N,ct:=N,bk:=D.nx } F H2)
noncomputable def La (fp:List Addr)(h:Heap):List (Addr×Obj):=fp.filterMap λb=>(h.get? b).map λo=>(b,o)
theorem Of (hb:b∈fp)(e:h.get? b=some o):(b,o)∈La fp h:=List.mem_filterMap.mpr ⟨b,hb,by rw[e];rfl⟩
theorem Znb (hp:p∈La fp h):p.1∈fp/\h.get? p.1=some p.2:=by
 obtain⟨b,hb,e⟩:=List.mem_filterMap.mp hp;cases q:h.get? b with
 |none=>rw[q]at e;cases e
 |some o =>
  rw[q]at e;have F:(b,o)=p:=Pz e;subst F;exact⟨hb,q⟩
theorem Inv.pinned (I:Inv X pins σ H s)(hf:∀b∈fp,FpOk X pins H b)(ho:∀b∈fp,∃o,s.heap.get? b=some o/\∀v,o.data≠.cell v):Inv X (pins++La fp s.heap) σ H s :=
 I.pins_of λp U=>(P3.mp U).elim (λz=>I.pin p (Rh _ z)) λz=>by
  obtain⟨hb,e⟩:=Znb z;obtain⟨O,f1,f2,_⟩:=hf p.1 hb;obtain⟨o,F,d⟩:=ho p.1 hb;rw[e]at F;cases F;exact⟨e,O,f1,f2,d⟩
theorem Inv.unpinned (I:Inv X (pins++pl) σ H s):Inv X pins σ H s:=I.pins_of λp F=>I.pin p (Rh _ (Rr _ F))
end
theorem Jr {K:Ph}{a:Addr}{xs:List V}{g:TG}{tb:TS}{D:Dj}{σ:St}{H:Hp}(Pv:Nat->St->Hp->Prop)(h0:Pv 0 σ H)(hl:∀i σ H,i<=xs.length->Pv i σ H->SqL K H a xs)
  (hs:∀i x σ H,xs[i]?=some x->Pv i σ H->g x σ H λσ2 H2=>tb { D with nx:=Pv (i+1),ct:=Pv (i+1),bk:=D.nx } σ2 H2) (hd:∀σ H,Pv xs.length σ H->D.nx σ H) :
  ∃W:Nat->Nat->St->Hp->Prop,(∃m,W 0 m σ H)/\∀i m σ H,W i m σ H ->
   ((Hr K a).stop i H/\D.nx σ H)\/((Hr K a).go i H/\∃N:St->Hp->Prop,(∀σ' H',N σ' H'->∃m',m'<m/\W (i+1) m' σ' H')/\∀x H',(Hr K a).yld i H x H'->g x σ H' λσ2 H2=>tb { D with nx:=N,ct:=N,bk:=D.nx } σ2 H2):=by
 refine⟨λi m σ H=>m=xs.length-i/\i<=xs.length/\Pv i σ H,⟨xs.length,by simp,P8 _,h0⟩,?_⟩;rintro i m σ H ⟨rfl,hi,p⟩;have q:=hl i σ H hi p;by_cases F:i<xs.length
 ·refine .inr ⟨⟨xs,xs[i],q,by simp[F]⟩,Pv (i+1),λσ' H' I=>⟨xs.length-(i+1),by lia,rfl,F,I⟩,λx H' y=>?_⟩;obtain⟨e,y⟩:=y;subst e;exact hs i x σ _ (y xs q) p
 ·have e:i=xs.length:=by lia
  subst e;exact .inl ⟨⟨xs,q,Pk _⟩,hd σ H p⟩
theorem Zh4 {K:Ph}{a:Addr}{xs:List V}{g:TG}{tb:TS}{D:Dj}{σ:St}{H:Hp}(Pv:Nat->St->Hp->Prop)(h0:Pv 0 σ H)(hl:∀i σ H,i<=xs.length->Pv i σ H->SqT K H a xs)
  (hs:∀i x σ H,xs[i]?=some x->Pv i σ H->g x σ H λσ2 H2=>tb { D with nx:=Pv (i+1),ct:=Pv (i+1),bk:=D.nx } σ2 H2) (hd:∀σ H,Pv xs.length σ H->D.nx σ H) :
  ∃W:Nat->Nat->St->Hp->Prop,(∃m,W 0 m σ H)/\∀i m σ H,W i m σ H ->
   ((Ic K a).stop i H/\D.nx σ H)\/((Ic K a).go i H/\∃N:St->Hp->Prop,(∀σ' H',N σ' H'->∃m',m'<m/\W (i+1) m' σ' H')/\∀x H',(Ic K a).yld i H x H'->g x σ H' λσ2 H2=>tb { D with nx:=N,ct:=N,bk:=D.nx } σ2 H2):=by
 refine⟨λi m σ H=>m=xs.length-i/\i<=xs.length/\Pv i σ H,⟨xs.length,by simp,P8 _,h0⟩,?_⟩;rintro i m σ H ⟨rfl,hi,p⟩;have q:=hl i σ H hi p;by_cases F:i<xs.length
 ·refine .inr ⟨⟨xs,xs[i],q,by simp[F]⟩,Pv (i+1),λσ' H' I=>⟨xs.length-(i+1),by lia,rfl,F,I⟩,λx H' y=>?_⟩;obtain⟨e,y⟩:=y;subst e;exact hs i x σ _ (y xs q) p
 ·have e:i=xs.length:=by lia
  subst e;exact .inl ⟨⟨xs,q,Pk _⟩,hd σ H p⟩
theorem L0 {lo:Int}{n:Nat}{g:TG}{tb:TS}{D:Dj}{σ:St}{H:Hp}(Pv:Nat->St->Hp->Prop)(h0:Pv 0 σ H)
  (hs:∀i σ H,i<n->Pv i σ H->g (.int (lo+i)) σ H λσ2 H2=>tb { D with nx:=Pv (i+1),ct:=Pv (i+1),bk:=D.nx } σ2 H2) (hd:∀σ H,Pv n σ H->D.nx σ H) :
  ∃W:Nat->Nat->St->Hp->Prop,(∃m,W 0 m σ H)/\∀i m σ H,W i m σ H ->
   ((Gx lo n).stop i H/\D.nx σ H)\/((Gx lo n).go i H/\∃N:St->Hp->Prop,(∀σ' H',N σ' H'->∃m',m'<m/\W (i+1) m' σ' H')/\∀x H',(Gx lo n).yld i H x H'->g x σ H' λσ2 H2=>tb { D with nx:=N,ct:=N,bk:=D.nx } σ2 H2):=by
 refine⟨λi m σ H=>m=n-i/\i<=n/\Pv i σ H,⟨n,by simp,P8 _,h0⟩,?_⟩;rintro i m σ H ⟨rfl,hi,p⟩;by_cases F:i<n
 ·refine .inr ⟨F,Pv (i+1),λσ' H' I=>⟨n-(i+1),by lia,rfl,F,I⟩,λx H' y=>?_⟩;obtain⟨e,y⟩:=y;subst e y;exact hs i σ _ F p
 ·have e:i=n:=by lia
  subst e;exact .inl ⟨Pk _,hd σ H p⟩
noncomputable abbrev R2:=V->V->Hp->VK->Prop
def OpR (X:Cx)(f:Value->Value->Sem Value)(r:R2):Prop :=
 ∀(pins:List (Addr×Obj))(s:Shared)(σ:St)(H:Hp)(x y:V)(v u:Value)(Q:VK),Inv X pins σ H s->RelV x v->RelV y u->r x y H Q ->
  wpAny (model X.prog X.w) X.A (f v u) (EP X pins σ Q) X.xe s
def UnR (X:Cx)(f:Value->Sem Value)(r:V->Hp->VK->Prop):Prop :=
 ∀(pins:List (Addr×Obj))(s:Shared)(σ:St)(H:Hp)(x:V)(v:Value)(Q:VK),Inv X pins σ H s->RelV x v->r x H Q ->
  wpAny (model X.prog X.w) X.A (f v) (EP X pins σ Q) X.xe s
def Dk (X:Cx)(f:Value)(r:List V->Hp->VK->Prop):Prop :=
 ∀(pins:List (Addr×Obj))(s:Shared)(σ:St)(H:Hp)(xs:List V)(us:List Value)(Q:VK),Inv X pins σ H s->Vals xs us->r xs H Q ->
  wpAny (model X.prog X.w) X.A (call f us) (EP X pins σ Q) X.xe s
def TruR (X:Cx)(r:V->Hp->(Bool->Hp->Prop)->Prop):Prop :=
 ∀(pins:List (Addr×Obj))(s:Shared)(σ:St)(H:Hp)(x:V)(v:Value)(Q:Bool->Hp->Prop),Inv X pins σ H s->RelV x v->r x H Q ->
  wpAny (model X.prog X.w) X.A (truthy v) (TP X pins σ Q) X.xe s
def Fv (r:R2)(ta tb:TE):TE:=λσ H Q=>ta σ H λx H1=>tb σ H1 λy H2=>r x y H2 Q
def tUn (r:V->Hp->VK->Prop)(ta:TE):TE:=λσ H Q=>ta σ H λx H1=>r x H1 Q
def rI (C:Int->Int->Prop)(g:Int->Int->V):R2:=λx y H Q=>∃i j,x=.int i/\y=.int j/\C i j/\Q (g i j) H
def Fl (g:Int->Int->V):R2:=λx y H Q=>∃i j,x=.int i/\y=.int j/\Q (g i j) H
def rU (g:Int->V):V->Hp->VK->Prop:=λx H Q=>∃i,x=.int i/\Q (g i) H
section
variable {X:Cx}{a b c:Expr}{ta tb tc:TE}{pos:Pos}
theorem Zaq (ha:PE X a ta)(hb:PE X b tb){pins:List (Addr×Obj)}{s:Shared}{σ:St}{H:Hp}{R:V->V->Hp->Prop}(I:Inv X pins σ H s)
  (h:ta σ H λx H1=>tb σ H1 λy H2=>R x y H2) {Q:Value->Shared->Prop} {f:Value->Value->Sem Value}
  (hf:∀v u s2 x y H2,Inv X pins σ H2 s2->RelV x v->RelV y u->R x y H2->wpAny (model X.prog X.w) X.A (f v u) Q X.xe s2) :
  wpAny (model X.prog X.w) X.A (eval a X.env) (λv s₁=>wpAny (model X.prog X.w) X.A (eval b X.env) (λu s₂=>wpAny (model X.prog X.w) X.A (f v u) Q X.xe s₂) X.xe s₁) X.xe s:=by
 refine Ap (ha pins s σ H _ I h) λv U F=>?_;obtain⟨x,H1,I1,Z,q1⟩:=F;refine Ap (hb pins U σ H1 _ I1 q1) λu s2 F=>?_;obtain⟨y,H2,I2,Y,O⟩:=F;exact hf v u s2 x y H2 I2 Z Y O
theorem opI {f:Value->Value->Sem Value}{C:Int->Int->Prop}{g:Int->Int->Int}
  (rule:∀(i j:Int)(t u:Tok)(s:Shared)(Q:Value->Shared->Prop)(E:Value->Shared->Prop),C i j->Q (.int (g i j) s.toks) { s with toks:=s.toks+1 }->wpAny (model X.prog X.w) X.A (f (.int i t) (.int j u)) Q E s) :
  OpR X f (rI C λi j=>.int (g i j)):=by
 intro pins s σ H x y v u Q I U O h;obtain⟨i,j,rfl,rfl,hc,q⟩:=h;obtain⟨t,rfl⟩:=U;obtain⟨F,rfl⟩:=O;exact rule i j t F s _ _ hc ⟨.int (g i j),H,I.tok _,⟨_,rfl⟩,q⟩
theorem opI0 {f:Value->Value->Sem Value}{g:Int->Int->Int}
  (rule:∀(i j:Int)(t u:Tok)(s:Shared)(Q:Value->Shared->Prop)(E:Value->Shared->Prop),Q (.int (g i j) s.toks) { s with toks:=s.toks+1 }->wpAny (model X.prog X.w) X.A (f (.int i t) (.int j u)) Q E s) :
  OpR X f (Fl λi j=>.int (g i j)):=by
 intro pins s σ H x y v u Q I U O h;obtain⟨i,j,rfl,rfl,q⟩:=h;obtain⟨t,rfl⟩:=U;obtain⟨F,rfl⟩:=O;exact rule i j t F s _ _ ⟨.int (g i j),H,I.tok _,⟨_,rfl⟩,q⟩
theorem Op {f:Value->Value->Sem Value}{g:Int->Int->Bool}
  (rule:∀(i j:Int)(t u:Tok)(s:Shared)(Q:Value->Shared->Prop)(E:Value->Shared->Prop),Q (.bool (g i j)) s->wpAny (model X.prog X.w) X.A (f (.int i t) (.int j u)) Q E s) :
  OpR X f (Fl λi j=>.bl (g i j)):=by
 intro pins s σ H x y v u Q I U O h;obtain⟨i,j,rfl,rfl,q⟩:=h;obtain⟨t,rfl⟩:=U;obtain⟨F,rfl⟩:=O;exact rule i j t F s _ _ ⟨.bl (g i j),H,I,rfl,q⟩
def CDiv (i j:Int):Prop:=0<j/\j<1073741824
def CPow (i j:Int):Prop:=0<=j/\j<=1000000/\i.natAbs<2 ^ 64
def CMul (i j:Int):Prop:=(-(2 ^ 64)<i/\i<2 ^ 64)\/(-(2 ^ 64)<j/\j<2 ^ 64)
theorem CMul.ok (h:CMul i j):IntMulOk i j:=by
 rcases h with⟨h1,h2⟩|⟨h1,h2⟩
 ·exact .of_left (intBits_le_64 h1 h2)
 ·exact .of_right (intBits_le_64 h1 h2)
theorem op_add:OpR X (binaryOp .Add) (Fl λi j=>.int (i+j)):=opI0 λ_ _ _ _ _ _ _ q=>add_int q
theorem Zbu:OpR X (binaryOp .Sub) (Fl λi j=>.int (i-j)):=opI0 λ_ _ _ _ _ _ _ q=>sub_int q
theorem op_mul:OpR X (binaryOp .Mult) (rI CMul λi j=>.int (i*j)):=opI λ_ _ _ _ _ _ _ hc q=>mul_int q hc.ok
theorem D8:OpR X (binaryOp .FloorDiv) (rI CDiv λi j=>.int (i / j)):=opI λi j _ _ _ _ _ hc q=>by
 have h1:(0:Int)<j:=hc.1;have h2:j<1073741824:=hc.2;exact floordiv_int (by lia) (by rw[Int.fdiv_eq_ediv_of_nonneg i (by lia)];exact q) (.inl (PyProof.noPylong_small (by lia)))
theorem B7:OpR X (binaryOp .Mod) (rI (λ_ j=>0<j) λi j=>.int (i % j)):=opI λi j _ _ _ _ _ hc q=>by
 have h1:(0:Int)<j:=hc;exact mod_int' (by lia) (by rw[Int.fmod_eq_emod_of_nonneg i (by lia)];exact q)
theorem Zjg:OpR X (binaryOp .Pow) (rI CPow λi j=>.int (i ^ j.toNat)):=opI λ_ _ _ _ _ _ _ hc q=>pow_int_small hc.1 hc.2.1 hc.2.2 q
theorem unI {f:Value->Sem Value}{g:Int->Int}
  (rule:∀(i:Int)(t:Tok)(s:Shared)(Q:Value->Shared->Prop)(E:Value->Shared->Prop),Q (.int (g i) s.toks) { s with toks:=s.toks+1 }->wpAny (model X.prog X.w) X.A (f (.int i t)) Q E s) :
  UnR X f (rU λi=>.int (g i)):=by
 intro pins s σ H x v Q I F h;obtain⟨i,rfl,q⟩:=h;obtain⟨t,rfl⟩:=F;exact rule i t s _ _ ⟨.int (g i),H,I.tok _,⟨_,rfl⟩,q⟩
theorem Ke:UnR X (unaryOp .USub) (rU λi=>.int (-i)):=unI λ_ _ _ _ _ q=>neg_int q
end
noncomputable def Iw:V->V->Bool
 |.non,.non=>true|.non,.int _=>true|.int _,.non=>true|.non,.bl _=>true|.bl _,.non=>true|.non,.str _=>true|.str _,.non=>true
 |.int _,.int _=>true|.bl _,.bl _=>true|.str _,.str _=>true|.byt _,.byt _=>true
 |.int _,.str _=>true|.str _,.int _=>true|.bl _,.str _=>true|.str _,.bl _=>true
 |_,_=>false
def rEq:R2:=λx y H Q=>Iw x y=true/\Q (.bl (decide (x=y))) H
def rNe:R2:=λx y H Q=>Iw x y=true/\Q (.bl (!decide (x=y))) H
theorem Zh6:decide (V.int i=V.int j)=(i == j):=by
 rw[So];simp
theorem Zij:decide (V.bl i=V.bl j)=(i == j):=by
 rw[So];simp
theorem Ih:decide (V.str i=V.str j)=(i == j):=by
 rw[So];simp
theorem Zhe:decide (V.byt i=V.byt j)=(i.toList == j.toList):=by
 rw[So];cases i;cases j;simp
section
variable {X:Cx}{a b c:Expr}{ta tb tc:TE}{pos:Pos}
theorem B0 (I:Inv X pins σ H s)(q:Q (.bl k) H)(e:k=k'):EP X pins σ Q (.bool k') s:=by
 subst e;exact⟨.bl k,H,I,rfl,q⟩
theorem op_eq:OpR X (compareOp .Eq) rEq:=by
 intro pins s σ H x y v u Q I Y F h;obtain⟨U,q⟩:=h;cases x with
 |non =>
  cases Y;cases y with
  |non=>cases F;exact PySem.EqNone.eq_none_none (B0 I q (by simp))
  |bl j=>cases F;exact PySem.EqNone.eq_none_bool (B0 I q (by simp))
  |int j=>obtain⟨O,rfl⟩:=F;exact PySem.EqNone.eq_none_int (B0 I q (by simp))
  |str j=>obtain⟨O,rfl⟩:=F;exact PySem.EqNone.eq_none_str (B0 I q (by simp))
  |_=>exact absurd (show false=true from U) P5
 |bl i =>
  cases Y;cases y with
  |non=>cases F;exact PySem.EqNone.eq_bool_none (B0 I q (by simp))
  |bl j=>cases F;exact eq_bool (B0 I q Zij)
  |str j=>obtain⟨O,rfl⟩:=F;exact PySem.EqMixed.eq_bool_str (B0 I q (by simp))
  |_=>exact absurd (show false=true from U) P5
 |int i =>
  obtain⟨t,rfl⟩:=Y;cases y with
  |non=>cases F;exact PySem.EqNone.eq_int_none (B0 I q (by simp))
  |int j=>obtain⟨O,rfl⟩:=F;exact eq_int (B0 I q Zh6)
  |str j=>obtain⟨O,rfl⟩:=F;exact PySem.EqMixed.eq_int_str (B0 I q (by simp))
  |_=>exact absurd (show false=true from U) P5
 |str i =>
  obtain⟨t,rfl⟩:=Y;cases y with
  |non=>cases F;exact PySem.EqNone.eq_str_none (B0 I q (by simp))
  |bl j=>cases F;exact PySem.EqMixed.eq_str_bool (B0 I q (by simp))
  |int j=>obtain⟨O,rfl⟩:=F;exact PySem.EqMixed.eq_str_int (B0 I q (by simp))
  |str j=>obtain⟨O,rfl⟩:=F;exact eq_str (B0 I q Ih)
  |_=>exact absurd (show false=true from U) P5
 |byt i =>
  obtain⟨t,rfl⟩:=Y;cases y with
  |byt j=>obtain⟨O,rfl⟩:=F;exact PySem.W.eq_bytes (B0 I q Zhe)
  |_=>exact absurd (show false=true from U) P5
 |_=>cases y <;> exact absurd (show false=true from U) P5
theorem op_ne:OpR X (compareOp .NotEq) rNe:=by
 intro pins s σ H x y v u Q I Y F h;obtain⟨U,q⟩:=h;cases x with
 |non =>
  cases Y;cases y with
  |non=>cases F;exact PySem.EqNone.ne_none_none (B0 I q (by simp))
  |bl j=>cases F;exact PySem.EqNone.ne_none_bool (B0 I q (by simp))
  |int j=>obtain⟨O,rfl⟩:=F;exact PySem.EqNone.ne_none_int (B0 I q (by simp))
  |str j=>obtain⟨O,rfl⟩:=F;exact PySem.EqNone.ne_none_str (B0 I q (by simp))
  |_=>exact absurd (show false=true from U) P5
 |bl i =>
  cases Y;cases y with
  |non=>cases F;exact PySem.EqNone.ne_bool_none (B0 I q (by simp))
  |bl j=>cases F;exact ne_bool (B0 I q (congrArg not Zij))
  |str j=>obtain⟨O,rfl⟩:=F;exact PySem.EqMixed.ne_bool_str (B0 I q (by simp))
  |_=>exact absurd (show false=true from U) P5
 |int i =>
  obtain⟨t,rfl⟩:=Y;cases y with
  |non=>cases F;exact PySem.EqNone.ne_int_none (B0 I q (by simp))
  |int j=>obtain⟨O,rfl⟩:=F;exact ne_int (B0 I q (congrArg not Zh6))
  |str j=>obtain⟨O,rfl⟩:=F;exact PySem.EqMixed.ne_int_str (B0 I q (by simp))
  |_=>exact absurd (show false=true from U) P5
 |str i =>
  obtain⟨t,rfl⟩:=Y;cases y with
  |non=>cases F;exact PySem.EqNone.ne_str_none (B0 I q (by simp))
  |bl j=>cases F;exact PySem.EqMixed.ne_str_bool (B0 I q (by simp))
  |int j=>obtain⟨O,rfl⟩:=F;exact PySem.EqMixed.ne_str_int (B0 I q (by simp))
  |str j=>obtain⟨O,rfl⟩:=F;exact ne_str (B0 I q (congrArg not Ih))
  |_=>exact absurd (show false=true from U) P5
 |byt i =>
  obtain⟨t,rfl⟩:=Y;cases y with
  |byt j=>obtain⟨O,rfl⟩:=F;exact PySem.W.ne_bytes (B0 I q (congrArg not Zhe))
  |_=>exact absurd (show false=true from U) P5
 |_=>cases y <;> exact absurd (show false=true from U) P5
theorem op_lt:OpR X (compareOp .Lt) (Fl λi j=>.bl (decide (i<j))):=Op λ_ _ _ _ _ _ _ q=>lt_int q
theorem op_le:OpR X (compareOp .LtE) (Fl λi j=>.bl (decide (i<=j))):=Op λ_ _ _ _ _ _ _ q=>le_int q
theorem Zf2:OpR X (compareOp .Gt) (Fl λi j=>.bl (decide (j<i))):=Op λ_ _ _ _ _ _ _ q=>gt_int q
theorem Zu4:OpR X (compareOp .Lt) (λx y H Q=>∃i j,x=.str i/\y=.str j/\Q (.bl (decide (i.cps.toList<j.cps.toList))) H):=by
 intro pins s σ H x y v u Q I O F h;obtain⟨i,j,rfl,rfl,q⟩:=h;obtain⟨t,rfl⟩:=O;obtain⟨U,rfl⟩:=F;exact lt_str (B0 I q rfl)
theorem Zmv:OpR X (compareOp .In) (λx y H Q=>∃i j,x=.str i/\y=.str j/\Q (.bl (!(Builtin.Str.occurrences j i 0 j.length 1).isEmpty)) H):=by
 intro pins s σ H x y v u Q I O F h;obtain⟨i,j,rfl,rfl,q⟩:=h;obtain⟨t,rfl⟩:=O;obtain⟨U,rfl⟩:=F;exact in_str (B0 I q rfl)
theorem Zp3:OpR X (compareOp .NotIn) (λx y H Q=>∃i j,x=.str i/\y=.str j/\Q (.bl (!(!(Builtin.Str.occurrences j i 0 j.length 1).isEmpty))) H):=by
 intro pins s σ H x y v u Q I O F h;obtain⟨i,j,rfl,rfl,q⟩:=h;obtain⟨t,rfl⟩:=O;obtain⟨U,rfl⟩:=F;exact notIn_str (B0 I q rfl)
theorem OpR.or (h:OpR X f r)(h':OpR X f r'):OpR X f (λx y H Q=>r x y H Q\/r' x y H Q):=by
 intro pins s σ H x y v u Q I O F q;rcases q with q|q
 ·exact h pins s σ H x y v u Q I O F q
 ·exact h' pins s σ H x y v u Q I O F q
theorem A0 (b:Expr)(h:autoParam (op≠.In) zW)(h2:autoParam (op≠.NotIn) zW):behindInMarks op b=false:=by
 have F:(op == CmpOp.In)=false:=by cases op <;> first|rfl|exact absurd rfl h
 have I:(op == CmpOp.NotIn)=false:=by cases op <;> first|rfl|exact absurd rfl h2
 cases b <;> simp[behindInMarks,F,I]
def Zb3 (t:TE):TT:=λσ H Q=>t σ H λx H'=>∃k,x=.bl k/\Q k H'
def Zb2 (r r':R2)(ta tb tc:TE):TE:=λσ H Q=>ta σ H λx H1=>tb σ H1 λy H2=>r x y H2 λz F=>∃k,z=.bl k /\
 (if k=true then tc σ F λO I=>r' y O I Q else Q (.bl false) F)
def K1 (K:Ph)(x:V)(H:Hp)(k:Bool):Prop :=
 match x with
 |.non=>k=false
 |.bl b=>k=b
 |.int i=>k=(i != 0)
 |.str y=>y.length<=sizeLine/\k=((y.length:Int) != 0)
 |.byt y=>y.size<=sizeLine/\k=((y.size:Int) != 0)
 |.ref p=>(∃xs,SqL K H p xs/\k=!xs.isEmpty)\/(∃xs,SqT K H p xs/\k=!xs.isEmpty)\/∃kvs,H p=some (.dK kvs)/\k=!kvs.isEmpty
 |_=>False
theorem Zt9 {κ:Type}{kvs:List (κ×V)}{vs:List (κ×Value)}(r:KV kvs vs):(!vs.isEmpty)=!kvs.isEmpty:=by
 cases r <;> rfl
theorem Zgz (r:Vals xs its):(!its.toArray.isEmpty)=!xs.isEmpty:=by
 cases r <;> simp
theorem Ji:(sizeLine:Nat)<2 ^ 63:=by rw[sizeLine_eq];decide
theorem Zq3:TruR X (λx H Q=>∃k,K1 X.K x H k/\Q k H):=by
 intro pins s σ H x v Q I U h;obtain⟨k,e,q⟩:=h;have hl:=Ji;have hs:sizeLine=16777216:=sizeLine_eq;cases x with
 |non =>
  cases U;have F:k=false:=e;subst F;exact truthy_none ⟨H,I,q⟩
 |bl b =>
  cases U;have F:k=b:=e;subst F;exact R6 ⟨H,I,q⟩
 |int i =>
  obtain⟨t,rfl⟩:=U;have F:k=(i != 0):=e;subst F;exact PySem.P.truthy_int ⟨H,I,q⟩
 |str y =>
  obtain⟨t,rfl⟩:=U;obtain⟨hy,F⟩:y.length<=sizeLine/\k=((y.length:Int) != 0):=e;subst F;exact PySem.P.truthy_str (by lia) ⟨H,I.tok _,q⟩
 |byt y =>
  obtain⟨t,rfl⟩:=U;obtain⟨hy,F⟩:y.size<=sizeLine/\k=((y.size:Int) != 0):=e;subst F;exact PySem.W.truthy_bytes (by lia) ⟨H,I.tok _,q⟩
 |ref p =>
  cases U;have F:(∃xs,SqL X.K H p xs/\k=!xs.isEmpty)\/(∃xs,SqT X.K H p xs/\k=!xs.isEmpty)\/∃kvs,H p=some (.dK kvs)/\k=!kvs.isEmpty:=e;rcases F with⟨xs,Y,F⟩|⟨xs,Y,F⟩|⟨kvs,Y,F⟩
  ·subst F;obtain⟨Z,r,pl,hz⟩:=I.list Y;have O:=r.length;exact wpAny_truthy_list pl.isList (by simp only[Po];lia) ⟨H,I.tok _,by rw[Zgz r];exact q⟩
  ·subst F;obtain⟨Z,r,pl,hz⟩:=I.tuple Y;have O:=r.length;exact truthy_tuple pl (by simp only[Po];lia) ⟨H,I.tok _,by rw[Zgz r];exact q⟩
  ·subst F;obtain⟨hz,hS,vs,r,m⟩:kvs.length<=sizeLine/\(p == sysModules)=false/\∃vs,KV kvs vs/\s.heap.DictOf (C3 X.prog X.w) p vs:=I.hok p _ Y;have O:kvs.length=vs.length:=Ur r;exact wpAny_truthy_dict hS m (by lia) ⟨H,I.tok _,by rw[Zt9 r];exact q⟩
 |_=>exact(show False from e).elim
theorem Zqb (ha:PE X a ta)(he:∀whole,isTrue a X.env whole=(do let v <- whole;standAt a.pos;holding [v] (truthy v))) :
  PT X a (λσ H Q=>ta σ H λx H'=>∃k,K1 X.K x H' k/\Q k H'):=by
 intro pins s σ H Q I h;exact isTrue_plain (Ap (ha pins s σ H _ I h) λv F ⟨x,H1,U,O,Y⟩=>Zq3 pins F σ H1 x v Q U O Y) (he _)
theorem op_add_str:OpR X (binaryOp .Add) (λx y H Q=>∃i j,x=.str i/\y=.str j/\i.length+j.length<=sizeLine/\Q (.str (i++j)) H):=by
 intro pins s σ H x y v u Q I Y U h;obtain⟨i,j,rfl,rfl,F,q⟩:=h;obtain⟨t,rfl⟩:=Y;obtain⟨O,rfl⟩:=U;exact add_str (λO tk=>⟨.str (i++j),H,I.tok _,⟨_,rfl⟩,q⟩) F
theorem Kh (r:Vals [x] us):∃u,us=[u]/\RelV x u:=by
 cases r with
 |cons F I=>cases I;exact⟨_,rfl,F⟩
theorem Zlb:Dk X (.type "int") (λxs H Q=>(∃i,xs=[.int i]/\Q (.int i) H)\/∃k,xs=[.bl k]/\Q (.int (if k then 1 else 0)) H):=by
 intro pins s σ H xs O Q I r h;rcases h with⟨i,rfl,q⟩|⟨k,rfl,q⟩
 ·obtain⟨u,rfl,t,rfl⟩:=Kh r;exact call_int_int ⟨.int i,H,I,⟨_,rfl⟩,q⟩
 ·obtain⟨u,rfl,F⟩:=Kh r;cases F;exact call_int_bool ⟨.int (if k then 1 else 0),H,I.tok _,⟨_,rfl⟩,q⟩
def LenV (K:Ph)(x:V)(H:Hp)(n:Nat):Prop :=
 match x with
 |.str y=>y.length<=sizeLine/\n=y.length
 |.byt y=>y.size<=sizeLine/\n=y.size
 |.ref p=>(∃xs,SqL K H p xs/\n=xs.length)\/∃xs,SqT K H p xs/\n=xs.length
 |_=>False
theorem Zrq:Dk X (.builtin "len") (λxs H Q=>∃x n,xs=[x]/\LenV X.K x H n/\Q (.int n) H):=by
 intro pins s σ H xs us Q I r h;obtain⟨x,n,rfl,e,q⟩:=h;obtain⟨u,rfl,rx⟩:=Kh r;have hl:=Ji;have hs:sizeLine=16777216:=sizeLine_eq;cases x with
 |str y =>
  obtain⟨t,rfl⟩:=rx;obtain⟨hy,O⟩:y.length<=sizeLine/\n=y.length:=e;subst O;exact len_str (by lia) ⟨.int _,H,I.tok _,⟨_,rfl⟩,q⟩
 |byt y =>
  obtain⟨t,rfl⟩:=rx;obtain⟨hy,O⟩:y.size<=sizeLine/\n=y.size:=e;subst O;exact PySem.W.len_bytes (by lia) ⟨.int _,H,I.tok _,⟨_,rfl⟩,q⟩
 |ref p =>
  cases rx;have O:(∃xs,SqL X.K H p xs/\n=xs.length)\/∃xs,SqT X.K H p xs/\n=xs.length:=e;rcases O with⟨xs,U,O⟩|⟨xs,U,O⟩
  ·subst O;obtain⟨Z,Y,pl,hz⟩:=I.list U;have F:=Y.length;exact Calls.call_len_list pl.isList (by simp only[Po];lia) ⟨.int xs.length,H,I.tok _,⟨_,by simp only[Po];rw[F]⟩,q⟩
  ·subst O;obtain⟨Z,Y,pl,hz⟩:=I.tuple U;have F:=Y.length;exact len_tuple pl (by simp only[Po];lia) ⟨.int xs.length,H,I.tok _,⟨_,by simp only[Po];rw[F]⟩,q⟩
 |_=>exact(show False from e).elim
end
structure ObjM (h:Heap)(x dx C:Addr)(mA:Str->Option Value):Prop where
 obj:h.get? x=some (Wy C dx)
 ns:h.Ns1 dx mA
 ne:dx≠x
theorem Zjy {h:Heap}{dx:Addr}{mA:Str->Option Value}(n:h.Ns1 dx mA):∃od,h.get? dx=some od/\∀name,PySem.W.lookIn name od=some (mA name):=by
 obtain⟨o,es,ep,U,hd,I,_,Y⟩:=n;refine⟨o,U,λname=>?_⟩;have e:=Y name;unfold nsFind findBy at e;rw[<- Array.find?_toList]at e;unfold PySem.W.lookIn;rw[hd];dsimp only;split
 ·rename_i y q;rw[q]at e;exact congrArg some e
 ·rename_i q;rw[q]at e;have a:es.toList.any (·.refKey)=false:=by
   rw[List.any_eq_false];intro y O;obtain⟨z,t,F⟩:=I y (Array.mem_toList_iff.mp O);simp[DictEntry.refKey,F]
  have Z:¬es.toList.any (·.refKey)=true:=by rw[a];exact P5
  rw[if_neg Z];exact congrArg some e
theorem ObjM.look (I:ObjM h x dx C mA):∃od,PySem.W.InstAt h x (Wy C dx) C (some od)/\∀name,PySem.W.lookIn name od=some (mA name) :=
 let ⟨od,ho,hl⟩:=Zjy I.ns
 ⟨od,⟨I.obj,rfl,rfl,ho⟩,hl⟩
section
variable {prog:Program}{w:World}{A:Around}{E:Value->Shared->Prop}{s:Shared}{K:Ph}{x dx C f:Addr}{mA:Str->Option Value}{name:Str}{v:Value}
end
theorem RelO.some_of (r:RelO (some v) o):∃u,o=some u/\RelV v u:=by
 cases o with
 |none=>exact(show False from r).elim
 |some u=>exact⟨u,rfl,r⟩
section
variable {P:Program}{w:World}{H H':Hp}{h h':Heap}{a C dx:Addr}{fs fs':List (Str×V)}
theorem Zpz (hok:HOk P w H h)(e:H a=some (.ins C dx fs)):∃mA,ObjM h a dx C mA/\(∀f,RelO (fs.lookup f) (mA f))/\PySem.Within mA (fs.map (·.1))/\fs.length<=1000/\H dx=some (.own a):=by
 obtain⟨d,z,ne,F,mA,n,r,q⟩:=(show ObjOk P w H h a (.ins C dx fs) from hok a _ e);exact⟨mA,⟨F,n,ne⟩,r,q,z,d⟩
end
structure Cls (K:Ph)(C:Addr):Prop where
 pg:PySem.W.plainGet K C Str.empty=true
 hd:PySem.W.hasDictIn K C=true
 po:PySem.W.plainOver K C=true
 sa:PySem.W.findIn K (.ref C) "__setattr__"=some (some (.builtin "object.__setattr__"))
theorem Cls.get {K:Ph}{C:Addr}(c:Cls K C)(f:Str):PySem.W.plainGet K C f=true:=c.pg
section
variable {X:Cx}{pins:List (Addr×Obj)}{σ:St}{H:Hp}{s:Shared}{a C dx:Addr}{fs:List (Str×V)}{f:Str}{v:V}{A:Around}{E:Value->Shared->Prop}
end
section
variable {X:Cx}{o e value:Expr}{f:Str}{pos pos' tpos:Pos}{ta tv:TE}
end
section
variable {X:Cx}{pins:List (Addr×Obj)}{σ:St}{H:Hp}{s:Shared}{A:Around}{E:Value->Shared->Prop}{Q:Value->Shared->Prop}{c:Value}{b:Bool}
inductive Ed (K:Ph)(H:Hp):V->Value->Prop where
 |non:Ed K H .non (.type "NoneType")
 |bl (x:Bool):Ed K H (.bl x) (.type "bool")
 |int (i:Int):Ed K H (.int i) (.type "int")
 |str (x:Str):Ed K H (.str x) (.type "str")
 |flt (x:UInt64):Ed K H (.flt x) (.type "float")
 |lst {a:Addr} {xs:List V} (e:H a=some (.lst xs)):Ed K H (.ref a) (.type "list")
 |frz {a:Addr} {o:Obj} {xs:List V} (e:H a=some (.frz o (.lst xs))):Ed K H (.ref a) (.type "list")
 |tup {a:Addr} {xs:List V} (e:H a=some (.tup xs)):Ed K H (.ref a) (.type "tuple")
 |dK {a:Addr} {kvs:List (Av×V)} (e:H a=some (.dK kvs)):Ed K H (.ref a) (.type "dict")
 |dT {a:Addr} {kvs:List (List Av×V)} (e:H a=some (.dT kvs)):Ed K H (.ref a) (.type "dict")
 |ins {a C dx:Addr} {fs:List (Str×V)} (e:H a=some (.ins C dx fs)) (cl:Cls K C) (ha:PySem.W.findIn K (.ref C) "__class__"=some (some (.builtin "object.__class__")))
   (hn:PySem.W.specialIn K (.builtin "object.__class__") "__get__"=some (some (.builtin "getset_descriptor.__get__"))) (htk:PySem.W.takesIn K (.builtin "object.__class__")=some true)
   (hm:PySem.W.mroIn K C (.type "object")=some true):Ed K H (.ref a) (.ref C)
theorem Zoc (I:Inv X pins σ H s)(rx:RelV x u)(ty:Ed X.K H x t)(e:Rx X.K t c=some b)(h:∀tk,Q (.bool b) { s with toks:=tk }) :
  wpAny (model X.prog X.w) A (call (.builtin "isinstance") [u,c]) Q E s:=by
 cases ty with
 |non=>cases (show u=Value.none from rx);exact Q5 PySem.W.kitx_none I.kIn True.intro e (λz=>nomatch z) h
 |bl y=>cases (show u=Value.bool y from rx);exact Q5 PySem.W.kitx_bool I.kIn True.intro e (λz=>nomatch z) h
 |int i=>obtain⟨t,q⟩:=(show ∃t,u=Value.int i t from rx);cases q;exact Q5 PySem.W.kitx_int I.kIn True.intro e (λz=>nomatch z) h
 |str y=>obtain⟨t,q⟩:=(show ∃t,u=Value.str y t from rx);cases q;exact Q5 PySem.W.kitx_str I.kIn True.intro e (λz=>nomatch z) h
 |flt y=>obtain⟨t,q⟩:=(show ∃t,u=Value.float y t from rx);cases q;exact Q5 PySem.W.kitx_float I.kIn True.intro e (λz=>nomatch z) h
 | @lst a xs F =>
  cases (show u=Value.ref a from rx);obtain⟨_,_,n,_,h1⟩:=(show ObjOk X.prog X.w H s.heap a (.lst xs) from I.hok a _ F);exact Q5 Wp I.kIn ⟨_,h1,rfl⟩ e (λz=>nomatch z) h
 | @frz a ob xs F =>
  cases (show u=Value.ref a from rx);obtain⟨_,_,_,n,_,h1⟩:=(show ObjOk X.prog X.w H s.heap a (.frz ob (.lst xs)) from I.hok a _ F);exact Q5 Wp I.kIn ⟨_,h1,rfl⟩ e (λz=>nomatch z) h
 | @tup a xs F =>
  cases (show u=Value.ref a from rx);obtain⟨_,_,_,p⟩:=(show ObjOk X.prog X.w H s.heap a (.tup xs) from I.hok a _ F);obtain⟨o,h1,h2,_⟩:=p;exact Q5 PySem.W.kitx_tuple I.kIn ⟨o,h1,h2⟩ e (λz=>nomatch z) h
 | @dK a kvs F =>
  cases (show u=Value.ref a from rx);obtain⟨_,_,vs,_,p⟩:=(show ObjOk X.prog X.w H s.heap a (.dK kvs) from I.hok a _ F);obtain⟨o,es,Z,h1,h2,_⟩:=p;exact Q5 PySem.W.kitx_dict I.kIn ⟨o,h1,h2.1⟩ e (λz=>nomatch z) h
 | @dT a kvs F =>
  cases (show u=Value.ref a from rx);obtain⟨_,_,xs,_,o,es,Z,h1,h2,_⟩:=(show ObjOk X.prog X.w H s.heap a (.dT kvs) from I.hok a _ F);exact Q5 PySem.W.kitx_dict I.kIn ⟨o,h1,h2.1⟩ e (λz=>nomatch z) h
 | @ins a C dx fs F Y ha hn U hm =>
  cases (show u=Value.ref a from rx);obtain⟨mA,O,_⟩:=Zpz I.hok F;obtain⟨od,J,_⟩:=O.look;exact Q5 (PySem.W.kitx_own (Y.get _) Y.hd ha hn U hm) I.kIn J e (λz=>nomatch z) h
end
structure Room (k:Nat)(A:Around):Prop where
 hd:A.handled=none
 dp:A.depth+3*k+5<recursionLimit
 un:A.units+16*k+200<cLine
theorem Room.mono (r:Room k A)(h:j<=k):Room j A:=⟨r.hd,by have:=r.dp;lia,by have:=r.un;lia⟩
theorem Room.deeper (r:Room (k+1) A)(env:Env):Room k (A.deeper env) :=
 ⟨r.hd,by have:=r.dp;show A.depth+1+3*k+5<_;lia,by have:=r.un;show A.units+3+16*k+200<_;lia⟩
theorem Room.depth (r:Room k A):A.depth<recursionLimit:=by have:=r.dp;lia
def Ol:TA:=λ_ H Q=>Q [] H
def Pg (ta:TE)(tr:TA):TA:=λσ H Q=>ta σ H λx H1=>tr σ H1 λxs H2=>Q (x::xs) H2
section
variable {X:Cx}{e:Expr}{es:List Expr}{te:TE}{t:TA}{pos:Pos}
theorem Zhl:PA X [] Ol:=λ_ _ _ _ H Q I h=>Te ⟨[],H,I,.nil,h⟩
theorem Zd2 (ha:PE X e te)(hr:PA X es t)(hs:autoParam (starEach (e::es) X.env=(false,eval e X.env)::starEach es X.env) zX):PA X (e::es) (Pg te t):=by
 intro pos pins s σ H Q I h;rw[hs];show wpAny _ _ (spliced ((false,eval e X.env)::backTo pos (starEach es X.env))) _ _ s;refine Sk (Ap (ha pins s σ H _ I h) λu s1 F=>?_);obtain⟨x,H1,I1,U,Z⟩:=F;exact Ap (hr pos pins s1 σ H1 _ I1 Z) λus s2 ⟨xs,H2,Y,O,q2⟩=>⟨x::xs,H2,Y,.cons U O,q2⟩
def O8 (t:TA):TE:=λσ H Q=>t σ H λxs H1=>xs.length<=sizeLine/\∀p,H1 p=none->Q (.ref p) (upd H1 p (.tup xs))
def Zaf (t:TA):TE:=λσ H Q=>t σ H λxs H1=>xs.length<=sizeLine/\∀p,H1 p=none->Q (.ref p) (upd H1 p (.lst xs))
end
noncomputable abbrev Sp:=List V->Hp->VK->XK->Prop
noncomputable abbrev Eb:=List Env->Hp->Shared->XK->Value->Shared->Prop
structure Oe (P:Program)(w:World)(K:Ph)(mg:Str->Option Value)(base:Heap)(A:Around)(outer:List Env)(s:Shared)(H:Hp):Prop where
 frames:A.frames=some outer
 mod:Mod K mg base
 bs:∀b o,base.get? b=some o->s.heap.get? b=some o/\H b=none
 bsz:base.objs.size<=s.heap.objs.size
 funs:s.heap.FunFrames base outer
 frf:∀b∈Dg outer,H b=none
 hok:HOk P w H s.heap
 bare:AllBare s.gens
def CE (outer:List Env)(P:Program)(w:World)(H:Hp)(s:Shared)(Q:VK)(u:Value)(s':Shared):Prop :=
 ∃v H',s'.os=s.os/\AllBare s'.gens/\Un (Dg outer) [] H H' s.heap s'.heap/\HOk P w H' s'.heap/\RelV v u/\Q v H'
def CR (CX:Eb)(outer:List Env)(P:Program)(w:World)(H:Hp)(s:Shared)(Q:VK)(E:XK)(r:Result)(s':Shared):Prop :=
 match r with
 |.ok (.ret u)=>CE outer P w H s Q u s'
 |.ok _=>False
 |.error e=>CX outer H s E e s'
structure A8 (P:Program)(w:World)(K:Ph)(mg:Str->Option Value)(base:Heap)(CX:Eb)(k:Nat)(f:Addr)(fd:FuncData)(ps:List Str)(sp:Sp):Prop where
 len:∀vs H Q E,sp vs H Q E->vs.length=ps.length
 run:∀(A:Around)(outer:List Env)(s:Shared)(H:Hp)(args:Args)(us:List Value)(vs:List V)(Q:VK)(E:XK),Room k A->Oe P w K mg base A outer s H->BindsTo s fd args (ps.zip us)->Vals vs us->sp vs H Q E ->
  codeAny (model P w) A (.call (.ref f) args) (CR CX outer P w H s Q E) s
section
variable {X:Cx}{pins:List (Addr×Obj)}{σ:St}{H:Hp}{s s':Shared}
theorem Inv.env0 (I:Inv X pins σ H s):Oe X.prog X.w X.K X.mg X.base X.A X.stack s H :=
 ⟨I.ok.frames,I.ok.mod,I.bs,Qn I.ok.bsz I.sz,I.stack,I.stkFree,I.hok,I.bare⟩
theorem Inv.after (I:Inv X pins σ H s)(h:CE X.stack X.prog X.w H s Q u s'):EP X pins σ Q u s':=by
 obtain⟨v,H',os,bare,un,hok,r,q⟩:=h;obtain⟨O,g,d,t,F⟩:=s';obtain rfl:F=s.os:=os;exact⟨v,H',I.call (h':=O) (g':=g) (d':=d) (t':=t) (ch:=[]) un hok bare (λb z=>absurd z (by simp)),r,q⟩
end
def M5 (sp:Sp)(dvs:List V)(E:XK)(t:TA):TE:=λσ H Q=>t σ H λvs H1=>sp (vs++dvs) H1 Q E
def Binds (K:Ph)(fd:FuncData)(ps:List Str)(ds:List Value):Prop :=
 ∀(s:Shared)(us:List Value),K.In s.heap->(us++ds).length=ps.length->BindsTo s fd ⟨us,[]⟩ (ps.zip (us++ds))
theorem Binds.all {K:Ph}{fd:FuncData}{ps:List Str}(h:∀us:List Value,us.length=ps.length->bindArgs fd ⟨us,[]⟩=pure (ps.zip us)):Binds K fd ps []:=λs us _ F=>by
 rw[Qj]at F ⊢;exact .of_eq (h us F)
def Oo (CX:Eb)(X:Cx)(E:XK):Prop:=∀(pins:List (Addr×Obj))(σ:St)(H:Hp)(s:Shared)(e:Value)(s':Shared),Inv X pins σ H s->CX X.stack H s E e s'->X.xe e s'
section
variable {X:Cx}{CX:Eb}{k:Nat}{f C:Addr}{fd:FuncData}{ps:List Str}{sp:Sp}{dvs:List V}{ds:List Value}{E:XK}{x m:Str}{p pos apos:Pos}{e o:Expr}{es:List Expr}{ta:TE}{t:TA}
theorem Zuw (F:A8 X.prog X.w X.K X.mg X.base CX k f fd ps sp)(hr:Room k X.A)(hb:Binds X.K fd ps ds)(hd:Vals dvs ds)(hx:Oo CX X E)(I:Inv X pins σ H s)(r:Vals vs us)(h:sp (vs++dvs) H Q E):wpAny (model X.prog X.w) X.A (call (.ref f) us) (EP X pins σ Q) X.xe s:=by
 have U:Vals (vs++dvs) (us++ds):=r.append hd;have Y:(us++ds).length=ps.length:=by rw[<- U.length];exact F.len _ _ _ _ h
 refine wpAny_call (codeAny_mono (F.run X.A X.stack s H ⟨us,[]⟩ (us++ds) (vs++dvs) Q E hr I.env0 (hb s us I.kIn Y) U h) λr s' O=>?_);cases r with
 |error e=>exact hx pins σ H s e s' I O
 |ok Z =>
  cases Z with
  |ret u=>exact I.after O
  |next=>exact Ry O
  |brk=>exact Ry O
  |cont=>exact Ry O
theorem Zld (F:A8 X.prog X.w X.K X.mg X.base CX k f fd ps sp)(hr:Room k X.A)(hg:Gl X x)(hm:X.mg x=some (.ref f))(hk:Uo X.K (.ref f)=true)(hb:Binds X.K fd ps ds)(hd:Vals dvs ds)(hx:Oo CX X E)
  (ha:PA X (e::es) t) (hdb:autoParam ((x == ("__debug__":Str))=false) zW) (he:autoParam (starEach (e::es) X.env=(false,eval e X.env)::starEach es X.env) zX) (hpl:autoParam ((backTo pos (starEach es X.env)).any (·.1)=false) zX) :
  PE X (.Call (.Name x p) (e::es) [] pos) (M5 sp dvs E t):=by
 intro pins s σ H Q I h;refine Wk (Zdj I hg hm ?_ hdb);refine PySem.W.callWith_K (h₀:=X.base) I.ok.mod.kin hk (Ap (ha pos pins s σ H _ I h) λZ Y U=>?_) he hpl;obtain⟨vs,H1,O,r,q⟩:=U;refine⟨O.kIn,?_⟩;exact Zuw F hr hb hd hx O r q
end
section
variable {X:Cx}{CX:Eb}{k:Nat}{f C:Addr}{fd:FuncData}{ps ks:List Str}{sp:Sp}{E:XK}{x m:Str}{p pos apos kpos:Pos}{e o:Expr}{es:List Expr}{kws:List Keyword}{te ta:TE}{t tk:TA}{nm:Option Str}
variable {g:List Value->List Value->List Value}{gV:List V->List V->List V}
end
structure Bm (N P:List Str)(sc:Scope):Prop where
 kind:sc.kind=.function
 co:sc.isCoroutine=false
 gen:sc.isGenerator=false
 nd:N.Nodup
 pre:N.take P.length=P
 par:∀x∈P,sc.names.lookup x=some .local\/sc.names.lookup x=some .cell
 nofree:∀y∈sc.names,y.2≠.free
theorem Zeb {kindOf:Str->Option NameKind}{x:Str}:∀{binds:List (Str×Value)}{m:Str->Option Value},(∀v,(x,v) ∉ binds)->bindL kindOf binds m x=m x
 |[],_,_=>rfl
 | (n,v)::r,m,h=>by
  unfold bindL;rw[Zeb λw F=>h w (Qo _ F)];split
  ·have:x≠n:=by rintro rfl;exact h v Uc
   simp[this]
  ·rfl
theorem Zi6 {kindOf:Str->Option NameKind}{x:Str}:∀{binds:List (Str×Value)}{m:Str->Option Value},(∀v,(x,v) ∉ binds)->bindC kindOf binds m x=m x
 |[],_,_=>rfl
 | (n,v)::r,m,h=>by
  unfold bindC;rw[Zi6 λw F=>h w (Qo _ F)];split
  ·rfl
  ·have:x≠n:=by rintro rfl;exact h v Uc
   simp[this]
theorem Zf0 {kindOf:Str->Option NameKind}{x:Str}{v:Value}:∀{P:List Str}{vs:List Value}{i:Nat}{m:Str->Option Value},P.Nodup->P[i]?=some x->vs[i]?=some v->kindOf x=some .local ->
  bindL kindOf (P.zip vs) m x=some v
 |[],_,_,_,_,h,_,_=>by simp at h
 |_::_,[],_,_,_,_,h,_=>by simp at h
 |p::P,w::vs,0,m,nd,h1,h2,F=>by
  simp at h1 h2;subst h1;subst h2;show bindL kindOf ((p,w)::P.zip vs) m p=_;unfold bindL;rw[Zeb λv I=>(Sb.mp nd).1 (Ui I).1,if_pos F];simp
 |p::P,w::vs,i+1,m,nd,h1,h2,F=>by
  show bindL kindOf ((p,w)::P.zip vs) m x=_;unfold bindL;exact Zf0 (i:=i) (Sb.mp nd).2 (by simpa using h1) (by simpa using h2) F
theorem Zd1 {kindOf:Str->Option NameKind}{x:Str}{v:Value}:∀{P:List Str}{vs:List Value}{i:Nat}{m:Str->Option Value},P.Nodup->P[i]?=some x->vs[i]?=some v->kindOf x≠some .local ->
  bindC kindOf (P.zip vs) m x=some v
 |[],_,_,_,_,h,_,_=>by simp at h
 |_::_,[],_,_,_,_,h,_=>by simp at h
 |p::P,w::vs,0,m,nd,h1,h2,F=>by
  simp at h1 h2;subst h1;subst h2;show bindC kindOf ((p,w)::P.zip vs) m p=_;unfold bindC;rw[Zi6 λv I=>(Sb.mp nd).1 (Ui I).1,if_neg F];simp
 |p::P,w::vs,i+1,m,nd,h1,h2,F=>by
  show bindC kindOf ((p,w)::P.zip vs) m x=_;unfold bindC;exact Zd1 (i:=i) (Sb.mp nd).2 (by simpa using h1) (by simpa using h2) F
noncomputable def Gf (N:List Str)(vs:List V):St:=vs.map some++Q1 (N.length-vs.length) none
noncomputable def Hx (CX:Eb)(P:Program)(w:World)(K:Ph)(mg:Str->Option Value)(base:Heap)(N:List Str)(qual:Str)(scope:Scope)(f:Addr)(cd:Value)(A:Around)(outer:List Env)(s:Shared)(H:Hp)(E:XK):Cx where
 prog:=P
 w:=w
 K:=K
 mg:=mg
 base:=base
 A:=A.deeper (envOfC qual scope s.heap.objs.size f cd)
 N:=N
 s₀:=s
 H₀:=H
 env:=envOfC qual scope s.heap.objs.size f cd
 outer:=outer
 stack:=envOfC qual scope s.heap.objs.size f cd::outer
 ex:=[]
 calm:=true
 fn:=λ_=>true
 pn:=[]
 xe:=λe s'=>wpAny (model P w) (A.deeper (envOfC qual scope s.heap.objs.size f cd)) (leaving (envOfC qual scope s.heap.objs.size f cd) e) (λ_ F=>CX outer H s E e F) (λI F=>CX outer H s E I F) s'
theorem Zbr {sc:Scope}{n:Nat}{x:Str}(h:sc.names.lookup x=some .cell):∃c,(cellsFrom n sc.names []).lookup x=some c:=by
 have q:=PySem.W.cellsFrom_some sc.names n [] (.inl h);exact Rz.mp q
theorem Zoz {CX:Eb}{P:Program}{w:World}{K:Ph}{mg:Str->Option Value}{base:Heap}{N ps:List Str}{qual:Str}{scope:Scope}{f:Addr}{cd:Value}{A:Around}{outer:List Env}{s s1:Shared}{H:Hp}{E:XK}{us:List Value}{vs:List V}
  (S:Bm N ps scope) (hd:A.handled=none) (e0:Oe P w K mg base A outer s H) (hl:vs.length=ps.length) (r:Vals vs us)
  (x:InCallC s s.heap.objs.size (bindL (envOfC qual scope s.heap.objs.size f cd).kindOf (ps.zip us) λ_=>none) (cellsFrom (s.heap.objs.size+1) scope.names []) (bindC (envOfC qual scope s.heap.objs.size f cd).kindOf (ps.zip us) λ_=>none) s1) :
  Inv (Hx CX P w K mg base N qual scope f cd A outer s H E) [] (Gf N vs) H s1:=by
 have aa:ps.length<=N.length:=by have:=congrArg Qx S.pre;rw[Qb]at this;lia
 obtain⟨h1,tk,rfl,Y⟩:=x.done;have F:∀b:Addr,b ∉ (Hx CX P w K mg base N qual scope f cd A outer s H E).ex:=λb z=>absurd (show b∈([]:List Addr) from z) (by simp);refine⟨⟨e0.mod,S.kind,rfl,rfl,Pk _,λy z c h1 h2=>?_,λy I=>?_,λy c _ h=>?_,λ_=>hd,Around.frames_deeper e0.frames,.inr ⟨rfl,rfl⟩,λb z=>absurd z (F b),e0.bs,e0.bsz,λb _ _=>F b,λb z=>absurd z (F b),e0.funs,e0.frf⟩,
  rfl,e0.bare,Un.kept Y,⟨_,x.toInCall.ns,λi y v h1 h2 h3=>?_⟩,λy c h=>⟨_,x.cell y c h⟩,e0.hok.fresh (Pk _),λy c h=>?_,λp U=>absurd (show p∈([]:List (Addr×Obj)) from U) (by simp),e0.hok.kept Y,?_⟩
 ·exact name_of_addr x.apart (Sj h1) (Sj h2)
 ·have I:scope.names.lookup y=some .cell\/scope.names.lookup y=some .free:=I;rcases I with I|I
  ·exact Zbr I
  ·exact absurd rfl (S.nofree _ (Sj I))
 ·exact Vv (x.above y c (Sj h))
 ·have hi:i<vs.length:=by
   unfold Gf at h2;by_cases hi:i<vs.length
   ·exact hi
   ·rw[Qk (by simpa using hi)]at h2;rw[List.getElem?_replicate]at h2;split at h2 <;> cases h2
  have ha:vs[i]?=some v:=by
   unfold Gf at h2;rw[Qh (by simpa using hi),Qf]at h2;cases e:vs[i]? with
   |none=>rw[e]at h2;cases h2
   |some a=>rw[e]at h2;cases h2;rfl
  obtain⟨u,Z,rv⟩:=r.get ha;have U:ps[i]?=some y:=by
   rw[<- S.pre,List.getElem?_take_of_lt (by lia)];exact h1
  have O:ps.Nodup:=by rw[<- S.pre];exact S.nd.sublist (List.take_sublist _ _)
  refine⟨u,rv,?_⟩;rcases S.par y (Qu U) with k|k
  ·exact .inl ⟨k,Zf0 O U Z k⟩
  ·obtain⟨c,e⟩:=Zbr (n:=s.heap.objs.size+1) k;refine .inr ⟨.inl k,c,e,?_⟩;have q:=x.cell y c e;rw[Zd1 O U Z (by show scope.names.lookup y≠_;rw[k];decide)]at q;exact q
 ·exact e0.hok.fresh (Vv (x.above y c (Sj h)))
 ·unfold Gf;show _=N.length;rw[Pr,Pp,List.length_replicate];lia
theorem Zp0 {CX:Eb}{P:Program}{w:World}{K:Ph}{mg:Str->Option Value}{base:Heap}{k:Nat}{f:Addr}{name qual:Str}{params:Arguments}{body:List Stmt}{scope:Scope}{dV kV doc pm cdv ct oc:Value}{an od:Option Addr}
  {osl:Array (Option Value)} {N ps:List Str} {sp:Sp} (lk:K.lookup f=some ⟨oc,od,.func (Se name qual params body scope dV kV doc pm an cdv ct),osl⟩) (hcd:PySem.W.codeIn K cdv qual=true) (S:Bm N ps scope)
  (len:∀vs H Q E,sp vs H Q E->vs.length=ps.length)
  (hbody:∀(A:Around)(outer:List Env)(s:Shared)(H:Hp)(vs:List V)(Q:VK)(E:XK),Room k (A.deeper (envOfC qual scope s.heap.objs.size f cdv))->sp vs H Q E ->
   ∃t,PSs (Hx CX P w K mg base N qual scope f cdv A outer s H E) body t/\t { nx:=λ_ H'=>Q .non H',rt:=Q } (Gf N vs) H) :
  A8 P w K mg base CX (k+1) f (Se name qual params body scope dV kV doc pm an cdv ct) ps sp:=by
 refine⟨len,λA outer s H ae us vs Q E hr Z hb r Y=>?_⟩;have hl:=len _ _ _ _ Y;have KX:K.In s.heap:=Z.mod.kin.keeps λb o e=>(Z.bs b o e).1;have aa:s.heap.NoLimit:=Z.mod.nolimit.keeps λb o e=>(Z.bs b o e).1;have O:∀y∈ps.zip us,scope.names.lookup y.1=some .local\/(scope.names.lookup y.1=some .cell/\((cellsFrom (s.heap.objs.size+1) scope.names []).lookup y.1).isSome=true):=λ⟨n,v⟩ hy=>by
  rcases S.par n (Ui hy).1 with q|q
  ·exact .inl q
  ·exact .inr ⟨q,PySem.W.cellsFrom_some _ _ _ (.inl q)⟩
 refine codeAny_call_function hr.depth (KX _ _ lk) rfl S.co S.gen rfl (PySem.W.codeRec_of KX hcd) (hb _ _ _ _ ?_);refine wpAny_newFunctionEnv_cells S.kind O λenv he s1 x=>?_;subst he;refine⟨aa.keeps x.toInCall.keep,codeAny_func ?_⟩;obtain⟨t,ht,hq⟩:=hbody A outer s H vs Q E (hr.deeper _) Y;have I:Inv (Hx CX P w K mg base N qual scope f cdv A outer s H E) [] (Gf N vs) H s1:=Zoz S hr.hd Z hl r x;refine Ts (ht [] s1 (Gf N vs) H _ I hq) (λfl s' U=>?_) λe s' U=>U;have fin:∀{F:St}{H':Hp}{v:V}{u:Value},Inv (Hx CX P w K mg base N qual scope f cdv A outer s H E) [] F H' s'->RelV v u->Q v H'->CE outer P w H s Q u s' :=
  λ{F H' v u} J rv q=>⟨v,H',J.os,J.bare,J.base,J.hok,rv,q⟩
 cases fl with
 |ret u =>
  obtain⟨v,F,H',J,rv,q⟩:=U;exact fin J rv q
 |next =>
  obtain⟨F,H',J,q⟩:=U;exact fin (v:=V.non) (u:=Value.none) J rfl q
 |brk =>
  obtain⟨_,_,_,q⟩:=U;exact Ry q
 |cont =>
  obtain⟨_,_,_,q⟩:=U;exact Ry q
section
variable {X:Cx}{x:Str}{p pos:Pos}{e:Expr}{es:List Expr}{t:TA}{id T:String}{r:List V->Hp->VK->Prop}
def tCB (r:List V->Hp->VK->Prop)(t:TA):TE:=λσ H Q=>t σ H λvs H1=>r vs H1 Q
end
end L2
namespace HT
open PySem PyProof.Rows
section
open PySem.SeqAt
open PySem.AutoSeq1 (wpAny_loadPart')
open PySem.MeetsSeq PySem.MeetsSeq2 PySem.MeetsSeq3
end
section
variable {prog:Program}{w:World}{A:Around}{E:Value->Shared->Prop}{s:Shared}
theorem cat_tup (ht:IsTup s.heap t vs.toArray)(hb:IsTup s.heap b ws.toArray)(hv:vs≠[])(h1:ws=[]->Q (.ref t) s)(h2:ws≠[]->Q (.ref s.heap.objs.size) { s with heap:=s.heap.push { cls:=.type "tuple",data:=.seq (vs++ws).toArray } })(hsz:vs.length+ws.length<=sizeLine):wpAny (model prog w) A (binaryOp .Add (.ref t) (.ref b)) Q E s:=by
 obtain⟨⟨cls,dd,data,sl⟩,Z,hc,n,hd⟩:=id ht;obtain⟨⟨ae,O,aa,I⟩,F,Y,n2,U⟩:=id hb;simp only at hc hd Y U;subst hc hd Y U;have e:vs.toArray++ws.toArray=(vs++ws).toArray:=by simp
 by_cases hw:ws=[]
 ·exact Vw ⟨_,Z,rfl⟩ ⟨_,F,rfl⟩ Vi Vr U7 U4 (U2 _ _)
   (tuple_addW1 t b vs.toArray ws.toArray n n2 dd O sl I (by simpa using hv) (by simp[hw])) ⟨Z,F,h1 hw⟩
 ·refine Vw ⟨_,Z,rfl⟩ ⟨_,F,rfl⟩ Vi Vr U7 U4 (U2 _ _)
   (tuple_addW2 t b vs.toArray ws.toArray n n2 dd O sl I (by simpa using hv) (by simpa using hw) (by rw[Po,Po];exact hsz)) ⟨Z,F,?_⟩
  rw[e];exact h2 hw
noncomputable def sIx (n d:Nat):Option Int->Nat
 |none=>d
 |some v=>if v<0 then (v+(n:Int)).toNat else min v.toNat n
theorem sIx_none (n d:Nat):sIx n d none=d:=rfl
theorem sIx_nat (n d k:Nat):sIx n d (some (k:Int))=min k n:=by
 show(if (k:Int)<0 then ((k:Int)+(n:Int)).toNat else min (k:Int).toNat n)=min k n;rw[if_neg (by lia),Sm]
theorem Zku (n d:Nat)(hd:d<=n)(o:Option Int):sIx n d o<=n:=by
 cases o with
 |none=>exact hd
 |some v =>
  show(if v<0 then (v+(n:Int)).toNat else min v.toNat n)<=n;by_cases F:v<0
  ·rw[if_pos F];lia
  ·rw[if_neg F];exact Nat.min_le_right _ _
theorem Zgq (v:Int)(n d:Nat):(if v<0 then max (v+(n:Int)) 0 else min v (n:Int))=((sIx n d (some v):Nat):Int):=by
 show(if v<0 then max (v+(n:Int)) 0 else min v (n:Int))=(((if v<0 then (v+(n:Int)).toNat else min v.toNat n):Nat):Int);by_cases F:v<0
 ·simp only[if_pos F];lia
 ·simp only[if_neg F];lia
theorem Zrm (lo hi:Option Int)(n:Nat):V7 lo hi 1 (n:Int)=(((sIx n 0 lo:Nat):Int),((sIx n n hi:Nat):Int)):=by
 have h1:¬((1:Int)<0):=by lia
 unfold V7;simp only[h1,if_false];refine Prod.ext ?_ ?_
 ·cases lo with
  |none=>rfl
  |some v=>exact Zgq v n 0
 ·cases hi with
  |none=>rfl
  |some v=>exact Zgq v n n
theorem Zms (i j:Nat):U1 (i:Int) (j:Int) 1=j-i:=by
 unfold U1;have h1:(1:Int) > 0:=by lia
 simp only[h1,if_true,Int.ediv_one];split <;> lia
theorem Zfw (p:IsPart v o)(h:Q o s):wpAny (model prog w) A (Builtin.Slice.slicePartIndex v) Q E s:=by
 cases p with
 |none=>exact slicePart_none h
 |int i t=>exact slicePart_int h
theorem sliceApplied_gen {sl:Addr}{vl vu:Value}{lo hi:Option Int}{n:Nat}{Q:Int×Int×Nat->Shared->Prop}(hs:s.heap.IsSliceOf sl vl vu .none)(pl:IsPart vl lo)(pu:IsPart vu hi)
  (h:Q (((sIx n 0 lo:Nat):Int),1,sIx n n hi-sIx n 0 lo) s):wpAny (model prog w) A (Builtin.Slice.sliceApplied (.ref sl) (pure (n:Int))) Q E s:=by
 obtain⟨os,F,O,I⟩:=id hs;unfold Builtin.Slice.sliceApplied Builtin.Slice.sliceFields;refine Pi (Pi (P9 F I (x:=vl) rfl (Pi (P9 F I (x:=vu) rfl (Pi (P9 F I (x:=.none) rfl (Pl ?_)))))));refine Pi (slicePart_none ?_);show wpAny _ _ (if ((1:Int) == 0)=true then _ else _) _ _ s;rw[if_neg (by decide)];refine Pi (Zfw pl (Pi (Zfw pu (Pi (Pl ?_)))));show wpAny _ _ (match V7 lo hi 1 (n:Int) with|(lo,hi)=>pure (lo,(1:Int),U1 lo hi 1)) _ _ s;rw[Zrm lo hi n];show wpAny _ _ (pure (((sIx n 0 lo:Nat):Int),(1:Int),U1 ((sIx n 0 lo:Nat):Int) ((sIx n n hi:Nat):Int) 1)) _ _ s;rw[Zms];exact Pl h
theorem Zr6 (xs:Array Value)(i k:Nat):((Pn k).filterMap λ(m:Nat)=>xs[((i:Int)+(m:Int)*1).toNat]?).toArray=((xs.toList.drop i).take k).toArray:=by
 have e:(λ(m:Nat)=>xs[((i:Int)+(m:Int)*1).toNat]?)=λm=>xs[i+m]?:=by
  funext m;have:((i:Int)+(m:Int)*1).toNat=i+m:=by lia
  rw[this]
 rw[e];have:=pick_run xs i k;rw[List.filterMap_map]at this;have F:((λx=>xs[x]?) ∘ λx=>i+x)=λm=>xs[i+m]?:=rfl;rw[F]at this;rw[this]
theorem getItem_tuple_cut {t sl:Addr}{items:Array Value}{vl vu:Value}{lo hi:Option Int}{Q:Value->Shared->Prop}(ht:IsTup s.heap t items)(hs:s.heap.IsSliceOf sl vl vu .none)(pl:IsPart vl lo)(pu:IsPart vu hi)
  (hw:¬(sIx items.size 0 lo=0/\sIx items.size items.size hi=items.size))
  (h:Q (.ref s.heap.objs.size) { s with heap:=s.heap.push { cls:=.type "tuple",data:=.seq ((items.toList.drop (sIx items.size 0 lo)).take (sIx items.size items.size hi-sIx items.size 0 lo)).toArray } })
  (hsz:items.size<=sizeLine):wpAny (model prog w) A (getItem (.ref t) (.ref sl)) Q E s:=by
 have F:sizeOk (.seq ((items.toList.drop (sIx items.size 0 lo)).take (sIx items.size items.size hi-sIx items.size 0 lo)).toArray):=by
  show((items.toList.drop (sIx items.size 0 lo)).take (sIx items.size items.size hi-sIx items.size 0 lo)).toArray.size<=sizeLine;rw[Po,Qb,Ug,T8];lia
 have hj:sIx items.size items.size hi<=items.size:=Zku _ _ (Pk _) hi;obtain⟨os,U,Y,Z⟩:=id hs;have I:s.TypeIs (.ref sl) "slice":=⟨os,U,Y⟩;unfold getItem
 try with_reducible refine Ra ?_
 first|refine Pi (Pl ?_)|skip
 refine Pi (wpAny_sequenceKey ht.typeIs (by decide) ?_);refine Pi (Ro (name:=Qw "__getitem__") ht.typeIs Sw
  (Rt Sw ht.typeIs entry_tuple_getitem ?_ (args_tuple_getitem _ _)))
 show wpAny _ _ (Builtin.Tuple.tupleItemsOf (.ref t) >>= _) _ _ s;refine Pi (tupleItemsOf_ ht ?_);refine Pi (Vx I ?_);rw[if_pos (by decide)];refine Pi (sliceApplied_gen hs pl pu ?_);have O:¬((((sIx items.size 0 lo:Nat):Int) == 0 && (1:Int) == 1 && (sIx items.size items.size hi-sIx items.size 0 lo) == items.size)=true):=by
  intro q;rw[R3,R3]at q;have q1:((sIx items.size 0 lo:Nat):Int)=0:=eq_of_beq q.1.1;have q2:sIx items.size items.size hi-sIx items.size 0 lo=items.size:=eq_of_beq q.2;exact hw ⟨by lia,by lia⟩
 show wpAny _ _ (if (((sIx items.size 0 lo:Nat):Int) == 0 && (1:Int) == 1 && (sIx items.size items.size hi-sIx items.size 0 lo) == items.size)=true then _ else _) _ _ s;rw[if_neg O,Zr6]
 first
  |exact Pi (m:=U3 _) (R7 (Pl ⟨_,rfl,Pl h⟩) F)
  |exact Pi (m:=U3 _) (R7 (Pi (Pl (Pl ⟨_,rfl,Pl h⟩))) F)
  |exact Pi (Pi (m:=U3 _) (R7 (Pl (Pl ⟨_,rfl,Pl h⟩)) F))
  |exact Pi (Pi (m:=U3 _) (R7 (Pl ⟨_,rfl,Pl h⟩) F))
end
end HT
namespace L2
open PySem PySem.Spec PyProof.Rows
noncomputable abbrev TO:=St->Hp->(Option Int->Hp->Prop)->Prop
def PO (X:Cx)(e:Option Expr)(t:TO):Prop :=
 ∀(pins:List (Addr×Obj))(s:Shared)(σ:St)(H:Hp)(Q:Option Int->Hp->Prop),Inv X pins σ H s->t σ H Q ->
  wpAny (model X.prog X.w) X.A (evalPart e X.env) (λu s'=>∃o H',Inv X pins σ H' s'/\IsPart u o/\Q o H') X.xe s
def Ow:TO:=λ_ H Q=>Q none H
def Zcs (t:TE):TO:=λσ H Q=>t σ H λx H1=>∃i,x=.int i/\Q (some i) H1
section
variable {X:Cx}{e:Expr}{te:TE}{lo hi:Option Expr}{tl th:TO}{pos p2:Pos}
def SlR (X:Cx)(r:V->Option Int->Option Int->Hp->VK->Prop):Prop :=
 ∀(pins:List (Addr×Obj))(s:Shared)(σ:St)(H:Hp)(x:V)(v vl vu:Value)(lo hi:Option Int)(sl:Addr)(Q:VK),Inv X pins σ H s->RelV x v->s.heap.IsSliceOf sl vl vu .none->IsPart vl lo->IsPart vu hi->r x lo hi H Q ->
  ∃T id,typeLookup (.type T) "__getitem__"=pure (some (.builtin id))/\s.TypeIs v T/\wpAny (model X.prog X.w) X.A (getItem v (.ref sl)) (EP X pins σ Q) X.xe s
theorem SlR.or (h:SlR X r)(h':SlR X r'):SlR X (λx lo hi H Q=>r x lo hi H Q\/r' x lo hi H Q):=by
 intro pins s σ H x v Z vu lo hi Y Q I U O pl F q;rcases q with q|q
 ·exact h pins s σ H x v Z vu lo hi Y Q I U O pl F q
 ·exact h' pins s σ H x v Z vu lo hi Y Q I U O pl F q
def tSl (r:V->Option Int->Option Int->Hp->VK->Prop)(te:TE)(tl th:TO):TE:=λσ H Q=>te σ H λx H1=>tl σ H1 λl H2=>th σ H2 λu F=>r x l u F Q
noncomputable def Cb (xs:List V)(lo hi:Option Int):List V:=(xs.drop (HT.sIx xs.length 0 lo)).take (HT.sIx xs.length xs.length hi-HT.sIx xs.length 0 lo)
theorem Zdh (xs:List V)(lo hi:Option Int):(Cb xs lo hi).length<=xs.length:=by
 unfold Cb;rw[Qb,Ug];lia
def rSlT (K:Ph):V->Option Int->Option Int->Hp->VK->Prop:=λx lo hi H Q=>∃a xs,x=.ref a/\SqT K H a xs /\
 ¬(HT.sIx xs.length 0 lo=0/\HT.sIx xs.length xs.length hi=xs.length)/\∀p,H p=none->Q (.ref p) (upd H p (.tup (Cb xs lo hi)))
theorem Zfc:SlR X (rSlT X.K):=by
 intro pins s σ H x v vl vu lo hi sl Q I rx hs pl Z h;obtain⟨a,xs,rfl,hx,hw,q⟩:=h;cases rx;obtain⟨O,r,Y,U⟩:=I.tuple hx;have F:O.toArray.size=xs.length:=by rw[Po];exact r.length.symm
 refine⟨"tuple",_,Sw.lookup,Y.typeIs,?_⟩;refine HT.getItem_tuple_cut Y hs pl Z (by rw[F];exact hw) ?_ (by rw[F];exact U);rw[F];refine⟨.ref s.heap.objs.size,_,I.laid (t':=s.toks) (o:=.tup (Cb xs lo hi)) (λb ob q=>Px _ q) (Pk _) ?_,rfl,q _ (I.hok.fresh (Pk _))⟩;exact⟨Qn (Zdh xs lo hi) U,_,(r.drop (HT.sIx xs.length 0 lo)).take (HT.sIx xs.length xs.length hi-HT.sIx xs.length 0 lo),IsTup.new _ _⟩
def Zpd (K:Ph):R2:=λx y H Q=>eX4 λa b xs ys=>x=.ref a/\y=.ref b/\SqT K H a xs/\SqT K H b ys/\xs≠[]/\xs.length+ys.length<=sizeLine /\
 (ys=[]->Q (.ref a) H)/\(ys≠[]->∀p,H p=none->Q (.ref p) (upd H p (.tup (xs++ys))))
theorem Vals.nil_iff (r:Vals xs us):us=[]↔xs=[]:=by
 cases r with
 |nil=>simp
 |cons _ _=>simp
theorem Zjb:OpR X (binaryOp .Add) (Zpd X.K):=by
 intro pins s σ H x y v u Q I rx ry h;obtain⟨a,b,xs,ys,rfl,rfl,ha,hb,Z,U,q1,q2⟩:=h;cases rx;cases ry;obtain⟨aa,O,p1,_⟩:=I.tuple ha;obtain⟨Y,F,p2,_⟩:=I.tuple hb;refine HT.cat_tup p1 p2 (λz=>Z (O.nil_iff.mp z)) (λz=>⟨.ref a,H,I,rfl,q1 (F.nil_iff.mp z)⟩) (λz=>?_) (by rw[<- O.length,<- F.length];exact U);refine⟨.ref s.heap.objs.size,_,I.laid (t':=s.toks) (o:=.tup (xs++ys)) (λb ob q=>Px _ q) (Pk _) ?_,rfl,q2 (λw=>z (F.nil_iff.mpr w)) _ (I.hok.fresh (Pk _))⟩;exact⟨by rw[Pr];exact U,_,O.append F,IsTup.new _ _⟩
end
noncomputable def Ea (n:Nat)(i:Int):Option Nat:=if 0<=i then (if i<n then some i.toNat else none) else if -(n:Int)<=i then some (i+n).toNat else none
noncomputable def B8 {α:Type}(xs:List α)(i:Int):Option α:=(Ea xs.length i).bind λj=>xs[j]?
theorem Zer (h:Ea n i=some j):seqIndex? i n=some j/\j<n/\-(n:Int)<=i/\i<n:=by
 unfold Ea at h;by_cases F:0<=i
 ·rw[if_pos F]at h;by_cases h1:i<n
  ·rw[if_pos h1]at h;have e:i.toNat=j:=Pz h;exact⟨by rw[seqIndex_of F h1,e],by lia,by lia,h1⟩
  ·rw[if_neg h1]at h;cases h
 ·rw[if_neg F]at h;by_cases h1:-(n:Int)<=i
  ·rw[if_pos h1]at h;have e:(i+n).toNat=j:=Pz h;exact⟨by rw[seqIndex_neg (by lia) h1,e],by lia,h1,by lia⟩
  ·rw[if_neg h1]at h;cases h
theorem Zcl {α:Type}{xs:List α}{i:Int}{v:α}(h:B8 xs i=some v):∃j,seqIndex? i xs.length=some j/\xs[j]?=some v/\j<xs.length/\-(xs.length:Int)<=i/\i<xs.length:=by
 unfold B8 at h;cases e:Ea xs.length i with
 |none=>rw[e]at h;cases h
 |some j =>
  rw[e]at h;obtain⟨h1,h2,I,F⟩:=Zer e;exact⟨j,h1,h,h2,I,F⟩
theorem C2 {α:Type}{xs:List α}{j:Nat}{v:α}(h:xs[j]?=some v):B8 xs (j:Int)=some v:=by
 have F:j<xs.length:=(Pq.mp h).1;have e:Ea xs.length (j:Int)=some j:=by
  unfold Ea;rw[if_pos (by lia),if_pos (by lia)];simp
 unfold B8;rw[e];exact h
theorem Ls {α:Type}(xs:List α)(v:α):B8 (xs++[v]) (-1)=some v:=by
 have F:(xs++[v]).length=xs.length+1:=by simp
 have e:Ea (xs++[v]).length (-1)=some xs.length:=by
  unfold Ea;rw[F,if_neg (by decide),if_pos (by lia)]
  congr 1
  lia
 unfold B8;rw[e];show(xs++[v])[xs.length]?=some v;simp
def Zce (b:Expr):Prop:=∀o i,subscripted b false o i=operate [o,i] (getItem o i)
def IxR (X:Cx)(r:R2):Prop :=
 ∀(value slice:Expr)(pins:List (Addr×Obj))(s:Shared)(σ:St)(H:Hp)(x y:V)(v u:Value)(Q:VK),Inv X pins σ H s->RelV x v->RelV y u->r x y H Q ->
  subscripted slice false v u=operate [v,u] (getItem v u)->wpAny (model X.prog X.w) X.A (subscriptTail value slice v u) (EP X pins σ Q) X.xe s
def Ht (X:Cx)(id:String)(r:V->List V->Hp->VK->Prop):Prop :=
 ∀(pins:List (Addr×Obj))(s:Shared)(σ:St)(H:Hp)(x:V)(xs:List V)(v:Value)(us:List Value)(Q:VK),Inv X pins σ H s->RelV x v->Vals xs us->r x xs H Q ->
  wpAny (model X.prog X.w) X.A (call (.builtin id) (v::us)) (EP X pins σ Q) X.xe s
section
variable {X:Cx}{a b:Expr}{ta tb:TE}{pos:Pos}
theorem IxR.or (h:IxR X r)(h':IxR X r'):IxR X (λx y H Q=>r x y H Q\/r' x y H Q):=by
 intro value F pins s σ H x y v u Q I Y U q O;rcases q with q|q
 ·exact h value F pins s σ H x y v u Q I Y U q O
 ·exact h' value F pins s σ H x y v u Q I Y U q O
def rIxL (K:Ph):R2:=λx y H Q=>eX4 λp xs i v=>x=.ref p/\y=.int i/\SqL K H p xs/\B8 xs i=some v/\Q v H
def rIxT (K:Ph):R2:=λx y H Q=>eX4 λp xs i v=>x=.ref p/\y=.int i/\SqT K H p xs/\B8 xs i=some v/\Q v H
def rIxS:R2:=λx y H Q=>eX3 λz i c=>x=.str z/\y=.int i/\z.length<=sizeLine/\B8 z.cps.toList i=some c/\Q (.str ⟨#[c]⟩) H
theorem ix_list:IxR X (rIxL X.K):=by
 intro value U pins s σ H x y v u Q I rx ry h hs;obtain⟨p,xs,i,z,rfl,rfl,hq,he,q⟩:=h;cases rx;obtain⟨t,rfl⟩:=ry;obtain⟨O,r,pl,hz⟩:=I.list hq;obtain⟨j,h1,h2,h3,h4,h5⟩:=Zcl he;obtain⟨w,ew,Y⟩:=r.get h2;have hl:=r.length;have hn:=Ji;have fin:EP X pins σ Q w s:=⟨z,H,I,Y,q⟩;by_cases Z:0<=i
 ·have F:i.toNat=j:=by
   rw[seqIndex_of Z h5]at h1;exact Pz h1
  exact item_listR pl.isList Z (by lia) (by rw[F];simpa using ew) fin hs
 ·have F:(i+(O.toArray.size:Int)).toNat=j:=by
   rw[seqIndex_neg (by lia) h4]at h1;rw[Po,<- hl];exact Pz h1
  exact subscriptTail_builtinR (x:=w) pl.isList.typeIs slot_list_getitem.lookup
   (wpAny_getItem_list_neg (Q:=λr s'=>r=w/\EP X pins σ Q r s') pl.isList (by lia) (by rw[Po] <;> lia) (by lia) (by rw[F];simpa using ew) ⟨rfl,fin⟩) hs
theorem ix_tup:IxR X (rIxT X.K):=by
 intro value F pins s σ H x y v u Q I rx ry h hs;obtain⟨p,xs,i,z,rfl,rfl,Z,he,q⟩:=h;cases rx;obtain⟨t,rfl⟩:=ry;obtain⟨Y,r,pl,hz⟩:=I.tuple Z;obtain⟨j,h1,h2,h3,h4,h5⟩:=Zcl he;obtain⟨w,ew,O⟩:=r.get h2;have U:=r.length;have hn:=Ji;have fin:EP X pins σ Q w s:=⟨z,H,I,O,q⟩;exact subscriptTail_builtinR (x:=w) pl.typeIs slot_tuple_getitem.lookup
  (getItem_tuple (j:=j) (Q:=λr s'=>r=w/\EP X pins σ Q r s') pl (by lia) (by lia) (by rw[Po,<- U];exact h1) (by simpa using ew) ⟨rfl,fin⟩) hs
theorem Zlj:IxR X rIxS:=by
 intro value F pins s σ H x y v u Q I rx Z h O;obtain⟨z,i,c,rfl,rfl,hz,he,q⟩:=h;obtain⟨t,rfl⟩:=rx;obtain⟨t',rfl⟩:=Z;obtain⟨j,h1,h2,h3,h4,U⟩:=Zcl he;have hl:z.cps.toList.length=z.length:=by simp[Str.length]
 rw[hl]at h1 h4 U;have hn:=Ji;exact tail_any (typeIs_str s z t) slot_str_getitem.lookup (getItem_str (c:=c) (by
  have e1:decide (i < -(2 ^ 63:Int))=false:=decide_eq_false (by lia);have Y:decide (i ≥ 2 ^ 63)=false:=decide_eq_false (by lia);rw[e1,Y,Vs]) (by rw[h1];simpa using h2) ⟨.str ⟨#[c]⟩,H,I.tok _,⟨_,rfl⟩,q⟩) O
def Jk (K:Ph):R2:=λx y H Q=>rIxL K x y H Q\/rIxT K x y H Q\/rIxS x y H Q
theorem Zoq:IxR X (Jk X.K):=ix_list.or (ix_tup.or Zlj)
theorem Zj0 (its:List Value)(n j:Nat)(u:Value):Qy (·.setIfInBounds j u) { cls:=.type "list",data:=.seq its.toArray n }={ cls:=.type "list",data:=.seq (its.set j u).toArray n }:=by
 simp[Qy]
theorem Inv.lst (I:Inv X pins σ H s)(h:H p=some (.lst xs)) :
  ∃(its:List Value)(n:Nat),Vals xs its/\s.heap.get? p=some { cls:=.type "list",data:=.seq its.toArray n }/\xs.length<=sizeLine:=by
 obtain⟨z,its,n,r,e⟩:=I.hok p _ h;exact⟨its,n,r,e,z⟩
theorem Inv.lstUpd {pins:List (Addr×Obj)}{σ:St}{H:Hp}{s:Shared}{p:Addr}{xs ys:List V}{its its':List Value}{n n':Nat}{f:Obj->Obj}(I:Inv X pins σ H s)(h:H p=some (.lst xs))
  (ho:s.heap.get? p=some { cls:=.type "list",data:=.seq its.toArray n }) (hf:f { cls:=.type "list",data:=.seq its.toArray n }={ cls:=.type "list",data:=.seq its'.toArray n' }) (r:Vals ys its') (hz:ys.length<=sizeLine) (t:Nat) :
  Inv X pins σ (upd H p (.lst ys)) { s with heap:=s.heap.update p f,toks:=t }:=by
 have e:(s.heap.update p f).get? p=some { cls:=.type "list",data:=.seq its'.toArray n' }:=by
  rw[S9 f ho (by rw[hf] <;> rfl),hf]
 refine I.write (x:=p) (e:=p) (by rw[h];trivial) (.inl rfl) (λb u hb q=>(Sz _ _ (Ql hb)).trans q) ⟨_,e⟩ ?_;exact⟨hz,its',n',r,e⟩
def Ze6:V->V->V->Hp->(Hp->Prop)->Prop:=λo i v H Q=>eX4 λp xs k j=>o=.ref p/\i=.int k/\H p=some (.lst xs)/\Ea xs.length k=some j/\Q (upd H p (.lst (xs.set j v)))
theorem Zuy:Zcf X Ze6:=by
 intro pins s σ H o i v ov iv u Q I ro ri rv h;obtain⟨p,xs,k,j,rfl,rfl,hp,hj,q⟩:=h;cases ro;obtain⟨t,rfl⟩:=ri;obtain⟨F,n,r,U,hz⟩:=I.lst hp;obtain⟨h1,h2,h3,Z⟩:=Zer hj;have Y:=r.length;have hn:=Ji;have I':Inv X pins σ (upd H p (.lst (xs.set j v))) { s with heap:=s.heap.update p (Qy (·.setIfInBounds j u)) } :=
  I.lstUpd hp U (Zj0 F n j u) (r.set rv j) (by rw[Qp];exact hz) s.toks
 by_cases h0:0<=k
 ·have O:k.toNat=j:=by
   rw[seqIndex_of h0 Z]at h1;exact Pz h1
  exact PySem.W.ki_setAt U h0 (by lia) (by rw[Po,<- Y];exact Z) (by rw[O];exact⟨_,I',q⟩)
 ·have O:(k+(F.toArray.size:Int)).toNat=j:=by
   rw[seqIndex_neg (by lia) h3]at h1;rw[Po,<- Y];exact Pz h1
  exact PySem.W.ki_setBack U (by lia) (by rw[Po,<- Y];exact h3) (by lia) (by rw[O];exact⟨_,I',q⟩)
theorem Znx (lo hi:Option Int)(n:Nat):(sliceBounds lo hi none n).1=((HT.sIx n 0 lo:Nat):Int)/\(sliceBounds lo hi none n).2.1=((HT.sIx n n hi:Nat):Int)/\(sliceBounds lo hi none n).2.2=1:=by
 refine⟨?_,?_,rfl⟩
 ·cases lo with
  |none=>simp[sliceBounds,HT.sIx]
  |some i =>
   simp only[sliceBounds,HT.sIx,Option.getD_none,show(1:Int) > 0 by decide,if_true];by_cases h:i<0
   ·simp only[h,if_true] <;> lia
   ·simp only[h,if_false] <;> lia
 ·cases hi with
  |none=>simp[sliceBounds,HT.sIx]
  |some i =>
   simp only[sliceBounds,HT.sIx,Option.getD_none,show(1:Int) > 0 by decide,if_true];by_cases h:i<0
   ·simp only[h,if_true] <;> lia
   ·simp only[h,if_false] <;> lia
theorem Zkm (its:List Value)(lo hi:Option Int):slicePick its.toArray lo hi none=((its.drop (HT.sIx its.length 0 lo)).take (HT.sIx its.length its.length hi-HT.sIx its.length 0 lo)).toArray:=by
 obtain⟨h1,h2,F⟩:=Znx lo hi its.toArray.size;unfold slicePick;rw[h1,h2,F];simp only[sliceRange_one,pick_run,Po] <;> rfl
def Zaa (K:Ph):V->Option Int->Option Int->Hp->VK->Prop:=λx lo hi H Q=>∃a xs,x=.ref a/\SqL K H a xs/\∀p,H p=none->Q (.ref p) (upd H p (.lst (Cb xs lo hi)))
theorem sl_list:SlR X (Zaa X.K):=by
 intro pins s σ H x v vl vu lo hi sl Q I rx Z pl U h;obtain⟨a,xs,rfl,hx,q⟩:=h;cases rx;obtain⟨aa,r,O,Y⟩:=I.list hx;have F:=r.length;refine⟨"list",_,slot_list_getitem.lookup,O.isList.typeIs,?_⟩;refine wpAny_getItem_list_slice O.isList Z pl U .none (by simp) ?_ (by rw[Po] <;> lia);rw[Zkm,<- F];refine⟨.ref s.heap.objs.size,_,I.laid (t':=s.toks) (o:=.lst (Cb xs lo hi)) (λb ob q=>Px _ q) (Pk _) ?_,rfl,q _ (I.hok.fresh (Pk _))⟩;exact⟨Qn (Zdh xs lo hi) Y,_,0,(r.drop (HT.sIx xs.length 0 lo)).take (HT.sIx xs.length xs.length hi-HT.sIx xs.length 0 lo),Qe _ rfl⟩
noncomputable def C5:V->Bool
 |.non=>true
 |.bl _=>true
 |.int _=>true
 |.str _=>true
 |_=>false
noncomputable def Ek:V->V->Bool
 |.non,.non=>true
 |.bl a,.bl b=>a == b
 |.bl a,.int b=>(if a then 1 else 0) == b
 |.int a,.bl b=>a == (if b then 1 else 0)
 |.int a,.int b=>a == b
 |.str a,.str b=>a == b
 |_,_=>false
theorem Zbd (ry:RelV y u)(rx:RelV x v)(fy:C5 y=true)(fx:C5 x=true):P0 A s u v (Ek y x):=by
 cases y with
 |non =>
  cases ry;cases x with
  |non=>cases rx;exact Vm _
  |bl b=>cases rx;exact P0.none_bool b
  |int b=>obtain⟨t,rfl⟩:=rx;exact P0.none_int b t
  |str b=>obtain⟨t,rfl⟩:=rx;exact P0.none_str b t
  |_=>exact absurd (show false=true from fx) P5
 |bl a =>
  cases ry;cases x with
  |non=>cases rx;exact P0.bool_none a
  |bl b=>cases rx;exact P0.bool_bool a b
  |int b=>obtain⟨t,rfl⟩:=rx;exact P0.bool_int a b t
  |str b=>obtain⟨t,rfl⟩:=rx;exact P0.bool_str a b t
  |_=>exact absurd (show false=true from fx) P5
 |int a =>
  obtain⟨F,rfl⟩:=ry;cases x with
  |non=>cases rx;exact P0.int_none a F
  |bl b=>cases rx;exact P0.int_bool a F b
  |int b=>obtain⟨t,rfl⟩:=rx;exact Ve a F b t
  |str b=>obtain⟨t,rfl⟩:=rx;exact Wh a F b t
  |_=>exact absurd (show false=true from fx) P5
 |str a =>
  obtain⟨F,rfl⟩:=ry;cases x with
  |non=>cases rx;exact P0.str_none a F
  |bl b=>cases rx;exact P0.str_bool a F b
  |int b=>obtain⟨t,rfl⟩:=rx;exact Wi a F b t
  |str b=>obtain⟨t,rfl⟩:=rx;exact P0.str_str a F b t
  |_=>exact absurd (show false=true from fx) P5
 |_=>exact absurd (show false=true from fy) P5
noncomputable def Dv (x:V)(u:Value):Bool:=match u with
 |.none=>Ek .non x
 |.bool b=>Ek (.bl b) x
 |.int i _=>Ek (.int i) x
 |.str z _=>Ek (.str z) x
 |_=>false
theorem Zg3 (r:RelV y u)(f:C5 y=true):Dv x u=Ek y x:=by
 cases y with
 |non=>cases r;rfl
 |bl b=>cases r;rfl
 |int i=>obtain⟨t,rfl⟩:=r;rfl
 |str z=>obtain⟨t,rfl⟩:=r;rfl
 |_=>exact absurd (show false=true from f) P5
theorem Lj:∀{xs:List V}{us:List Value},Vals xs us->xs.all C5=true->us.any (Dv x)=xs.any λy=>Ek y x
 |_,_,.nil,_=>rfl
 |y::xs,u::us,.cons r t,f=>by
  rw[Vt,R3]at f;rw[Ut,Ut,Zg3 r f.1,Lj t f.2]
theorem Ld (rx:RelV x v)(fx:C5 x=true):∀{xs:List V}{us:List Value},Vals xs us->xs.all C5=true->∀u∈us,P0 A s u v (Dv x u)
 |_,_,.nil,_=>λu F=>by cases F
 |y::xs,u::us,.cons r t,f=>λI F=>by
  rw[Vt,R3]at f;rcases Pm.mp F with rfl|F
  ·rw[Zg3 r f.1];exact Zbd r rx f.1 fx
  ·exact Ld rx fx t f.2 I F
noncomputable def Fa (x:V)(xs:List V):Bool:=xs.any λy=>Ek y x
def rIn (K:Ph)(neg:Bool):R2:=λx y H Q=>∃p xs,y=.ref p/\(SqL K H p xs\/SqT K H p xs)/\C5 x=true/\xs.all C5=true/\Q (.bl (if neg then !Fa x xs else Fa x xs)) H
theorem op_in_seq:OpR X (compareOp .In) (rIn X.K false):=by
 intro pins s σ H x y v u Q I Z ry h;obtain⟨p,xs,rfl,O,Y,fs,q⟩:=h;cases ry;rcases O with O|O
 ·obtain⟨F,r,pl,hz⟩:=I.list O;refine SeqAt.in_listAt (Dv x) pl.isList (λw U=>Ld Z Y r fs w (by simpa using U)) ⟨.bl _,H,I,rfl,?_⟩;rw[show F.toArray.any (Dv x)=F.any (Dv x) by simp,Lj r fs];exact q
 ·obtain⟨F,r,pl,hz⟩:=I.tuple O;refine SeqAt.in_tupleAt (Dv x) pl (λw U=>Ld Z Y r fs w (by simpa using U)) ⟨.bl _,H,I,rfl,?_⟩;rw[show F.toArray.any (Dv x)=F.any (Dv x) by simp,Lj r fs];exact q
theorem op_notIn_seq:OpR X (compareOp .NotIn) (rIn X.K true):=by
 intro pins s σ H x y v u Q I Z ry h;obtain⟨p,xs,rfl,O,Y,fs,q⟩:=h;cases ry;rcases O with O|O
 ·obtain⟨F,r,pl,hz⟩:=I.list O;refine SeqAt.notIn_listAt (Dv x) pl.isList (λw U=>Ld Z Y r fs w (by simpa using U)) ⟨.bl _,H,I,rfl,?_⟩;rw[show F.toArray.any (Dv x)=F.any (Dv x) by simp,Lj r fs];exact q
 ·obtain⟨F,r,pl,hz⟩:=I.tuple O;refine SeqAt.notIn_tupleAt (Dv x) pl (λw U=>Ld Z Y r fs w (by simpa using U)) ⟨.bl _,H,I,rfl,?_⟩;rw[show F.toArray.any (Dv x)=F.any (Dv x) by simp,Lj r fs];exact q
theorem Zmj:Dk X (.type "list") (λxs H Q=>∃p ys,xs=[.ref p]/\(SqL X.K H p ys\/SqT X.K H p ys)/\∀l,H l=none->Q (.ref l) (upd H l (.lst ys))):=by
 intro pins s σ H xs us Q I r h;obtain⟨p,ys,rfl,Z,q⟩:=h;obtain⟨u,rfl,rx⟩:=Kh r;cases rx;have fin:∀(F:List Value),Vals ys F->ys.length<=sizeLine->∀(h':Heap)(U:Nat),(∀b o',s.heap.get? b=some o'->h'.get? b=some o') ->
   h'.get? s.heap.objs.size=some { cls:=.type "list",dict:=none,data:=.seq F.toArray U,slots:=#[] }->EP X pins σ Q (.ref s.heap.objs.size) { s with heap:=h' }:=λF O Y h' U kp e =>
  ⟨.ref s.heap.objs.size,_,I.laid (t':=s.toks) kp (Pk _) (show ObjOk X.prog X.w _ h' _ (.lst ys) from⟨Y,F,U,O,e⟩),rfl,q _ (I.hok.fresh (Pk _))⟩
 rcases Z with Z|Z
 ·obtain⟨F,O,pl,Y⟩:=I.list Z;have aa:=O.length;obtain⟨o,ho,hc,n,hd⟩:=pl.isList;exact call_list_seq p (.inl rfl) ho hc hd (λh' U kp e=>fin F O Y h' U kp e) (by simp only[Po] <;> lia)
 ·obtain⟨F,O,pl,Y⟩:=I.tuple Z;have aa:=O.length;obtain⟨o,ho,hc,n,hd⟩:=pl;exact call_list_seq p (.inr rfl) ho hc hd (λh' U kp e=>fin F O Y h' U kp e) (by simp only[Po] <;> lia)
theorem Zlx:Dk X (.type "tuple") (λxs H Q=>∃p ys,xs=[.ref p]/\((SqL X.K H p ys/\∀l,H l=none->Q (.ref l) (upd H l (.tup ys)))\/(SqT X.K H p ys/\Q (.ref p) H))):=by
 intro pins s σ H xs us Q I r h;obtain⟨p,ys,rfl,h⟩:=h;obtain⟨u,rfl,rx⟩:=Kh r;cases rx;rcases h with⟨U,q⟩|⟨U,q⟩
 ·obtain⟨F,O,pl,Y⟩:=I.list U;have aa:=O.length;refine call_tuple_list pl.isList (λh' kp=>?_) (by simp only[Po] <;> lia);have Z:Inv X pins σ H { s with heap:=h' }:=I.kept (t':=s.toks) kp;have I2:Inv X pins σ (upd H h'.objs.size (.tup ys)) { s with heap:=h'.push { cls:=.type "tuple",data:=.seq F.toArray } } :=
   Z.laid (t':=s.toks) (λb o e=>Px _ e) (Pk _) (show ObjOk X.prog X.w _ _ _ (.tup ys) from⟨Y,F,O,IsTup.new _ _⟩)
  exact⟨.ref h'.objs.size,_,I2,rfl,q _ (Z.hok.fresh (Pk _))⟩
 ·obtain⟨F,O,pl,Y⟩:=I.tuple U;exact call_tuple_same pl ⟨.ref p,H,I,rfl,q⟩
def Jz (K:Ph)(T:String)(x:V)(H:Hp):Prop:=match x with
 |.str _=>T="str"
 |.int _=>T="int"
 |.ref p=>(T="list" /\ ∃xs,SqL K H p xs)\/(T="tuple" /\ ∃o,K.lookup p=some o/\o.cls=.type "tuple"/\o.dict=none) \/
   (T="dict"/\((∃kvs,H p=some (.dK kvs))\/∃kvs,H p=some (.dT kvs)))\/(T="set" /\ ∃S n,H p=some (.set S n))
 |_=>False
theorem Zgo (I:Inv X pins σ H s)(r:RelV x v)(ty:Jz X.K T x H) :
  s.TypeIs v T/\∀a,v=.ref a->∃ob,s.heap.get? a=some ob/\ob.dict=none:=by
 cases x with
 |str z =>
  obtain⟨t,rfl⟩:=r;cases (show T="str" from ty);exact⟨typeIs_str s z t,λ_ e=>nomatch e⟩
 |int i =>
  obtain⟨t,rfl⟩:=r;cases (show T="int" from ty);exact⟨typeIs_int s i t,λ_ e=>nomatch e⟩
 |ref p =>
  cases r;rcases ty with⟨rfl,xs,Y⟩|⟨rfl,o,F,hc,hd⟩|⟨rfl,F⟩|⟨rfl,S,n,F⟩
  ·obtain⟨U,_,pl,_⟩:=I.list Y;refine⟨pl.isList.typeIs,λa e=>?_⟩;cases e;obtain⟨o,n,e,c,hd,_⟩:=pl;exact⟨o,e,hd⟩
  ·refine⟨⟨o,I.kIn p o F,hc⟩,λa e=>?_⟩;cases e;exact⟨o,I.kIn _ o F,hd⟩
  ·have z:∃o,s.heap.get? p=some o/\o.ExactDict:=by
    rcases F with⟨kvs,F⟩|⟨kvs,F⟩
    ·obtain⟨_,_,_,_,o,_,_,e,ex,_⟩:=I.hok p _ F;exact⟨o,e,ex⟩
    ·obtain⟨_,_,_,_,o,_,_,e,ex,_⟩:=I.hok p _ F;exact⟨o,e,ex⟩
   obtain⟨o,e,ex⟩:=z;refine⟨⟨o,e,ex.1⟩,λa O=>?_⟩;cases O;exact⟨o,e,ex.2.1⟩
  ·obtain⟨o,_,_,_,e,ex,_⟩:=I.hok p _ F;refine⟨⟨o,e,ex.1⟩,λa O=>?_⟩;cases O;exact⟨o,e,ex.2.1⟩
 |_=>exact Ry ty
def Ms (K:Ph)(T:String)(r:V->List V->Hp->VK->Prop)(to:TE):TE:=λσ H Q=>to σ H λx H1=>Jz K T x H1/\r x [] H1 Q
def tBM (K:Ph)(T:String)(r:V->List V->Hp->VK->Prop)(to:TE)(t:TA):TE:=λσ H Q=>to σ H λx H1=>Jz K T x H1/\t σ H1 λxs H2=>r x xs H2 Q
variable {o e:Expr}{es:List Expr}{to:TE}{t:TA}{name:Str}{apos cpos:Pos}{T id:String}{r:V->List V->Hp->VK->Prop}
end
def MtM (X:Cx)(id:String)(r:V->List V->Hp->VK->Prop):Prop :=
 ∀(pins:List (Addr×Obj))(s:Shared)(σ:St)(H:Hp)(x:V)(xs:List V)(v:Value)(us:List Value)(Q:VK),Inv X pins σ H s->RelV x v->Vals xs us->r x xs H Q ->
  wpAny (model X.prog X.w) X.A (call (.builtin id) (v::us)) (EP X pins σ Q) X.xe s
theorem Vals.one:∀{x:V}{us:List Value},Vals [x] us->∃u,us=[u]/\RelV x u
 := λh=>by
 cases h with
 |cons r t =>
 cases t;exact⟨_,rfl,r⟩
theorem Vals.two:∀{x y:V}{us:List Value},Vals [x,y] us->∃u v,us=[u,v]/\RelV x u/\RelV y v
 := λh=>by
 cases h with
 |cons r t =>
 cases t with
 |cons q z =>
 cases z;exact⟨_,_,rfl,r,q⟩
theorem Vals.zero:∀{us:List Value},Vals [] us->us=[]
 |_,.nil=>rfl
theorem Vals.dropLast (h:Vals xs us):Vals xs.dropLast us.dropLast:=by
 induction h with
 |nil=>exact .nil
 |cons r t F =>
  cases t with
  |nil=>exact .nil
  |cons q I=>exact .cons r F
theorem Vals.rep (h:Vals xs us):∀k:Nat,Vals (Q1 k xs).flatten (Q1 k us).flatten
 |0=>.nil
 |k+1=>by
  rw[Ua,Ua,Uf,Uf];exact Vals.append h (Vals.rep h k)
theorem Zom {α:Type}(l:List α):l.eraseIdx (l.length-1)=l.dropLast:=by
 induction l with
 |nil=>rfl
 |cons a r F =>
  cases r with
  |nil=>rfl
  |cons b r =>
   have e:(a::b::r).length-1=((b::r).length-1)+1:=by
    have h1:(a::b::r).length=r.length+2:=rfl;have h2:(b::r).length=r.length+1:=rfl;lia
   rw[e,List.eraseIdx_cons_succ,F]
   all_goals rfl
theorem Zd8 (its:List Value):∀(k:Nat)(acc:List Value),
  List.foldl (λx1 x2=>x1++x2) acc.toArray (Q1 k its.toArray)=(acc++(Q1 k its).flatten).toArray
 |0,acc=>by simp
 |k+1,acc=>by
  have e:acc.toArray++its.toArray=(acc++its).toArray:=by simp
  have F:(acc++its)++(Q1 k its).flatten=acc++(Q1 (k+1) its).flatten:=by
   rw[Ua,Uf,Qi]
  rw[<- F,<- Zd8 its k (acc++its),<- e,Ua,Sd]
section
variable {X:Cx}{pins:List (Addr×Obj)}{σ:St}{H:Hp}{s:Shared}{l b:Addr}{xs ys zs:List V}
theorem Inv.lset {its its':List Value}{n:Nat}{f:Array Value->Array Value}{t':Nat}(I:Inv X pins σ H s)(hH:H l=some (.lst xs))
  (e:s.heap.get? l=some { cls:=.type "list",data:=.seq its.toArray n }) (hf:f its.toArray=its'.toArray) (hv:Vals ys its') (hz:ys.length<=sizeLine) :
  Inv X pins σ (upd H l (.lst ys)) { s with heap:=s.heap.update l (Qy f),toks:=t' }:=by
 have q:=PySem.IsL.update e f;rw[hf]at q;refine I.write (x:=l) (e:=l) (by rw[hH];exact trivial) (.inl rfl) (λO u hb F=>(Sz s.heap (Qy f) (Ql hb)).trans F) ⟨_,q⟩ ?_;exact⟨hz,its',_,hv,q⟩
theorem Inv.lnew (I:Inv X pins σ H s)(hv:Vals ys its)(hz:ys.length<=sizeLine) :
  Inv X pins σ (upd H s.heap.objs.size (.lst ys)) { s with heap:=s.heap.push { cls:=.type "list",data:=.seq its.toArray },toks:=t' } :=
 I.laid (λ_ _ q=>Px _ q) (Pk _) ⟨hz,its,0,hv,Qe _ rfl⟩
theorem Inv.fresh (I:Inv X pins σ H s):H s.heap.objs.size=none:=I.hok.fresh (Pk _)
theorem Inv.lstM (I:Inv X pins σ H s)(hH:H l=some (.lst xs)):xs.length<=sizeLine/\∃(its:List Value)(n:Nat),Vals xs its/\xs.length=its.length/\s.heap.get? l=some { cls:=.type "list",data:=.seq its.toArray n }:=by
 obtain⟨z,its,n,r,e⟩:=I.hok l _ hH;exact⟨z,its,n,r,r.length,e⟩
theorem Zao (h:n<=sizeLine):Sx n=false:=by
 unfold Sx;exact decide_eq_false (by lia)
end
section
variable {X:Cx}
def Zey:V->List V->Hp->VK->Prop:=λx vs H Q=>eX3 λl xs y=>x=.ref l/\vs=[y]/\H l=some (.lst xs)/\xs.length<sizeLine/\Q .non (upd H l (.lst (xs++[y])))
theorem C9:MtM X "list.append" Zey:=by
 intro pins s σ H x vs v us Q I rx Z h;obtain⟨l,xs,y,rfl,rfl,U,hz,q⟩:=h;cases rx;obtain⟨u,rfl,Y⟩:=Z.one;obtain⟨z,O,n,r,hl,e⟩:=I.lstM U;refine Sr F.slot_list_append ⟨_,e,rfl⟩ F.entry_list_append (F.args_list_append_2 _ _) (PySem.list_append l O.toArray n u (by rw[Po];lia)) ⟨e,?_⟩;refine⟨.non,_,I.lset (its':=O++[u]) U e (by simp) (r.append (.cons Y .nil)) ?_,rfl,q⟩;rw[Pr,Qg];lia
def Zeu:V->List V->Hp->VK->Prop:=λx vs H Q=>eX4 λl b xs zs=>x=.ref l/\vs=[.ref b]/\H l=some (.lst xs)/\H b=some (.lst zs)/\xs.length+zs.length<=sizeLine/\Q .non (upd H l (.lst (xs++zs)))
theorem Zk4:MtM X "list.extend" Zeu:=by
 intro pins s σ H x vs v us Q I rx rv h;obtain⟨l,b,xs,zs,rfl,rfl,hH,hB,hz,q⟩:=h;cases rx;obtain⟨u,rfl,ru⟩:=rv.one;cases ru;obtain⟨z,U,n,r,hl,e⟩:=I.lstM hH;obtain⟨z2,O,n2,r2,aa,e2⟩:=I.lstM hB;have Z:U.toArray.size+O.toArray.size<=sizeLine:=by rw[Po,Po];lia
 have Y:¬(!U.toArray.isEmpty && Sx (U.toArray.size+O.toArray.size))=true:=by
  rw[Zao Z,Bool.and_false];exact P5
 refine Sr F.slot_list_extend ⟨_,e,rfl⟩ F.entry_list_extend (F.args_list_extend_2 _ _)
  (AutoSeq1.list_extend_list_list_0 l U.toArray n b O.toArray n2 Y (by rw[Po];lia) (by lia)) ⟨e,e2,?_⟩
 refine⟨.non,_,I.lset (its':=U++O) hH e (by simp) (r.append r2) ?_,rfl,q⟩;rw[Pr];lia
def rPop:V->List V->Hp->VK->Prop:=λx vs H Q=>eX3 λl xs y=>x=.ref l/\vs=[]/\H l=some (.lst xs)/\xs[xs.length-1]?=some y/\Q y (upd H l (.lst xs.dropLast))
theorem Ki:MtM X "list.pop" rPop:=by
 intro pins s σ H x vs v us Q I rx rv h;obtain⟨l,xs,y,rfl,rfl,Z,hy,q⟩:=h;cases rx;have Y:=rv.zero;subst Y;obtain⟨z,O,n,r,hl,e⟩:=I.lstM Z;obtain⟨u,hu,ru⟩:=r.get hy;have U:O.toArray[O.toArray.size-1]?=some u:=by
  show O.toArray[O.length-1]?=some u;rw[<- Array.getElem?_toList,<- hl];exact hu
 refine Sr F.slot_list_pop ⟨_,e,rfl⟩ F.entry_list_pop (F.args_list_pop_1 _) (MeetsSeq.list_pop_last l O.toArray n u U (by rw[Po];lia)) ⟨e,?_⟩;refine⟨y,_,I.lset (its':=O.dropLast) Z e ?_ r.dropLast ?_,ru,q⟩
 ·show O.toArray.eraseIdxIfInBounds (O.toArray.size-1)=O.dropLast.toArray;rw[Po,List.eraseIdxIfInBounds_toArray,Zom]
 ·rw[List.length_dropLast];lia
def rCat:R2:=λx y H Q=>eX4 λl b xs zs=>x=.ref l/\y=.ref b/\H l=some (.lst xs)/\H b=some (.lst zs)/\xs.length+zs.length<=sizeLine/\∀p,H p=none->Q (.ref p) (upd H p (.lst (xs++zs)))
theorem op_cat:OpR X (binaryOp .Add) rCat:=by
 intro pins s σ H x y v u Q I rx ry h;obtain⟨l,b,xs,zs,rfl,rfl,U,Y,hz,q⟩:=h;cases rx;cases ry;obtain⟨z,O,n,r,hl,e⟩:=I.lstM U;obtain⟨z2,F,n2,Z,aa,e2⟩:=I.lstM Y;refine PySem.P.add_list e e2 ?_ (by rw[Po,Po];lia);have ea:O.toArray++F.toArray=(O++F).toArray:=by simp
 rw[ea];exact⟨.ref _,_,I.lnew (t':=s.toks) (r.append Z) (by rw[Pr];lia),rfl,q _ I.fresh⟩
def rRep:R2:=λx y H Q=>eX3 λl k xs=>x=.ref l/\y=.int k/\H l=some (.lst xs)/\-(2 ^ 63)<=k/\k<2 ^ 63/\xs.length*k.toNat<=sizeLine /\
 ∀p,H p=none->Q (.ref p) (upd H p (.lst (Q1 k.toNat xs).flatten))
theorem Zr3 {α:Type}(xs:List α)(k:Nat):(Q1 k xs).flatten.length=k*xs.length:=by
 induction k with
 |zero=>simp
 |succ k F=>rw[Ua,Uf,Pr,F,Nat.succ_mul,Nat.add_comm]
theorem Zp1:OpR X (binaryOp .Mult) rRep:=by
 intro pins s σ H x y v u Q I rx ry h;obtain⟨l,k,xs,rfl,rfl,hH,h1,h2,hz,q⟩:=h;cases rx;obtain⟨t,rfl⟩:=ry;obtain⟨z,O,n,r,hl,e⟩:=I.lstM hH;have ae:O.toArray.size*k.toNat<=sizeLine:=by rw[Po,<- hl];exact hz
 have aa:¬O.toArray.size*k.toNat > (2 ^ 63-1) / 8:=by
  have:(sizeLine:Nat)<=(2 ^ 63-1) / 8:=by decide
  lia
 have Z:¬(!Builtin.List.listFitsIndex k)=true:=by
  rw[fitsIndex_both h1 h2];exact P5
 have Y:¬Sx (O.toArray.size*k.toNat)=true:=by
  rw[Zao ae];exact P5
 have ag:List.foldl (λx1 x2=>x1++x2) #[] (Q1 (if O.toArray.isEmpty=true then 0 else k.toNat) O.toArray)=(Q1 k.toNat O).flatten.toArray:=by
  have f0:∀m:Nat,List.foldl (λx1 x2=>x1++x2) #[] (Q1 m O.toArray)=(Q1 m O).flatten.toArray:=λm=>by
   have:=Zd8 O m [];rw[Uj]at this;exact this
  rw[f0];cases O with
  |nil=>simp
  |cons a r'=>rw[if_neg (by simp)]
 refine wpAny_binaryOp_repeat_ref (T:="list") (U:="int") (by decide) ⟨_,e,rfl⟩ (λs'=>typeIs_int s' k t) noFill_list_mul F.fills_int_mul F.slot_int_rmul repeat_list F.slot_int_index.lookup
  (Sr F.slot_int_rmul (typeIs_int s k t) F.entry_int_rmul (F.args_int_rmul_2 _ _) (int___rmul___int_list k t l O.toArray n)
   ⟨e,rfl,⟨_,e,rfl⟩,Sr F.slot_list_mul ⟨_,e,rfl⟩ F.entry_list_mul (F.args_list_mul_2 _ _) (AutoListH.list___mul___list_int_3 l O.toArray n k t Z aa Y) ⟨e,?_⟩⟩)
 rw[ag];exact⟨.ref _,_,I.lnew (t':=s.toks) (r.rep k.toNat) (by rw[Zr3,Nat.mul_comm];exact hz),rfl,q _ I.fresh⟩
end
section
variable {prog:Program}{w:World}{A:Around}{E:Value->Shared->Prop}{s:Shared}
end
section
variable {X:Cx}
end
end L2
namespace Att
open PySem PySem.W PySem.Calls PyProof.Rows
theorem Zjm:∀(ns:List Int)(vs:List Value),WellAll P h vs (ns.map WData.int)->IntsAre vs ns:=by
 intro ns
 induction ns with
 |nil =>
  intro vs w;rw[List.map_nil]at w;cases w;exact .nil
 |cons n ns F =>
  intro vs w;rw[Q3]at w;cases w with
  |cons a b =>
   cases a;exact .cons _ _ (F _ b)
theorem Zo8 {l:OpenLaw}{n:Nat}(hn:l.most=some n){P:Params}{h:Heap}{args:List WData}{vals:List Value}
  (hpre:l.row.toRowW.claim.pre args=true) (hwl:WellAll P h vals args) :
  eX3 λa vs ns=>vals=[Value.ref a]/\args=[WData.list (ns.map WData.int)]/\h.get? a=some { cls:=.type "list",data:=.seq vs.toArray }/\IntsAre vs ns/\ns.length<=n:=by
 have Y:WShape.hasAll [] args [.list .int]=true:=(pre_splitW hpre).1;have hc:l.pre.holds [] { args:=args }=true:=(pre_splitW hpre).2;obtain⟨d,r,rfl,h1,h2⟩:=hasAllW_cons Y;obtain rfl:=hasAllW_nil h2;obtain⟨xs,rfl,h3⟩:=hasW_list h1;obtain⟨ns,rfl⟩:=items_int h3;have I:ns.length<=n:=by
  unfold OpenLaw.pre at hc;have U:(WTm.not (.lt (.lit (.int (n:Int))) (.len (.arg 0)))).holds [] { args:=[.list (ns.map .int)] }=true:=by
   have U:=(holds_andW hc).1;rw[hn]at U;exact U
  have O:=condW_of U (w_not (w_lt w_lit (w_len_list (w_arg rfl))));rw[Pp]at O;refine Nat.le_of_not_lt λq=>?_;have Z:(n:Int)<((ns.length:Nat):Int):=by lia
  first
   | (rw[decide_eq_true Z]at O;exact absurd O (by decide))
   | (simp at O;lia)
 cases hwl with
 |cons w1 w2 =>
  cases w2;cases w1 with
  |list ho F=>exact⟨_,_,ns,rfl,rfl,ho,Zjm ns _ F,I⟩
theorem Zui (l:OpenLaw)(args:List WData):l.row.toRowW.claim.post args (.bool true) args=true :=
 postW_of (r:=l.row.toRowW) (X:=(true == true))
  (show WShape.has [] (.bool true) .bool=true by first|rfl|decide|simp[WShape.has,WShape.arms,WShape.armsAll])
  (show(WTm.eq .res (.lit (.bool true))).value [] { args:=args,res:=some (.bool true),after:=args }=some (.bool (true == true)) from w_eq_bool (w_res rfl) w_lit) rfl
theorem attach_call {l:OpenLaw}{n:Nat}{q:Program}{loose:List Str}{XP:(Str->Option Value)->Heap->Prop}{YP:World->Heap->Prop}{d:DefRec}
  (hn:l.most=some n) (hdf:d.params.defaults=[])
  (call:∀(w:World)(s₀ s₁:Shared)(mg mb:Str->Option Value)(fa:Addr)(o:Obj)(pm cd doc:Value)(a:Addr)(vs:List Value)(ns:List Int),
   Ground q loose [] XP w s₀ mg mb s₁.heap->YP w s₁.heap ->
   s₁.heap.get? fa=some o->o.data=.func (docDef d.name d.params d.body d.scope pm cd doc)->s₁.heap.CodeRec cd d.name->mg d.name=some (.ref fa) ->
   s₁.heap.get? a=some { cls:=.type "list",data:=.seq vs.toArray }->IntsAre vs ns->ns.length<=n->s₁.gens=#[] ->
   codeAny (model l.prog w) callerA (.call (.ref fa) ⟨[.ref a],[]⟩) (λr s'=>r=.ok (.ret (.bool true))/\OldK s₁.heap s'.heap/\s'.os=s₁.os/\AllBare s'.gens) s₁) :
  WalkO q loose XP YP l.row.toRowW d [] (λf vs=>PySem.call f vs):=by
 intro w s₀ s₁ mg mb G Y fa o pm cd doc dV kV ho hd ae hD Z hg ag ai as O ah aj aa ak;obtain rfl:dV=.none:=Dflts.none hD hdf;obtain rfl:kV=.none:=Dflts.noKw hD;obtain⟨a,vs,ns,rfl,rfl,I,F,U⟩:=Zo8 hn O aa;refine enter_call (codeAny_mono (call w s₀ s₁ mg mb fa o pm cd doc a vs ns G Y ho (fd_plain hd) ae Z I F U hg) λr s' hq=>?_);obtain⟨rfl,h2,h3,h4⟩:=hq;exact⟨.inl ⟨.bool true,.bool true,[],rfl,λ_=>rfl,.bool true,Zui l _,λ_=>⟨List.Pairwise.nil,λ_ hm=>(nomatch hm)⟩⟩,h2,h3,h4⟩
section
variable {prog:Program}{w:World}{A:Around}{E:Value->Shared->Prop}{s:Shared}{K:Frag}
end
end Att
namespace L2
open PySem PySem.Spec PyProof.Rows
theorem Zha:∀{vs:List Value}{ns:List Int},IntsAre vs ns->Vals (ns.map V.int) vs
 |_,_,.nil=>.nil
 |_,_,.cons n t h=>.cons ⟨t,rfl⟩ (Zha h)
def Zbn (H:Hp):Prop:=∀b,H b=none\/∃o xs,H b=some (.frz o (.lst xs))
theorem Zsz {P:Program}{w:World}{K:Ph}{mg mb:Str->Option Value}{CX:Eb}{k:Nat}{fa a:Addr}{fd:FuncData}{x:Str}{sp:Sp}{s₁:Shared}{vs:List Value}{ns:List Int}
  (KX:K.In s₁.heap) (hns:s₁.heap.Ns mainGlobals mg) (hb:s₁.heap.Ns builtinsNs mb) (hbb:∀x:Str,x≠"__name__" -> mb x=bootBuiltins x) (hlim:s₁.heap.NoLimit) (hg:s₁.gens=#[])
  (ha:s₁.heap.get? a=some { cls:=.type "list",data:=.seq vs.toArray }) (hi:IntsAre vs ns) (hl:ns.length<=sizeLine) (hr:Room k callerA)
  (F:∀base:Heap,K.In base->base.Ns mainGlobals mg->A8 P w K mg base CX k fa fd [x] sp) (hbind:∀(s:Shared)(u:Value),BindsTo s fd ⟨[u],[]⟩ [(x,u)])
  (hsp:∀H:Hp,Zbn H->SqL K H a (ns.map V.int)->sp [.ref a] H (λv _=>v=.bl true) λ_ _ _=>False)
  (hCX:∀H e s',CX [] H s₁ (λ_ _ _=>False) e s'->False) :
  codeAny (model P w) callerA (.call (.ref fa) ⟨[.ref a],[]⟩) (λr s'=>r=.ok (.ret (.bool true))/\OldK s₁.heap s'.heap/\s'.os=s₁.os/\AllBare s'.gens) s₁:=by
 have rv:=Zha hi;have aa:=hi.length;have U:∀H:Hp,Zbn H->SqL K H a (ns.map V.int)->HOk P w H s₁.heap->(∀b,H b≠none->b=a)->(H a≠none->K.lookup a=none) ->
   codeAny (model P w) callerA (.call (.ref fa) ⟨[.ref a],[]⟩) (λr s'=>r=.ok (.ret (.bool true))/\OldK s₁.heap s'.heap/\s'.os=s₁.os/\AllBare s'.gens) s₁:=by
  intro H hO hS hok hA hK;have I:∀{b:Addr}{o:Obj},s₁.heap.get? b=some o->H b=none->(F2 s₁.heap H).get? b=some o:=λe n=>Zk0 e n;have ag:∀{b:Addr}{o:Obj}{es:Array DictEntry}{ep:Nat},s₁.heap.get? b=some o->o.data=.dict es ep->H b=none:=λ{b o es ep} e d=>by
   cases q:H b with
   |none=>rfl
   |some u =>
    have e':b=a:=hA b (by rw[q];simp);subst e';rw[ha]at e;cases e;have d':Data.seq vs.toArray _=Data.dict es ep:=d;cases d'
  have O:∀{b:Addr}{m:Str->Option Value},s₁.heap.Ns b m->(F2 s₁.heap H).Ns b m:=λ{b m} ⟨o,es,ep,e,d,r⟩=>⟨o,es,ep,I e (ag e d),d,r⟩;have ae:K.In (F2 s₁.heap H):=λb o e=>I (KX b o e) (by
   cases q:H b with
   |none=>rfl
   |some u =>
    have e':b=a:=hA b (by rw[q];simp);subst e';rw[hK (by rw[q];simp)]at e;cases e)
  have hM:Mod K mg (F2 s₁.heap H):=⟨ae,O hns,⟨mb,O hb,hbb⟩,let ⟨mc,h1,h2⟩:=hlim;⟨mc,O h1,h2⟩⟩;have e0:Oe P w K mg (F2 s₁.heap H) callerA [] s₁ H:=⟨rfl,hM,λb o e=>Zsf e,Nat.le_of_eq (Zsk _ _),trivial,λb hb=>absurd (show b∈([]:List Addr) from hb) (by simp),hok,.of_eq hg⟩;refine codeAny_mono ((F _ ae (O hns)).run callerA [] s₁ H ⟨[.ref a],[]⟩ [.ref a] [.ref a] _ _ hr e0 (hbind s₁ (.ref a)) (.cons rfl .nil) (hsp H hO hS)) λr s' h=>?_;cases r with
  |error e=>exact(hCX H e s' h).elim
  |ok fl =>
   cases fl with
   |next=>exact Ry h
   |brk=>exact Ry h
   |cont=>exact Ry h
   |ret u =>
    obtain⟨v,H',os,bare,un,Y,r',q⟩:=h;have q':v=.bl true:=q;subst q';obtain rfl:u=Value.bool true:=r';refine⟨rfl,OldK.of_keep λb o e=>?_,os,bare⟩;cases q:H b with
    |none=>exact un.keep b o e q (by intro z;exact absurd (show b∈([]:List Addr) from z) (by simp)) (by simp)
    |some u =>
     rcases hO b with z|⟨ob,xs,z⟩
     ·rw[q]at z;cases z
     ·have z2:=un.frzs b ob _ z;obtain⟨e1,_⟩:=hok b _ z;obtain⟨e2,_⟩:=Y b _ z2;rw[e]at e1;cases e1;exact e2
 cases hk:K.lookup a with
 |some o =>
  have e:=KX a o hk;rw[ha]at e;cases e;refine U (λ_=>none) (λ_=>.inl rfl) (.inr ⟨_,vs.toArray,_,hk,rfl,rfl,rfl,by rw[Po,aa];exact hl,by simpa using rv⟩) (λb u z=>by have Z:(none:Option HO)=some u:=z;cases Z) (λb z=>absurd rfl z) λz=>absurd rfl z
 |none =>
  refine U (λb=>if b=a then some (.frz { cls:=.type "list",data:=.seq vs.toArray } (.lst (ns.map V.int))) else none) (λb=>?_) (.inl (.inr ⟨{ cls:=.type "list",data:=.seq vs.toArray },if_pos rfl⟩)) (λb u z=>?_) (λb z=>?_) λ_=>hk
  ·by_cases hb:b=a
   ·exact .inr ⟨_,_,if_pos hb⟩
   ·exact .inl (if_neg hb)
  ·by_cases hb:b=a
   ·have Z:=(if_pos hb).symm.trans z;cases Z;subst hb;exact⟨ha,by rw[Pp];exact hl,vs,_,rv,ha⟩
   ·have Z:=(if_neg hb).symm.trans z;cases Z
  ·by_cases hb:b=a
   ·exact hb
   ·exact absurd (if_neg hb) z
theorem walk_of {l:W0}{n k:Nat}{q:Program}{loose:List Str}{XP:(Str->Option Value)->Heap->Prop}{YP:World->Heap->Prop}{d:DefRec}{K:Params->Ph}{CX:World->Eb}{sp:World->Sp}{x:Str}
  (hn:l.most=some n) (hn2:n<=sizeLine) (hdf:d.params.defaults=[]) (hr:Room k callerA)
  (hY:∀(w:World)(h:Heap),YP w h->(K w.params).In h)
  (F:∀(w:World)(mg:Str->Option Value)(fa:Addr)(h:Heap),(K w.params).In h->h.Ns mainGlobals mg->mg d.name=some (.ref fa) ->
   ∃fd:FuncData,(∀(s:Shared)(u:Value),BindsTo s fd ⟨[u],[]⟩ [(x,u)]) /\
    ∀base:Heap,(K w.params).In base->base.Ns mainGlobals mg->A8 l.prog w (K w.params) mg base (CX w) k fa fd [x] (sp w))
  (hsp:∀(w:World)(H:Hp)(a:Addr)(ns:List Int),ns.length<=n->Zbn H->SqL (K w.params) H a (ns.map V.int)->sp w [.ref a] H (λv _=>v=.bl true) λ_ _ _=>False)
  (hCX:∀(w:World)(H:Hp)(s:Shared)(e:Value)(s':Shared),CX w [] H s (λ_ _ _=>False) e s'->False) :
  PySem.W.WalkO q loose XP YP l.row.toRowW d [] (λf vs=>PySem.call f vs):=by
 refine Att.attach_call hn hdf λw s₀ U mg mb fa o pm cd ae a vs ns G Y ho hd ag aa Z O I hg=>?_;have KX:=hY w _ Y;obtain⟨fd,hb,hF⟩:=F w mg fa _ KX G.T.g aa;exact Zsz KX G.T.g G.T.b G.T.builtins G.T.nolimit hg Z O (Qn I hn2) hr hF hb (λH hO hS=>hsp w H a ns I hO hS) λH e s'=>hCX w H U e s'
noncomputable def Io (s:Stmt):Arguments:=match s with
 |.FunctionDef _ a _ _ _ _ _ _ _ _=>a
 |_=>{ posonlyargs:=[],args:=[],vararg:=none,kwonlyargs:=[],kw_defaults:=[],kwarg:=none,defaults:=[] }
noncomputable def F1 (s:Stmt):List Stmt:=match s with
 |.FunctionDef _ _ b _ _ _ _ _ _ _=>b
 |_=>[]
noncomputable def Bh (s:Stmt):Scope:=match s with
 |.FunctionDef _ _ _ _ _ _ F _ _ _=>F
 |_=>{ kind:=.function,names:=[],isGenerator:=false,isCoroutine:=false }
noncomputable abbrev A9:Eb:=λ_ _ _ _ _ _=>False
noncomputable abbrev E0:XK:=λ_ _ _=>False
theorem Zrk:Oo A9 X E0:=λ_ _ _ _ _ _ _ h=>h.elim
structure Fun (K:Ph)(x qual:Str)(st:Stmt)(f:Addr)(fd:FuncData):Prop where
 ex:eX9 λ(oc:Value)(od:Option Addr)(kV doc pm:Value)(an:Option Addr)(cdv ct:Value)(osl:Array (Option Value))=>
  fd=Se x qual (Io st) (F1 st) (Bh st) .none kV doc pm an cdv ct/\K.lookup f=some ⟨oc,od,.func fd,osl⟩/\PySem.W.codeIn K cdv qual=true
 kp:Uo K (.ref f)=true
section
variable {P:Program}{w:World}{K:Ph}{mg:Str->Option Value}{base:Heap}
theorem Fun.ok {x qual:Str}{st:Stmt}{f:Addr}{fd:FuncData}{N ps:List Str}{k:Nat}{sp:Sp}(F:Fun K x qual st f fd)(S:Bm N ps (Bh st))(len:∀vs H Q E,sp vs H Q E->vs.length=ps.length)
  (hbody:∀(cdv:Value)(A:Around)(outer:List Env)(s:Shared)(H:Hp)(vs:List V)(Q:VK)(E:XK),Room k (A.deeper (envOfC qual (Bh st) s.heap.objs.size f cdv))->sp vs H Q E ->
   ∃t,PSs (Hx A9 P w K mg base N qual (Bh st) f cdv A outer s H E).nox (F1 st) t/\t { nx:=λ_ H'=>Q .non H',rt:=Q } (Gf N vs) H):A8 P w K mg base A9 (k+1) f fd ps sp:=by
 obtain⟨oc,od,kV,U,pm,an,cdv,ct,Y,rfl,lk,O⟩:=F.ex;refine Zp0 lk O S len λA outer s H vs Q E Z I=>?_;obtain⟨t,h,q⟩:=hbody cdv A outer s H vs Q E Z I;exact⟨t,h.nox,q⟩
theorem Fun.binds {x qual:Str}{st:Stmt}{f:Addr}{fd:FuncData}{ps:List Str}(F:Fun K x qual st f fd)
  (h:∀(kV doc pm:Value)(an:Option Addr)(cdv ct:Value)(us:List Value),us.length=ps.length->bindArgs (Se x qual (Io st) (F1 st) (Bh st) .none kV doc pm an cdv ct) ⟨us,[]⟩=pure (ps.zip us)):Binds K fd ps []:=by
 obtain⟨Y,od,kV,doc,pm,an,cdv,ct,O,rfl,U,I⟩:=F.ex;exact .all (h kV doc pm an cdv ct)
theorem fun_mk {x qual:Str}{st:Stmt}{f:Addr}{oc:Value}{od an:Option Addr}{osl:Array (Option Value)}{kV doc pm cdv ct:Value}(l:K.lookup f=some ⟨oc,od,.func (Se x qual (Io st) (F1 st) (Bh st) .none kV doc pm an cdv ct),osl⟩)
  (c:PySem.W.codeIn K cdv qual=true) (k:Uo K (.ref f)=true):Fun K x qual st f (Se x qual (Io st) (F1 st) (Bh st) .none kV doc pm an cdv ct):=⟨⟨oc,od,kV,doc,pm,an,cdv,ct,osl,rfl,l,c⟩,k⟩
end
section
variable {X:Cx}
end
theorem iteF {A B:Prop}(h:B):if false=true then A else B:=by
 rw[if_neg P5];exact h
theorem iteT {A B:Prop}(h:A):if true=true then A else B:=by
 rw[if_pos rfl];exact h
theorem Bk {c A B:Prop}[Decidable c](h1:c->A)(h2:¬c->B):if c then A else B:=by
 by_cases h:c
 ·rw[if_pos h];exact h1 h
 ·rw[if_neg h];exact h2 h
def Same (H H':Hp):Prop:=∀b o,H b=some o->H' b=some o
theorem Same.refl (H:Hp):Same H H:=λ_ _ h=>h
theorem Same.trans (a:Same H H1)(b:Same H1 H2):Same H H2:=λc o h=>b c o (a c o h)
theorem Same.free (e:Same H H')(h:H' l=Option.none):H l=Option.none:=by
 cases q:H l with
 |none=>rfl
 |some o =>
  rw[e l o q]at h;cases h
theorem Same.seq {K:Ph}{H H':Hp}{a:Addr}{xs:List V}(e:Same H H')(h:SqL K H a xs):SqL K H' a xs:=by
 rcases h with(h|⟨o,h⟩)|h
 ·exact .inl (.inl (e _ _ h))
 ·exact .inl (.inr ⟨o,e _ _ h⟩)
 ·exact .inr h
end L2
set_option maxHeartbeats 8000000
namespace L2
open PySem PySem.Spec PyProof.Rows
noncomputable def Ej (env:Env):List (Str×NameKind)->List (Str×Addr)->List (Str×Addr)
 |[],F=>F
 | (n,k)::r,F=>Ej env r (if k == .free then (match env.cells.lookup n with|some a=>(n,a)::F|none=>F) else F)
theorem Zbt:∀{ns:List (Str×NameKind)}{acc:List (Str×Addr)}{x:Str}{c:Addr},(∀x c,acc.lookup x=some c->env.cells.lookup x=some c)->(Ej env ns acc).lookup x=some c->env.cells.lookup x=some c
 |[],acc,x,c,h,e=>h x c e
 | (n,k)::r,acc,x,c,h,e=>by
  refine Zbt (ns:=r) ?_ e;intro y d;split
  ·split
   ·rename_i a ha;intro q;rw[R9]at q;split at q
    ·rename_i I;have F:y=n:=by simpa using I
     subst F;rw[ha];exact q
    ·exact h y d q
   ·exact h y d
  ·exact h y d
theorem Zhb:∀{ns:List (Str×NameKind)}{acc:List (Str×Addr)}{x:Str},(acc.lookup x).isSome=true->((Ej env ns acc).lookup x).isSome=true
 |[],acc,x,h=>h
 | (n,k)::r,acc,x,h=>by
  refine Zhb (ns:=r) ?_;split
  ·split
   ·rw[R9];split
    ·rfl
    ·exact h
   ·exact h
  ·exact h
theorem Zfi:∀{ns:List (Str×NameKind)}{acc:List (Str×Addr)}{x:Str},(x,NameKind.free)∈ns->(env.cells.lookup x).isSome=true->((Ej env ns acc).lookup x).isSome=true
 |[],acc,x,h,_=>by cases h
 | (n,k)::r,acc,x,h,hc=>by
  rcases Pm.mp h with e|e
  ·cases e;refine Zhb (ns:=r) ?_;obtain⟨a,ha⟩:=Rz.mp hc;rw[if_pos (by rfl),ha];show(List.lookup n ((n,a)::acc)).isSome=true;rw[R9];simp
  ·exact Zfi (ns:=r) e hc
theorem Zii (h:∀x∈scope.names,x.2=.free->(env.cells.lookup x.1).isSome=true):closureFor scope env=pure (Ej env scope.names []):=by
 have all:∀(ns:List (Str×NameKind))(F:List (Str×Addr)),(∀x∈ns,x.2=.free->(env.cells.lookup x.1).isSome=true) ->
   (forIn ns F λ(x:Str×NameKind) (cs:List (Str×Addr))=>(if (x.2 == NameKind.free)=true then do let a <- cellOf env x.1;pure (ForInStep.yield ((x.1,a)::cs)) else pure (ForInStep.yield cs):Sem (ForInStep (List (Str×Addr)))))=pure (Ej env ns F):=by
  intro ns
  induction ns with
  |nil=>intro F _;rfl
  |cons x r Z =>
   intro F Y;obtain⟨n,k⟩:=x;rw[Ti];by_cases O:(k == NameKind.free)=true
   ·obtain⟨a,ha⟩:=Rz.mp (Y (n,k) Uc (by simpa using O));have ha:env.cells.lookup n=some a:=ha;have I:cellOf env n=pure a:=by unfold cellOf;rw[ha]
    simp only[O,if_true,I];refine Eq.trans (Z ((n,a)::F) λy U=>Y y (Qo _ U)) ?_
    conv=>rhs;unfold Ej
    simp only[O,if_true,ha]
   ·simp only[O];refine Eq.trans (Z F λy U=>Y y (Qo _ U)) ?_
    conv=>rhs;unfold Ej
    simp only[O];rfl
 unfold closureFor;exact(by
  have:=all scope.names [] h
  first|exact this|(simp only[bind_pure] ;exact this)|simpa using this)
noncomputable def C4 (X:Cx)(scope:Scope)(C:Addr)(N:List Str)(s₀:Shared)(H₀:Hp)(ex:List Addr):Cx where
 prog:=X.prog
 w:=X.w
 K:=X.K
 mg:=X.mg
 base:=X.base
 A:=X.A
 N:=N
 s₀:=s₀
 H₀:=H₀
 env:=compEnvC scope (Ej X.env scope.names []) C X.env
 outer:=X.stack
 stack:=X.stack
 ex:=ex
 fn:=λ_=>false
 calm:=X.calm
 pn:=[]
 xe:=λ_ _=>False
structure Il (sc:Scope)(env:Env):Prop where
 kind:sc.kind=.function
 nocell:∀y∈sc.names,y.2≠.cell
 loc:∀y∈sc.names,y.2=.local->sc.names.lookup y.1=some .local
 free:∀x∈sc.names,x.2=.free->(env.cells.lookup x.1).isSome=true
theorem Na {env:Env}:∀{names:List (Str×NameKind)}{x:Str}{k:NameKind},((names.map λ(n,k)=>if (k == NameKind.free && env.scope.kind == .function && env.kindOf n == some .cell) then (n,NameKind.cell) else (n,k)).lookup x=some k) ->
  ∃k',names.lookup x=some k'/\(k'=k\/(k'=.free/\k=.cell))
 |[],x,k,h=>by simp at h
 | (n,q)::r,x,k,h=>by
  have I:=@Na env r x k;have h:List.lookup x ((if (q == NameKind.free && env.scope.kind == .function && env.kindOf n == some .cell)=true then (n,NameKind.cell) else (n,q))::_)=some k:=h;rw[R9];cases F:x == n with
  |true =>
   by_cases hc:(q == NameKind.free && env.scope.kind == .function && env.kindOf n == some .cell)=true
   ·rw[if_pos hc]at h;simp only[R9,F]at h;refine⟨q,rfl,.inr ⟨?_,(Pz h).symm⟩⟩;simp only[R3]at hc;simpa using hc.1.1
   ·rw[if_neg hc]at h;simp only[R9,F]at h;exact⟨q,rfl,.inl (Pz h)⟩
  |false =>
   by_cases hc:(q == NameKind.free && env.scope.kind == .function && env.kindOf n == some .cell)=true
   ·rw[if_pos hc]at h;simp only[R9,F]at h;exact I h
   ·rw[if_neg hc]at h;simp only[R9,F]at h;exact I h
def Gq (X:Cx)(scope:Scope)(N:List Str)(σ σ0:St):Prop :=
 σ0.length=N.length/\∀(i:Nat)(x:Str)(v:V),N[i]?=some x->σ0[i]?=some (some v)->∃j:Nat,X.N[j]?=some x/\σ[j]?=some (some v)/\scope.names.lookup x=some .free/\(X.env.kindOf x=some .cell\/X.env.kindOf x=some .free)
section
variable {X:Cx}
theorem Ztv (I:Inv X pins σ H s)(S:Il scope X.env)(hf:∀b∈fp,FpOk X pins H b)(hlt:∀b∈fp,b<s.heap.objs.size)(T:Gq X scope N σ σ0)(hn:h'.Ns s.heap.objs.size (λ_=>none))(hk:∀b o,s.heap.get? b=some o->h'.get? b=some o) :
  Inv (C4 X scope s.heap.objs.size N s H fp) [] σ0 H { s with heap:=h',toks:=tk }:=by
 have F:∀x c,(Ej X.env scope.names []).lookup x=some c->X.env.cells.lookup x=some c:=λx c e=>Zbt (ns:=scope.names) (acc:=[]) (λy d z=>by simp at z) e;have U:∀x,scope.names.lookup x=some .free->∃c,(Ej X.env scope.names []).lookup x=some c:=λx e=>by
  have m:=Sj e;exact Rz.mp (Zfi m (S.free _ m rfl))
 have ae:∀b∈fp,b ∉ Dg X.stack:=λb hb z=>by
  obtain⟨_,f1,f2,_⟩:=hf b hb;rcases Pm.mp (I.stkSub b z) with e|e
  ·exact f1 e
  ·exact f2 e
 have Y:∀x,((relabel scope X.env).names.lookup x=some .cell\/(relabel scope X.env).names.lookup x=some .free)->scope.names.lookup x=some .free:=λx Z=>by
  rcases Z with Z|Z
  ·obtain⟨k',e,q⟩:=Na Z;rcases q with q|⟨q,_⟩
   ·subst q;exact absurd rfl (S.nocell _ (Sj e))
   ·rw[e,q]
  ·obtain⟨k',e,q⟩:=Na Z;rcases q with q|⟨_,q⟩
   ·rw[e,q]
   ·cases q
 have noex:∀b o,X.base.get? b=some o->b ∉ fp:=λb o e hb=>by
  obtain⟨_,_,_,f3,_⟩:=hf b hb;rcases f3 with z|z
  ·exact I.ok.noex b o e z
  ·exact absurd (Qa (Pt e) (Qn I.ok.bsz z)) (Q2 _)
 refine⟨⟨I.ok.mod,S.kind,I.ok.glob,I.ok.blt,Pk _,λx y c e1 e2=>I.ok.inj x y c (F x c e1) (F y c e2),λx Z=>U x (Y x Z),λx c z=>absurd (show false=true from z) P5,I.ok.hd,I.ok.frames,.inl rfl,
   λb hb=>⟨P4 (hlt b hb),λx c e=>(hf b hb).2.2.2.2.1 x c (F x c e)⟩,I.bs,Qn I.ok.bsz I.sz,noex,ae,I.stack,I.stkFree⟩,
  rfl,I.bare,Un.kept hk,⟨_,hn,λi x v e1 e2 e3=>?_⟩,λx c e=>?_,I.hok.fresh (Pk _),λx c e=>I.freeC x c (F x c e),λp hp=>absurd (show p∈([]:List (Addr×Obj)) from hp) (by simp),I.hok.kept hk,T.1⟩
 ·obtain⟨j,hj,hs,aa,O⟩:=T.2 i x v e1 e2;obtain⟨m,_,hl⟩:=I.loc;obtain⟨u,r,l⟩:=hl j x v hj hs (O.elim (λz=>Or.inr (Or.inl z)) λz=>Or.inr (Or.inr z));refine⟨u,r,.inr ⟨?_,?_⟩⟩
  ·show(relabel scope X.env).names.lookup x=some .cell\/(relabel scope X.env).names.lookup x=some .free;rcases e3 with z|z|z
   ·obtain⟨k',e,q⟩:=Na (show(relabel scope X.env).names.lookup x=some .local from z);rw[aa]at e;cases e;rcases q with q|⟨_,q⟩ <;> cases q
   ·exact .inl z
   ·exact .inr z
  ·obtain⟨c,hc⟩:=U x aa;refine⟨c,hc,?_⟩;rcases l with⟨k,_⟩|⟨_,c',e,z⟩
   ·rcases O with O|O <;> (rw[O]at k;cases k)
   ·have e':=F x c hc;rw[e]at e';cases e';obtain⟨o,ho,hd⟩:=z;exact⟨o,hk _ o ho,hd⟩
 ·obtain⟨v,o,ho,hd⟩:=I.cell x c (F x c e);exact⟨v,o,hk _ o ho,hd⟩
theorem Zl6 (I:Inv X pins σ H s)(hf:∀b∈fp,FpOk X pins H b)(I':Inv (C4 X scope s.heap.objs.size N s H fp) pins' σ' H' s')(hs:P7 s.heap.objs.size s'.heap h'):Inv X pins σ H' { s' with heap:=h' }:=by
 have O:H' s.heap.objs.size=none:=I'.free;have ne:∀b o,s.heap.get? b=some o->b≠s.heap.objs.size:=λb o e=>P4 (Pt e);have B:Un (Dg X.stack) fp H H' s.heap s'.heap:=I'.base;refine I.call' (s':={ s' with heap:=h' }) (ch:=fp) I'.os ⟨λb o e n hb F=>?_,λb o e n hb F=>?_,B.free,λb o e F=>?_,B.tups,B.frzs,B.tbls⟩ (λb o e=>?_) I'.bare (λb hb=>?_)
 ·exact(hs.2 b (ne b o e)).trans (B.keep b o e n hb F)
 ·obtain⟨U,q⟩:=B.slot b o e n hb F;exact⟨U,(hs.2 b (ne b o e)).trans q⟩
 ·obtain⟨o',q⟩:=B.there b o e F;exact⟨o',(hs.2 b (ne b o e)).trans q⟩
 ·refine(I'.hok b o e).stay (λc Z hc q=>(hs.2 c ?_).trans q) (λ_ q=>q) λ_ _ q=>q;rintro rfl;rcases hc with rfl|hc
  ·rw[O]at e;cases e
  ·rw[O]at hc;cases hc
 ·obtain⟨_,f1,_,f3,Y,f5⟩:=hf b hb;exact⟨f3,f1,Y,f5⟩
end
section
variable {prog:Program}{w:World}{A:Around}{R:Result->Shared->Prop}{s:Shared}
theorem Zs9 (I:Nat->Shared->Prop)(turn:∀n s,I n s->wpAny (model prog w) A (pyNext it) (λr s₁=>match r with
   |none=>R (.ok .next) s₁
   |some v=>wpAny (model prog w) A (letOwnedTupleGo target it v) (λ_ s₁'=>wpAny (model prog w) A (assign target env v) (λ_ s₂ =>
     wpAny (model prog w) A (forIn ifs true λc r=>if r=true then do let ok <- isTrue c env (eval c env);pure (ForInStep.yield ok) else pure (ForInStep.yield r)) (λok s₃ =>
      if ok=true then wpAny (model prog w) A (eval elt env) (λx s₄ =>
       wpAny (model prog w) A (call (.builtin "list.append") [acc,x]) (λ_ s₅=>∃m,m<n/\I m s₅) (λ_ _=>False) s₄) (λ_ _=>False) s₃
      else ∃m,m<n/\I m s₃) (λ_ _=>False) s₂) (λ_ _=>False) s₁') (λ_ _=>False) s₁) (λ_ _=>False) s)(n:Nat)(h:I n s):codeAny (model prog w) A (.compLoop (.ListComp elt [⟨target,iter,ifs,0⟩] scope pos) 0 it acc env) R s:=by
 refine codeAny_loop rfl I (λn s hI=>?_) n h;show wpAny _ A ((compTurn (.ListComp elt [⟨target,iter,ifs,0⟩] scope pos) 0 it acc env).onRaise (λx=>do noteFrame x env;theTreesLotGoes x)) _ _ s;refine wpAny_noted ?_;rw[compTurn_list];have up:∀{α:Type}{t:Sem α}{Q:α->Shared->Prop}{s:Shared}{E:Value->Shared->Prop},wpAny (model prog w) A t Q (λ_ _=>False) s->wpAny (model prog w) A t Q E s:=λh=>wpAny_noRaise h;refine Pi (Us (Pi (up (Ap (turn n s hI) λr s₁ F=>?_))));cases r with
 |none=>exact Pl F
 |some v =>
  refine Pi (up (Ap F λ_ s₁' U=>?_));refine Pi (up (Ap U λ_ s₂ Z=>Pi (up (Ap Z λok s₃ O=>?_))));cases ok with
  |false=>exact Pl ⟨rfl,O⟩
  |true =>
   exact Pi (Pi (up (Ap O λx s₄ aa=>Pi (up (Ap aa λ_ s₅ Y=>Pl (Pl ⟨rfl,Y⟩))))))
end
def K2 (J:It)(g:TG)(tt:TT)(te:TE)(σ0:St)(H1:Hp)(D:Addr)(Q:VK):Prop :=
 ∃W:Nat->Nat->St->Hp->Prop,(∃m,W 0 m σ0 (upd H1 D (.lst [])))/\∀i m σ' H',W i m σ' H' ->
  (J.stop i H'/\Q (.ref D) H')\/(J.go i H'/\∃N:St->Hp->Prop,(∀F H2,N F H2->∃m',m'<m/\W (i+1) m' F H2)/\∀x H2,J.yld i H' x H2->g x σ' H2 λF U=>tt F U λb I =>
   if b=true then te F I λy O=>∃ys,O D=some (.lst ys)/\ys.length<sizeLine/\N F (upd O D (.lst (ys++[y]))) else N F I)
def Lu (wi:TI)(σ0:St->St)(g:TG)(tt:TT)(te:TE):TE:=λσ H Q=>wi σ H λJ H1=>∀D,H1 D=none->K2 J g tt te (σ0 σ) H1 D Q
def Hy (X:Cx)(ifs:List Expr)(t:TT):Prop :=
 ∀(pins:List (Addr×Obj))(s:Shared)(σ:St)(H:Hp)(Q:Bool->Hp->Prop),Inv X pins σ H s->t σ H Q ->
  wpAny (model X.prog X.w) X.A (forIn ifs true λc r=>if r=true then do let ok <- isTrue c X.env (eval c X.env);pure (ForInStep.yield ok) else pure (ForInStep.yield r)) (TP X pins σ Q) X.xe s
def Zai:TT:=λ_ H Q=>Q true H
section
variable {X:Cx}{elt target iter:Expr}{ifs:List Expr}{scope:Scope}{pos:Pos}{N:List Str}{wi:TI}{σ0:St->St}{g:TG}{tt:TT}{te:TE}
theorem Zex {pins:List (Addr×Obj)}{σ:St}{H:Hp}{s:Shared}{it:Addr}{fp:List Addr}{tn:Nat->Heap->Prop}{J:It}{Q:Addr->Hp->Prop}{RR:Value->Addr->Result->Shared->Prop}{E:Value->Shared->Prop}
  (hc:X.calm=true) (S:Il scope X.env) (T:Gq X scope N σ (σ0 σ)) (I:Inv X pins σ H s) (Tn:Gi X.prog X.w X.K target J fp it tn) (st:tn 0 s.heap) (hf:∀b∈fp,FpOk X pins H b)
  (hg:∀C s H fp,PG (C4 X scope C N s H fp) target g) (ht:∀C s H fp,Hy (C4 X scope C N s H fp) ifs tt) (he:∀C s H fp,PE (C4 X scope C N s H fp) elt te)
  (hw:∀D,H D=none->∃W:Nat->Nat->St->Hp->Prop,(∃m,W 0 m (σ0 σ) (upd H D (.lst [])))/\∀i m σ' H',W i m σ' H' ->
   (J.stop i H'/\Q D H')\/(J.go i H'/\∃N:St->Hp->Prop,(∀σ2 H2,N σ2 H2->∃m',m'<m/\W (i+1) m' σ2 H2)/\∀x H2,J.yld i H' x H2->g x σ' H2 λσ2 H3=>tt σ2 H3 λb H4 =>
    if b=true then te σ2 H4 λy H5=>∃ys,H5 D=some (.lst ys)/\ys.length<sizeLine/\N σ2 (upd H5 D (.lst (ys++[y]))) else N σ2 H4))
  (hR:∀(D C:Addr)(H':Hp)(s':Shared)(m:Str->Option Value),s.heap.objs.size<=C->H' C=none->s'.heap.Ns C m->(∀h',P7 C s'.heap h'->Inv X pins σ H' { s' with heap:=h' })->Q D H'->RR (.ref D) C (.ok .next) s') :
  wpAny (model X.prog X.w) X.A (newList []) (λacc s₃=>wpAny (model X.prog X.w) X.A (newFunctionEnv scope X.env.globals (Ej X.env scope.names []) [] X.env.qual none .none (some X.env)) (λcenv s₄ =>
   codeAny (model X.prog X.w) X.A (.compStart (.ListComp elt [⟨target,iter,ifs,0⟩] scope pos) 0 (.ref it) acc { cenv with scope:=relabel scope X.env }) (RR acc cenv.locals) s₄) E s₃) E s:=by
 refine R7 (wpAny_newFunctionEnv S.nocell (by intro y hy;simp at hy) (λae ah ak=>?_) S.kind);have hD:H s.heap.objs.size=none:=I.hok.fresh (Pk _);have I3:Inv X pins σ (upd H s.heap.objs.size (.lst [])) { s with heap:=s.heap.push { cls:=.type "list",dict:=none,data:=.seq ([]:List Value).toArray } }:=I.lnew (ys:=[]) (its:=[]) (t':=s.toks) .nil (by simp);have ax:∀b∈fp,b<s.heap.objs.size:=λb hb=>by obtain⟨o,e,_⟩:=Tn.obj _ _ st b hb;exact Pt e
 have aj:∀b∈fp,FpOk X pins (upd H s.heap.objs.size (.lst [])) b:=λb hb=>⟨by rw[Ai (P4 (ax b hb))];exact(hf b hb).1,(hf b hb).2⟩;have am:∀b∈fp,b<({ s with heap:=s.heap.push { cls:=.type "list",dict:=none,data:=.seq ([]:List Value).toArray } }:Shared).heap.objs.size:=λb hb=>by
  show b<(s.heap.push _).objs.size;rw[Q6];exact Vf (ax b hb)
 have av:∀b o,({ s with heap:=s.heap.push { cls:=.type "list",dict:=none,data:=.seq ([]:List Value).toArray } }:Shared).heap.get? b=some o->ae.get? b=some o:=λb o e =>
  ak.extBut b o (P4 (Pt e)) (Px _ e)
 have I4:=Ztv (N:=N) (tk:=s.toks+([]:List (Str×Value)).length) I3 S aj am T ah av;have a0:tn 0 ae:=Tn.keep _ _ _ st λb hb o e=>av b o (Px _ e);obtain⟨W,⟨m0,w0⟩,ay⟩:=hw _ hD;generalize hX:C4 X scope ({ s with heap:=s.heap.push { cls:=.type "list",dict:=none,data:=.seq ([]:List Value).toArray } }:Shared).heap.objs.size N { s with heap:=s.heap.push { cls:=.type "list",dict:=none,data:=.seq ([]:List Value).toArray } } (upd H s.heap.objs.size (.lst [])) fp=F at I4;have eP:F.prog=X.prog:=by rw[<- hX];rfl
 have eW:F.w=X.w:=by rw[<- hX];rfl
 have eK:F.K=X.K:=by rw[<- hX];rfl
 have eA:F.A=X.A:=by rw[<- hX];rfl
 have eC:F.calm=true:=by rw[<- hX];exact hc
 have eX:F.xe=λ_ _=>False:=by rw[<- hX];rfl
 have bj:F.ex=fp:=by rw[<- hX];rfl
 have bb:PG F target g:=by rw[<- hX];exact hg _ _ _ _
 have be:Hy F ifs tt:=by rw[<- hX];exact ht _ _ _ _
 have a6:PE F elt te:=by rw[<- hX];exact he _ _ _ _
 have eE:F.env=compEnvC scope (Ej X.env scope.names []) ({ s with heap:=s.heap.push { cls:=.type "list",dict:=none,data:=.seq ([]:List Value).toArray } }:Shared).heap.objs.size X.env:=by rw[<- hX];rfl
 have ag:∀{H':Hp},(∀b∈fp,H' b=none)->∀b∈fp,FpOk F [] H' b:=λ{H'} hn b hb=>by
  obtain⟨f0,f1,f2,f3,f4,f5⟩:=aj b hb;rw[<- hX];refine⟨hn b hb,P4 (am b hb),λz=>?_,.inl hb,λx c e=>f4 x c (Zbt (ns:=scope.names) (acc:=[]) (λy d z=>by simp at z) e),λp hp=>absurd (show p∈([]:List (Addr×Obj)) from hp) (by simp)⟩;rcases Pm.mp (I3.stkSub b z) with e|e
  ·exact f1 e
  ·exact f2 e
 have a8:∀b∈fp,upd H s.heap.objs.size (.lst []) b=none:=λb hb=>(aj b hb).1;have loop:codeAny (model X.prog X.w) X.A (.compLoop (.ListComp elt [⟨target,iter,ifs,0⟩] scope pos) 0 (.ref it) (.ref s.heap.objs.size) F.env)
   (RR (.ref s.heap.objs.size) ({ s with heap:=s.heap.push { cls:=.type "list",dict:=none,data:=.seq ([]:List Value).toArray } }:Shared).heap.objs.size)
   { s with heap:=ae,toks:=s.toks+([]:List (Str×Value)).length }:=by
  refine Zs9 (λn s'=>eX3 λi σ' H'=>Inv F [] σ' H' s'/\tn i s'.heap/\(∀b∈fp,H' b=none)/\W i n σ' H') ?_ m0 ⟨0,σ0 σ,_,I4,a0,a8,w0⟩;rintro n s5 ⟨i,ai,H5,I5,a3,a5,w5⟩;rcases ay i n ai H5 w5 with⟨stop,qn⟩|⟨go,Nx,hN,step⟩
  ·have q:=Tn.done F eP eW eK eC i [] s5 ai H5 (λ_ _=>False) I5 (ag a5) a3 stop;rw[eA]at q;refine Ap q λr s6 zq=>?_;obtain⟨hr,I6⟩:=zq;subst hr;obtain⟨mm,al,_⟩:=I6.loc;rw[eE]at al;have ar:=I6.free;rw[eE]at ar;refine hR _ _ H5 s6 mm ?_ ar al (λh' hs=>?_) qn
   ·show s.heap.objs.size<=(s.heap.push _).objs.size;rw[Q6];exact Tp _
   ·rw[<- hX]at I6;exact Zl6 I3 aj I6 hs
  ·have q:=Tn.item F eP eW eK eC i [] s5 ai H5 (λ_ _=>False) I5 (ag a5) a3 go;rw[eA]at q;refine Ap q λr s6 zq=>?_;obtain⟨u,hr,h6⟩:=zq;subst hr;refine Ap h6 λ_ s7 zq=>?_;obtain⟨x,H7,I7,r7,y7,an,a7⟩:=zq;have ba:=I7.pinned (ag a7) (Tn.obj _ _ an);have q8:=bb _ s7 ai H7 x u _ ba r7 (step x H7 y7);rw[eP,eW,eA,eX]at q8;refine Ap q8 λ_ s8 zq=>?_;obtain⟨Y,H8,I8,q8⟩:=zq;have q9:=be _ s8 Y H8 _ I8 q8;rw[eP,eW,eA,eX]at q9;refine Ap q9 λok s9 zq=>?_;obtain⟨H9,I9,q9⟩:=zq;have aa:∀{O:St}{U:Hp}{Z:Shared},Inv F ([]++La fp s7.heap) O U Z->Nx O U->∃m,m<n/\eX3 λi σ' H'=>Inv F [] σ' H' Z/\tn i Z.heap/\(∀b∈fp,H' b=none)/\W i m σ' H':=λ{O U Z} ao aq=>by
    obtain⟨m',hm,Eo⟩:=hN O U aq;refine⟨m',hm,i+1,O,U,ao.unpinned,Tn.keep _ _ _ an λb hb o e=>(ao.pin (b,o) (Rh _ (Rh _ (Of hb e)))).1,λb hb=>?_,Eo⟩;obtain⟨o,e,d⟩:=Tn.obj _ _ an b hb;exact(ao.pin (b,o) (Rh _ (Rh _ (Of hb e)))).2.1
   cases ok with
   |false =>
    have ap:Nx Y H9:=q9;exact aa I9 ap
   |true =>
    have ap:te Y H9 _:=q9;have au:=a6 _ s9 Y H9 _ I9 ap;rw[eP,eW,eA,eX]at au;refine Ap au λy Z zq=>?_;obtain⟨yv,U,a9,bc,ys,bg,hz,aq⟩:=zq;have a4:=(C9 (X:=F)) _ Z Y U (.ref s.heap.objs.size) [yv] (.ref s.heap.objs.size) [y] (λ_ as=>Nx Y as) a9 rfl (.cons bc .nil) ⟨_,ys,yv,rfl,rfl,bg,hz,aq⟩;rw[eP,eW,eA,eX]at a4;exact Ap a4 λ_ bi ⟨_,as,bh,_,bf⟩=>aa bh bf
 rw[eE]at loop;exact codeAny_compStart_list loop (Tn.self _ 0 _ _ _ a0 loop)
theorem Zoh (hc:X.calm=true)(S:Il scope X.env)(hi:PI X target iter wi)(T:∀σ,σ.length=X.N.length->Gq X scope N σ (σ0 σ))
  (hg:∀C s H fp,PG (C4 X scope C N s H fp) target g) (ht:∀C s H fp,Hy (C4 X scope C N s H fp) ifs tt) (he:∀C s H fp,PE (C4 X scope C N s H fp) elt te)
  (hs:autoParam (∀x,foldedSetIterable iter X.env x=pure x) zE):PE X (.ListComp elt [⟨target,iter,ifs,0⟩] scope pos) (Lu wi σ0 g tt te):=by
 intro pins s σ H Q I h;rw[eval_ListComp];refine wpAny_comprehension_free (use:=none) rfl hs (Zii S.free) S.kind S.loc (Ap (hi pins s σ H _ I h) λxv aa O=>Ap O λag ae F=>?_);obtain⟨it,fp,tn,J,H2,rfl,I2,Tn,Y,f2,hw⟩:=F;refine Zex (Q:=λD H'=>Q (.ref D) H') (RR:=λU C=>compPost (model X.prog X.w) X.A X.xe none (EP X pins σ Q) U C) hc S (T σ I.len) I2 Tn Y f2 hg ht he hw ?_;intro D C H' s' m hC _ hn hI hq;exact⟨m,hn,λh' Z=>⟨.ref D,H',hI h' Z,rfl,hq⟩⟩
theorem Zpn (hc:X.calm=true)(S:Il scope X.env)(hi:PI X target iter wi)(T:∀σ,σ.length=X.N.length->Gq X scope N σ (σ0 σ))(hg:∀C s H fp,PG (C4 X scope C N s H fp) target g)(ht:∀C s H fp,Hy (C4 X scope C N s H fp) ifs tt)(he:∀C s H fp,PE (C4 X scope C N s H fp) elt te)(hN:X.N.Nodup)(hy:X.N[i]?=some y)(hx:Fg X.env.scope y)(hsw:autoParam (swapsWith (.ListComp elt [⟨target,iter,ifs,0⟩] scope pos) (some (.Name y py)) spos.line X.env=pure true) zX)(hf:autoParam (X.fn y=true\/X.env.scope.names.lookup y=some .local) zQ)(hs:autoParam (∀x,foldedSetIterable iter X.env x=pure x) zE):PS X (.Assign [.Name y py] (.ListComp elt [⟨target,iter,ifs,0⟩] scope pos) spos) (G7 (Lu wi σ0 g tt te) (He i)):=by
 intro pins s σ H D I h;rw[exec_Assign_Name_used _ _ _ _ hsw];refine Pi (Us (Pi ?_));show wpAny _ X.A (do let _ <- comprehension (.ListComp elt [⟨target,iter,ifs,0⟩] scope pos) scope X.env _ (newList []) false (eval iter X.env) (some (assign (.Name y py) X.env))) _ _ s;refine Pi (Ap (wpAny_comprehension_free (use:=some (assign (.Name y py) X.env)) (Q:=λ_ s'=>SP X pins D .next s') rfl hs (Zii S.free) S.kind S.loc
  (Ap (hi pins s σ H _ I h) λxv ak Z=>Ap Z λam al Y=>?_)) λ_ s' hq=>Pl (Pl hq))
 obtain⟨it,fp,tn,J,H2,rfl,F,Tn,ah,f2,hw⟩:=Y;refine Zex (Q:=λL H'=>D.nx (σ.set i (some (.ref L))) H') (RR:=λag C=>compPost (model X.prog X.w) X.A X.xe (some (assign (.Name y py) X.env)) (λ_ s'=>SP X pins D .next s') ag C) hc S (T σ I.len) F Tn ah f2 hg ht he hw ?_;intro L C H' s' m U O hn hI hq;have I3:Inv X pins σ H' s':=hI s'.heap (.refl ..);refine wpAny_assign_Name (Zga I3 hN hy hx (v:=.ref L) rfl (λs4 I4 ai=>?_) hf);obtain⟨a,aa,ha⟩:=ai;have aj:C≠a:=by
  rintro rfl;rcases ha with e|e
  ·have:=F.lt;rw[<- e]at this;exact absurd (Qa this U) (Q2 _)
  ·obtain⟨v,z⟩:=F.cell y _ e;exact absurd (Qa z.lt U) (Q2 _)
 refine⟨m,hn.sameBut aa aj,λh' ae=>⟨_,H',?_,hq⟩⟩;have e4:({ s4 with heap:=h' }:Shared)={ s4 with heap:=h',toks:=s4.toks }:=rfl;rw[e4];refine I4.turned (it:=C) (λb o hb e=>(ae.2 b hb).trans e) O ?_ (.inr (Qn F.sz U)) ?_ ?_
 ·exact Rb (Qa F.lt U)
 ·rintro x c e rfl;obtain⟨v,z⟩:=F.cell x _ e;exact absurd (Qa z.lt U) (Q2 _)
 ·rintro p hp e;exact absurd (Qa (Pt (F.pin p hp).1) (by rw[e];exact U)) (Q2 _)
end
section
variable {X:Cx}
theorem Zlo {K:Ph}{T:String}:Rx K (.type T) (.type T)=some true:=by
 unfold Rx;rw[if_pos (by simp)]
theorem Zj7 {K:Ph}{T U:String}{b:Bool}{l:List Value}(hm:PySem.W.kitMeta U=true)(hn:¬T=U)(hl:fastBuiltinMro T=some l)(hb:l.contains (.type U)=b):Rx K (.type T) (.type U)=some b:=by
 unfold Rx;rw[if_neg (by simp[hn])];show(if PySem.W.kitMeta U=true then PySem.W.subIn K (.type T) (.type U) else none)=some b;rw[if_pos hm];show(fastBuiltinMro T).map (·.contains (.type U))=some b;rw[hl,<- hb];rfl
theorem Zr9:OpR X (compareOp .LtE) (λx y H Q=>∃i j,x=.str i/\y=.str j/\Q (.bl (!(decide (j.cps.toList<i.cps.toList)))) H):=by
 intro pins s σ H x y v u Q I O F h;obtain⟨i,j,rfl,rfl,q⟩:=h;obtain⟨t,rfl⟩:=O;obtain⟨U,rfl⟩:=F;exact PySem.P.le_str (B0 I q rfl)
theorem Zn4:OpR X (compareOp .In) (λx y H Q=>∃(c:Nat)(j:Str),x=.str ⟨#[c]⟩/\y=.str j/\Q (.bl (decide (c∈j.cps.toList))) H):=by
 intro pins s σ H x y v u Q I O F h;obtain⟨c,j,rfl,rfl,q⟩:=h;exact Zmv pins s σ H _ _ v u Q I O F ⟨_,_,rfl,rfl,by rw[StrLaws.found_one];exact q⟩
theorem Zmd:OpR X (compareOp .NotIn) (λx y H Q=>∃(c:Nat)(j:Str),x=.str ⟨#[c]⟩/\y=.str j/\Q (.bl (!decide (c∈j.cps.toList))) H):=by
 intro pins s σ H x y v u Q I O F h;obtain⟨c,j,rfl,rfl,q⟩:=h;exact Zp3 pins s σ H _ _ v u Q I O F ⟨_,_,rfl,rfl,by rw[StrLaws.found_one];exact q⟩
def Zbe:V->Option Int->Option Int->Hp->VK->Prop:=λx lo hi H Q=>∃z,x=.str z/\z.length<=sizeLine/\Q (.str (Ux z lo hi)) H
theorem sl_str:SlR X Zbe:=by
 intro pins s σ H x v vl vu lo hi sl Q I rx hs pl Y h;obtain⟨z,rfl,U,q⟩:=h;obtain⟨t,rfl⟩:=rx;obtain⟨o,O,hc,hd⟩:=hs;refine⟨"str",_,slot_str_getitem.lookup,typeIs_str _ _ _,?_⟩;cases pl with
 |none =>
  cases Y with
  |none=>exact U5 (l:=none) (u:=none) (st:=none) ⟨_,O,hc,hd⟩ rfl (Vn ⟨Qn (Vy z _ _) U,λF k=>⟨.str (Ux z _ _),H,I.tok k,⟨F,rfl⟩,q⟩⟩)
  |int j u=>exact U5 (l:=none) (u:=some (j,u)) (st:=none) ⟨_,O,hc,hd⟩ rfl (Vn ⟨Qn (Vy z _ _) U,λF k=>⟨.str (Ux z _ _),H,I.tok k,⟨F,rfl⟩,q⟩⟩)
 |int i Z =>
  cases Y with
  |none=>exact U5 (l:=some (i,Z)) (u:=none) (st:=none) ⟨_,O,hc,hd⟩ rfl (Vn ⟨Qn (Vy z _ _) U,λF k=>⟨.str (Ux z _ _),H,I.tok k,⟨F,rfl⟩,q⟩⟩)
  |int j u=>exact U5 (l:=some (i,Z)) (u:=some (j,u)) (st:=none) ⟨_,O,hc,hd⟩ rfl (Vn ⟨Qn (Vy z _ _) U,λF k=>⟨.str (Ux z _ _),H,I.tok k,⟨F,rfl⟩,q⟩⟩)
end
noncomputable def Its (z:Str):It:=⟨λi _=>i<z.cps.size,λi H x H'=>H'=H/\∃c,z.cps.toList[i]?=some c/\x=.str ⟨#[c]⟩,λi _=>i=z.cps.size⟩
theorem Zkc (z:Str):["enumerate","zip","dict_itemiterator","dict_reverseitemiterator","odict_iterator","itertools.zip_longest","itertools.pairwise"].contains (strIterType z)=false:=by
 unfold strIterType;cases z.cps.all (· < 128) <;> decide
theorem Zfr (hh:A.handled=none)(it:Addr)(z:Str)(t:Tok):Walks P w A it [it] [it] z.cps.size (SignAt z) (λi h=>h.IsStrIter it (strIterType z) z t i):=by
 unfold strIterType;cases z.cps.all (· < 128)
 ·exact Walks.strWide hh it z t
 ·exact Walks.strAscii hh it z t
theorem Zon {P:Program}{w:World}{K:Ph}{tg:Expr}(it:Addr)(z:Str)(t:Tok):Gi P w K tg (Its z) [it] it (λi h=>h.IsStrIter it (strIterType z) z t i) where
 mem:=by simp
 obj:=λi h st b hb=>by
  have e:b=it:=by simpa using hb
  subst e;obtain⟨o,e,c,d⟩:=st;exact⟨o,e,λv z=>by rw[d]at z;cases z⟩
 keep:=λi h h' st k=>let ⟨o,e,r⟩:=st;⟨o,k it (by simp) o e,r⟩
 item:=by
  intro X hP hw hK hc i pins s σ H E I U st O;subst hP hw hK;obtain⟨f0,f1,f2,f3,f4,f5⟩:=U it (by simp);refine(Zfr (P:=X.prog) (w:=X.w) (I.ok.hd hc) it z t).item i s _ _ O st λv h' tk hv F Y=>?_;obtain⟨c,u,Z,rfl⟩:=hv;have I1:Inv X pins σ H { s with heap:=h',toks:=tk }:=I.turned (λb o hb e=>Y b o (by simpa using hb) e) f0 f1 f3 f4 f5;obtain⟨o,e,cc,d⟩:=id F;exact⟨_,rfl,K9 (s:={ s with heap:=h',toks:=tk }) e cc d (Zkc z) ⟨.str ⟨#[c]⟩,H,I1,⟨u,rfl⟩,⟨rfl,c,by simpa using Z,rfl⟩,F,λb hb=>(U b hb).1⟩⟩
 done:=by
  intro X hP hw hK hc i pins s σ H E I U st O;subst hP hw hK;obtain⟨f0,f1,f2,f3,f4,f5⟩:=U it (by simp);have O:i=z.cps.size:=O;subst O;exact(Zfr (P:=X.prog) (w:=X.w) (I.ok.hd hc) it z t).done s _ _ st λh' tk Y=>⟨rfl,I.turned (λb o hb e=>Y b o (by simpa using hb) e) f0 f1 f3 f4 f5⟩
 self:=λA i s Q E st h=>by
  obtain⟨o,e,c,d⟩:=st;unfold strIterType at c;cases ha:z.cps.all (· < 128)
  ·rw[ha]at c;exact wpAny_pyIter_striter_wide ⟨o,e,c,d⟩ h
  ·rw[ha]at c;exact wpAny_pyIter_striter_ascii ⟨o,e,c,d⟩ h
section
variable {X:Cx}{tg:Expr}
end
section
variable {g:TG}{tt:TT}{te:TE}{σ0:St}{H1:Hp}{D:Addr}{Q:VK}
def M0 (g:TG)(tt:TT)(te:TE)(D:Addr)(Nx:List V->St->Hp->Prop)(x:V)(σ:St)(H:Hp):Prop :=
 g x σ H λF U=>tt F U λb I=>if b=true then te F I λy O=>∃ys,O D=some (.lst ys)/\ys.length<sizeLine/\(∃zs,upd O D (.lst (ys++[y])) D=some (.lst zs)/\Nx zs F (upd O D (.lst (ys++[y])))) else ∃zs,I D=some (.lst zs)/\Nx zs F I
theorem Kw {lo:Int}{n:Nat}(Pv:Nat->List V->St->Hp->Prop)(h0:Pv 0 [] σ0 (upd H1 D (.lst [])))
  (hs:∀i ys σ H,i<n->H D=some (.lst ys)->Pv i ys σ H->M0 g tt te D (Pv (i+1)) (.int (lo+i)) σ H)
  (hd:∀ys σ H,H D=some (.lst ys)->Pv n ys σ H->Q (.ref D) H):K2 (Gx lo n) g tt te σ0 H1 D Q:=by
 refine⟨λi m σ H=>m=n-i/\i<=n/\∃ys,H D=some (.lst ys)/\Pv i ys σ H,⟨n,by simp,P8 _,[],Ac,h0⟩,?_⟩;rintro i m σ H ⟨rfl,hi,ys,O,p⟩;by_cases F:i<n
 ·refine .inr ⟨F,λI H2=>∃zs,H2 D=some (.lst zs)/\Pv (i+1) zs I H2,λU H' Y=>⟨n-(i+1),by lia,rfl,F,Y⟩,λx H' y=>?_⟩;obtain⟨e,y⟩:=y;subst e y;exact hs i ys σ _ F O p
 ·have e:i=n:=by lia
  subst e;exact .inl ⟨Pk _,hd ys σ H O p⟩
theorem Kq {K:Ph}{a:Addr}{xs:List V}(Pv:Nat->List V->St->Hp->Prop)(h0:Pv 0 [] σ0 (upd H1 D (.lst [])))(hl:∀i ys σ H,i<=xs.length->Pv i ys σ H->SqL K H a xs)
  (hs:∀i x ys σ H,xs[i]?=some x->H D=some (.lst ys)->Pv i ys σ H->M0 g tt te D (Pv (i+1)) x σ H)
  (hd:∀ys σ H,H D=some (.lst ys)->Pv xs.length ys σ H->Q (.ref D) H):K2 (Hr K a) g tt te σ0 H1 D Q:=by
 refine⟨λi m σ H=>m=xs.length-i/\i<=xs.length/\∃ys,H D=some (.lst ys)/\Pv i ys σ H,⟨xs.length,by simp,P8 _,[],Ac,h0⟩,?_⟩;rintro i m σ H ⟨rfl,hi,ys,O,p⟩;have q:=hl i ys σ H hi p;by_cases F:i<xs.length
 ·refine .inr ⟨⟨xs,xs[i],q,by simp[F]⟩,λI H2=>∃zs,H2 D=some (.lst zs)/\Pv (i+1) zs I H2,λU H' Y=>⟨xs.length-(i+1),by lia,rfl,F,Y⟩,λx H' y=>?_⟩;obtain⟨e,y⟩:=y;subst e;exact hs i x ys σ _ (y xs q) O p
 ·have e:i=xs.length:=by lia
  subst e;exact .inl ⟨⟨xs,q,Pk _⟩,hd ys σ H O p⟩
end
section
variable {X:Cx}
end
theorem Same.upd (h:H p=none):Same H (upd H p o):=λb u e=>by rw[Ai (A6 e h)];exact e
theorem Hv (h:H a=none)(o:HO):∃H1,Same H H1/\H1 a=some o/\upd H a o=H1:=⟨_,Same.upd h,Ac,rfl⟩
theorem Same.put (s:Same H0 H)(h:H p=none):Same H0 (L2.upd H p o):=s.trans (Same.upd h)
theorem Same.over (s:Same H0 H)(h:H0 p=none):Same H0 (L2.upd H p o):=λb u e=>by rw[Ai (A6 e h)];exact s b u e
theorem Same.tup {K:Ph}{H H':Hp}{a:Addr}{xs:List V}(e:Same H H')(h:SqT K H a xs):SqT K H' a xs:=by
 rcases h with(h|⟨o,h⟩)|h
 ·exact .inl (.inl (e _ _ h))
 ·exact .inl (.inr ⟨o,e _ _ h⟩)
 ·exact .inr h
theorem E7 (hk:sc.kind=.function)(hc:(sc.names.all λy=>y.2 != .cell)=true)(hl:(sc.names.all λy=>y.2 != .local || sc.names.lookup y.1 == some .local)=true)(hf:(sc.names.all λy=>y.2 != .free || out.names.lookup y.1 == some .cell)=true):Il sc (envOfC qual out n f cd) where
 kind:=hk
 nocell:=λy F e=>by have:=Sa.mp hc y F;rw[e]at this;cases this
 loc:=λy F e=>by
  have:=Sa.mp hl y F;rw[e]at this;simpa using this
 free:=λy F e=>by
  have h:=Sa.mp hf y F;rw[e]at h;have h:out.names.lookup y.1=some .cell:=by simpa using h
  obtain⟨c,hc⟩:=Zbr (n:=n+1) h;show((cellsFrom (n+1) out.names []).lookup y.1).isSome=true;rw[hc];rfl
noncomputable def Dr (k:Nat)(cap:List Nat)(σ:St):St:=Q1 k none++cap.map λj=>(σ[j]?).join
theorem Zrt (hl:k+cap.length=N.length)(h:∀(i j:Nat)(x:Str),cap[i]?=some j->N[k+i]?=some x->X.N[j]?=some x/\scope.names.lookup x=some .free/\(X.env.kindOf x=some .cell\/X.env.kindOf x=some .free)):Gq X scope N σ (Dr k cap σ):=by
 refine⟨by unfold Dr;simp[hl],λi x v O F=>?_⟩;unfold Dr at F;by_cases hi:i<k
 ·rw[Qh (by simpa using hi),List.getElem?_replicate,if_pos hi]at F;cases F
 ·rw[Qk (by simpa using hi),List.length_replicate,Qf]at F;cases I:cap[i-k]? with
  |none=>rw[I]at F;cases F
  |some j =>
   rw[I]at F;have F:(σ[j]?).join=some v:=Pz F;obtain⟨h1,h2,U⟩:=h (i-k) j x I (by rw[show k+(i-k)=i by lia];exact O);refine⟨j,h1,?_,h2,U⟩;cases e:σ[j]? with
   |none=>rw[e]at F;cases F
   |some o=>rw[e]at F;exact congrArg some F
theorem E5 (hl:k+cap.length=N.length)(h:((cap.zip (N.drop k)).all λp=>X.N[p.1]? == some p.2 && scope.names.lookup p.2 == some .free && (X.env.kindOf p.2 == some .cell || X.env.kindOf p.2 == some .free))=true):∀σ,σ.length=X.N.length->Gq X scope N σ (Dr k cap σ):=λσ _ =>
 Zrt hl λi j x I F=>by
  have m:(j,x)∈cap.zip (N.drop k):=by
   refine Qu (i:=i) ?_;rw[List.getElem?_zip_eq_some];exact⟨I,by rw[List.getElem?_drop];exact F⟩
  have:=Sa.mp h _ m;simp only[R3,Bool.or_eq_true,beq_iff_eq]at this;exact⟨this.1.1,this.1.2,this.2⟩
theorem Ge {α:Type}{xs:List α}{i:Int}(h0:0<=i)(h1:i<xs.length):∃v,B8 xs i=some v/\v∈xs:=by
 have F:i.toNat<xs.length:=by lia
 refine⟨xs[i.toNat],?_,Q4 F⟩;have:=C2 (xs:=xs) (j:=i.toNat) (v:=xs[i.toNat]) (by simp[F]);rwa[Int.toNat_of_nonneg h0]at this
noncomputable def Pc:Expr->Option V
 |.Constant (.str x) _ _=>some (.str x)
 |.Constant (.int i) _ _=>some (.int i)
 |.Constant (.bool b) _ _=>some (.bl b)
 |.Constant .none _ _=>some .non
 |_=>none
noncomputable def Nc:List Expr->Option (List V)
 |[]=>some []
 |e::es=>match Pc e,Nc es with
  |some v,some vs=>some (v::vs)
  |_,_=>none
def O3 (xs:List V):TA:=λ_ H Q=>Q xs H
theorem Zks (h:Pc e=some v):PE X e (tC v)/\∀es,starEach (e::es) X.env=(false,eval e X.env)::starEach es X.env:=by
 unfold Pc at h;split at h
 ·cases h;exact⟨Zgu,λ_=>rfl⟩
 ·cases h;exact⟨Zfn,λ_=>rfl⟩
 ·cases h;exact⟨Zir,λ_=>rfl⟩
 ·cases h;exact⟨Zej,λ_=>rfl⟩
 ·cases h
theorem Zf6:∀{es:List Expr}{xs:List V},Nc es=some xs->PA X es (O3 xs)
 |[],xs,h=>by
  have h:some []=some xs:=h;cases h;exact Zhl
 |e::es,xs,h=>by
  unfold Nc at h;split at h
  ·rename_i v vs h1 h2;cases h;obtain⟨p,F⟩:=Zks (X:=X) h1;exact Zd2 p (Zf6 h2) (F es)
  ·cases h
structure A7 (P:Program)(w:World)(K:Ph)(mg:Str->Option Value)(base:Heap)(k:Nat)(x:Str)(ps:List Str)(sp:Sp):Prop where
 ex:∃(f:Addr)(fd:FuncData),A8 P w K mg base A9 k f fd ps sp/\mg x=some (.ref f)/\Uo K (.ref f)=true/\Binds K fd ps []
section
variable {X:Cx}{k:Nat}{x:Str}{ps:List Str}{sp:Sp}{p pos:Pos}{e:Expr}{es:List Expr}{t:TA}
end
end L2
namespace L2
open PySem
theorem Zs2 (h:N1 u=some x):RelV x u:=by
 cases u <;> simp only[N1]at h <;> first|(cases h;first|rfl|exact⟨_,rfl⟩)|cases h
noncomputable def Jp:List Value->Option (List V)
 |[]=>some []
 |u::r=>match N1 u,Jp r with
  |some x,some xs=>some (x::xs)
  |_,_=>none
theorem Zio:∀{us:List Value}{xs:List V},Jp us=some xs->Vals xs us
 |[],xs,h=>by
  have h:some []=some xs:=h;cases h;exact .nil
 |u::r,xs,h=>by
  unfold Jp at h;split at h
  ·rename_i x ys h1 h2;cases h;exact .cons (Zs2 h1) (Zio h2)
  ·cases h
theorem Ziu (l:K.lookup a=some ⟨.type "tuple",od,.seq its n,sl⟩)(h:Jp its.toList=some xs)(hz:xs.length<=1000):∀H,SqT K H a xs:=λH=>by
 have v:=Zio h;refine .inr ⟨_,its,n,l,rfl,rfl,?_,v⟩;have e:=v.length;have b:1000<=sizeLine:=by decide
 have F:its.toList.length=its.size:=T8;lia
theorem Ik (F:A8 P w K mg base A9 k f fd ps sp)(m:mg x=some (.ref f))(kp:Uo K (.ref f)=true)(b:Binds K fd ps []):A7 P w K mg base k x ps sp:=⟨f,fd,F,m,kp,b⟩
section
variable {P:Program}{w:World}{K:Ph}{mg:Str->Option Value}{base:Heap}
end
end L2
set_option autoImplicit true
namespace L2
open PySem PySem.Spec PyProof.Rows
structure QE (X:Cx)(e:Expr)(t:TE):Prop where
 run:PE X e t
structure QT (X:Cx)(e:Expr)(t:TT):Prop where
 run:PT X e t
structure QW (X:Cx)(e:Expr)(t:TT):Prop where
 run:PW X e t
structure QA (X:Cx)(es:List Expr)(t:TA):Prop where
 run:PA X es t
structure QS (X:Cx)(st:Stmt)(t:TS):Prop where
 run:PS X st t
structure Gc (X:Cx)(sts:List Stmt)(t:TS):Prop where
 run:PSs X sts t
structure QG (X:Cx)(e:Expr)(g:TG):Prop where
 run:PG X e g
structure QGs (X:Cx)(es:List Expr)(g:E4):Prop where
 run:PGs X es g
structure QI (X:Cx)(tg iter:Expr)(wi:TI):Prop where
 run:PI X tg iter wi
structure QC (X:Cx)(op:CmpOp)(a b:Expr)(t:TE):Prop where
 run:PC X op a b t
structure QO (X:Cx)(e:Option Expr)(t:TO):Prop where
 run:PO X e t
structure QTs (X:Cx)(ifs:List Expr)(t:TT):Prop where
 run:Hy X ifs t
theorem Ad {i j pos}:QE X (.Constant (.int i) j pos) (tC (.int i)):=⟨Zfn⟩
theorem Dz {b j pos}:QE X (.Constant (.bool b) j pos) (tC (.bl b)):=⟨Zir⟩
theorem C8 {j pos}:QE X (.Constant .none j pos) (tC .non):=⟨Zej⟩
theorem Aj {x j pos}:QE X (.Constant (.str x) j pos) (tC (.str x)):=⟨Zgu⟩
theorem Ep (hg:Gl X x)(hm:X.mg x=none)(hv:bootBuiltins x=some u)(r:RelV v u)(hn:autoParam (x≠"__name__") zW)(hd:autoParam ((x == ("__debug__":Str))=false) zW):QE X (.Name x pos) (tC v):=⟨λ_ _ _ H _ I h=>Ef I hg hm hv ⟨v,H,I,r,h⟩ hn hd⟩
theorem A4 (ho:OpR X (binaryOp op) r)(ha:QE X a ta)(hb:QE X b tb):QE X (.BinOp a op b pos) (Fv r ta tb):=by
 refine⟨?_⟩;have ha:=ha.run;have hb:=hb.run
 intro pins s σ H Q I h;exact wpAny_BinOp (Zaq ha hb I h λv u U x y H2 F Y O q=>ho pins U σ H2 x y v u Q F Y O q)
theorem Mg (ho:UnR X (unaryOp op) r)(ha:QE X a ta):QE X (.UnaryOp op a pos) (tUn r ta):=by
 refine⟨?_⟩;have ha:=ha.run
 intro pins s σ H Q I h;exact UnaryOp_ (Ap (ha pins s σ H _ I h) λv F ⟨x,H1,U,O,Y⟩=>ho pins F σ H1 x v Q U O Y)
theorem Zea (h:QC X op a b t)(h1:behindInMarks op b=false:=by first|exact M3 _ (by decide) (by decide)|rfl):QE X (.Compare a [op] [b] pos) t:=by
 refine⟨?_⟩;have h:=h.run;exact λpins s σ H Q I F=>wpAny_Compare1 (h pins s σ H Q I F) h1
theorem E6 (h:QC X op a b t)(h1:behindInMarks op b=false:=by first|exact M3 _ (by decide) (by decide)|rfl):QT X (.Compare a [op] [b] pos) (tB t):=by
 refine⟨?_⟩;have h:=h.run
 intro pins s σ H Q I Y;refine wpAny_isTrue_Compare1 (Ap (h pins s σ H _ I Y) λv s1 h1=>Ap h1 λu s2 h2=>Ap h2 λc s3 F=>?_) h1;obtain⟨x,H1,Z,O,U⟩:=F;obtain⟨d,rfl,q⟩:=U;cases O;exact R6 ⟨H1,Z,q⟩
theorem Gu (ho:OpR X (compareOp op) r)(ha:QE X a ta)(hb:QE X b tb)(hm:behindInMarks op b=false):QE X (.Compare a [op] [b] pos) (Fv r ta tb):=by
 refine⟨?_⟩;have ha:=ha.run;have hb:=hb.run
 intro pins s σ H Q I h;exact wpAny_Compare1 (Zaq ha hb I h λv u U x y H2 F Y O q=>ho pins U σ H2 x y v u Q F Y O q) hm
theorem Aw (ho:OpR X (compareOp op) r)(ha:QE X a ta)(hb:QE X b tb)(hm:behindInMarks op b=false):QT X (.Compare a [op] [b] pos) (Zb3 (Fv r ta tb)):=by
 refine⟨?_⟩;have ha:=ha.run;have hb:=hb.run
 intro pins s σ H Q I h;refine wpAny_isTrue_Compare1 (Ap (ha pins s σ H _ I h) λv s1 ⟨x,H1,I1,O,q1⟩=>Ap (hb pins s1 σ H1 _ I1 q1) λu s2 ⟨y,H2,Z,F,q2⟩ =>
  Ap (ho pins s2 σ H2 x y v u _ Z O F q2) λc s3 ⟨z,H3,I3,U,k,e,Y⟩=>?_) hm
 subst e;cases U;exact R6 ⟨H3,I3,Y⟩
theorem Zt8 (ho:OpR X (compareOp op) r)(ho':OpR X (compareOp op') r')(ha:QE X a ta)(hb:QE X b tb)(hc:QE X c tc)(hm:lastMarks [op,op'] [b,c]=false:=by with_unfolding_all rfl):QE X (.Compare a [op,op'] [b,c] pos) (Zb2 r r' ta tb tc):=by
 refine⟨?_⟩;have ha:=ha.run;have hb:=hb.run;have hc:=hc.run
 intro pins s σ H Q I h;refine Compare_chain (Ap (ha pins s σ H _ I h) λv s1 ⟨x,H1,I1,Z,q1⟩=>chain_link (Ap (hb pins s1 σ H1 _ I1 q1) λu s2 ⟨y,H2,I2,F,q2⟩ =>
  Ap (ho pins s2 σ H2 x y v u _ I2 Z F q2) λd s3 ⟨z,U,Y,r3,k,e,O⟩=>?_)) hm
 subst e;cases r3;refine R6 ?_;cases k with
 |false=>exact ite_ff ⟨.bl false,U,Y,rfl,O⟩
 |true=>exact ite_tt (chain_last (Ap (hc pins s3 σ U _ Y O) λw' s4 ⟨z',H4,I4,r4,q4⟩=>ho' pins s4 σ H4 y z' u w' Q I4 F r4 q4))
theorem Ex (h:QE X e t)(he:autoParam (∀whole,isTrue e X.env whole=(do let v <- whole;standAt e.pos;holding [v] (truthy v))) zE):QT X e (tB t):=by
 refine⟨?_⟩;have h:=h.run
 intro pins s σ H Q I U;refine isTrue_plain (Ap (h pins s σ H _ I U) λv s1 F=>?_) (he _);obtain⟨x,H1,Y,O,Z⟩:=F;obtain⟨d,rfl,q⟩:=Z;cases O;exact R6 ⟨H1,Y,q⟩
theorem F5 (ha:QT X a tA):QW X (.BoolOp .And [a] pos) tA:=by
 refine⟨?_⟩;have ha:=ha.run
 intro O pins s σ H Q I h;refine isTrue_and (Ap (ha pins s σ H Q I h) λc F e=>?_);cases c with
 |true=>exact isTrue_and_nil e
 |false=>exact e
theorem Zcm (ha:QT X a tA):QW X (.BoolOp .Or [a] pos) tA:=by
 refine⟨?_⟩;have ha:=ha.run
 intro O pins s σ H Q I h;refine isTrue_or (Ap (ha pins s σ H Q I h) λc F e=>?_);cases c with
 |false=>exact isTrue_or_nil e
 |true=>exact e
theorem F7 (ha:QT X a tA)(hb:QW X (.BoolOp .And (b::rest) pos) tB'):QW X (.BoolOp .And (a::b::rest) pos) (Ox tA tB'):=by
 refine⟨?_⟩;have ha:=ha.run;have hb:=hb.run
 intro Z pins s σ H Q I h;refine isTrue_and (Ap (ha pins s σ H _ I h) λc U Y=>?_);obtain⟨H1,F,O⟩:=Y;cases c with
 |true=>exact hb Z pins U σ H1 Q F O
 |false=>exact⟨H1,F,O⟩
theorem Zca (ha:QT X a tA)(hb:QW X (.BoolOp .Or (b::rest) pos) tB'):QW X (.BoolOp .Or (a::b::rest) pos) (tOr tA tB'):=by
 refine⟨?_⟩;have ha:=ha.run;have hb:=hb.run
 intro Z pins s σ H Q I h;refine isTrue_or (Ap (ha pins s σ H _ I h) λc U Y=>?_);obtain⟨H1,F,O⟩:=Y;cases c with
 |true=>exact⟨H1,F,O⟩
 |false=>exact hb Z pins U σ H1 Q F O
theorem Hw (ha:QT X a tA):QT X (.UnaryOp .Not a pos) (Zc2 tA):=by
 refine⟨?_⟩;have ha:=ha.run
 intro pins s σ H Q I h;exact isTrue_not (ha pins s σ H (λc H1=>Q (!c) H1) I h)
theorem Gp {op}(h:QE X a t):QE X (.BoolOp op [a] pos) t:=by
 refine⟨?_⟩;have h:=h.run;exact λpins s σ H Q I F=>BoolOp_one (h pins s σ H Q I F)
theorem G0 (ha:QE X a ta)(hb:QE X (.BoolOp .And (b::rest) pos) tb):QE X (.BoolOp .And (a::b::rest) pos) (Zbk ta tb):=by
 refine⟨?_⟩;have ha:=ha.run;have hb:=hb.run
 intro pins s σ H Q I h;refine BoolOp_and (Ap (ha pins s σ H _ I h) λv Z U=>?_);obtain⟨x,H1,O,Y,F⟩:=U;obtain⟨c,rfl,F⟩:=F;cases Y;refine R6 ?_;cases c with
 |true=>exact hb pins Z σ H1 Q O F
 |false=>exact⟨.bl false,H1,O,rfl,F⟩
theorem Zma (ha:QE X a ta)(hb:QE X (.BoolOp .Or (b::rest) pos) tb):QE X (.BoolOp .Or (a::b::rest) pos) (Zas ta tb):=by
 refine⟨?_⟩;have ha:=ha.run;have hb:=hb.run
 intro pins s σ H Q I h;refine BoolOp_or (Ap (ha pins s σ H _ I h) λv Z U=>?_);obtain⟨x,H1,O,Y,F⟩:=U;obtain⟨c,rfl,F⟩:=F;cases Y;refine R6 ?_;cases c with
 |false=>exact hb pins Z σ H1 Q O F
 |true=>exact⟨.bl true,H1,O,rfl,F⟩
theorem Zdl (ha:QE X a ta):QE X (.UnaryOp .Not a pos) (O5 ta):=by
 refine⟨?_⟩;have ha:=ha.run
 intro pins s σ H Q I h;refine UnaryOp_ (Ap (ha pins s σ H _ I h) λv Z O=>?_);obtain⟨x,H1,Y,U,F⟩:=O;obtain⟨c,rfl,F⟩:=F;cases U;exact not_of (R6 ⟨.bl (!c),H1,Y,rfl,F⟩)
theorem Oc (hc:QT X c tA)(ha:QE X a ta)(hb:QE X b tb):QE X (.IfExp c a b pos) (tIf tA ta tb):=by
 refine⟨?_⟩;have hc:=hc.run;have ha:=ha.run;have hb:=hb.run
 intro pins s σ H Q I h;refine wpAny_IfExp (Ap (hc pins s σ H _ I h) λd F Y=>?_);obtain⟨H1,O,U⟩:=Y;cases d with
 |true=>exact ha pins F σ H1 Q O U
 |false=>exact hb pins F σ H1 Q O U
theorem Ay  : Gc X [] Zch:=⟨λ_ _ σ H _ I h=>Vl ⟨σ,H,I,h⟩⟩
theorem Ae {st:Stmt}{rest:List Stmt}{t u:TS}(h1:QS X st t)(h2:Gc X rest u):Gc X (st::rest) (Za7 t u):=by
 refine⟨?_⟩;have h1:=h1.run;have h2:=h2.run
 intro pins s σ H D I h;refine wpAny_execs_cons (Ap (h1 pins s σ H { D with nx:=u D } I h) λf O q=>?_);cases f with
 |next =>
  obtain⟨F,H',U,q⟩:=q;exact h2 pins O F H' D U q
 |ret v=>exact q
 |brk=>exact q
 |cont=>exact q
theorem Ag {st:Stmt}{t:TS}(h1:QS X st t):Gc X [st] t:=by
 refine⟨?_⟩;have h1:=h1.run
 intro pins s σ H D I h;refine wpAny_execs_cons (Ap (h1 pins s σ H D I h) λf F q=>?_);cases f with
 |next=>exact Vl q
 |ret v=>exact q
 |brk=>exact q
 |cont=>exact q
theorem Zeo  : QS X (.Continue pos) Zih:=⟨λ_ _ σ H _ I h=>wpAny_Continue ⟨σ,H,I,h⟩⟩
theorem Cr (he:QE X e te)(hs:autoParam (swapsWith e none pos.line X.env=pure false) zX):QS X (.Expr e pos) (Om te):=by
 refine⟨?_⟩;have he:=he.run
 intro pins s σ H D I h;exact wpAny_Expr_any (Ap (he pins s σ H _ I h) λv U ⟨x,H1,F,Y,O⟩=>⟨σ,H1,F,O⟩) I.quiet hs
theorem Ar (he:QE X e te):QS X (.Return (some e) pos) (Zct te):=by
 refine⟨?_⟩;have he:=he.run
 intro pins s σ H D I h;exact wpAny_Return_some (Ap (he pins s σ H _ I h) λv Y ⟨x,H1,O,F,U⟩=>⟨x,σ,H1,O,F,U⟩)
theorem Au (hc:QT X c tc)(ha:Gc X a t)(hb:Gc X b u):QS X (.If c a b pos) (Dh tc t u):=by
 refine⟨?_⟩;have hc:=hc.run;have ha:=ha.run;have hb:=hb.run
 intro pins s σ H D I h;refine wpAny_If (Ap (hc pins s σ H _ I h) λd F Y=>?_);obtain⟨H1,O,U⟩:=Y;cases d with
 |true=>exact ha pins F σ H1 D O U
 |false=>exact hb pins F σ H1 D O U
theorem Di  : QGs X [] Za9:=by
 refine⟨?_⟩
 intro pins s σ H vs F Q I r h;obtain⟨e,h⟩:=h;subst e;cases r;exact assignInOrder_nil ⟨σ,H,I,h⟩
theorem Bu (h1:QG X e t)(h2:QGs X es u)(hs:autoParam ((assignEach (e::es) X.env).map (·.2)=assign e X.env::(assignEach es X.env).map (·.2)) zX):QGs X (e::es) (O6 t u):=by
 refine⟨?_⟩;have h1:=h1.run;have h2:=h2.run
 intro pins s σ H vs us Q I r h;obtain⟨v,vr,Z,h⟩:=h;subst Z;cases r with
 |cons r U =>
  rw[hs];refine Wj (Ap (h1 pins s σ H _ _ _ I r h) λ_ s1 O=>?_);obtain⟨F,H1,I1,Y⟩:=O;exact h2 pins s1 F H1 _ _ Q I1 U Y
theorem Bb (hN:X.N.Nodup)(hi:X.N[i]?=some x)(hx:Fg X.env.scope x)(hf:autoParam (X.fn x=true\/X.env.scope.names.lookup x=some .local) zQ):QG X (.Name x pos) (He i):=by
 refine⟨?_⟩
 intro pins s σ H v u Q I r h;exact wpAny_assign_Name (Ll I hN hi hx r (λs' F=>⟨_,H,F,h⟩) hf)
theorem Zl2 (hc:X.calm=true)(h:QGs X es t)(hn:autoParam ((assignEach es X.env).length=n) zX)(hst:autoParam ((assignEach es X.env).findIdx? (·.1)=none) zX):QG X (.Tuple es k pos) (Nh X.K n t):=by
 refine⟨?_⟩;have h:=h.run
 intro pins s σ H v u Q I r F;obtain⟨a,xs,Y,hq,Z,F⟩:=F;subst Y;cases r;obtain⟨aa,O,ht,hz⟩:=I.tuple hq;refine assign_Tuple_tuple (I.ok.hd hc) ht (by simp[hn,<- Z,O.length]) hst λh' U=>?_;have I1:Inv X pins σ H { s with heap:=h' }:=I.kept (t':=s.toks) λb o e=>U b o (P4 (Pt e)) e;exact h pins _ σ H xs _ Q I1 (by simpa using O) F
theorem Zmp (ho:QE X o to)(hi:QE X i ti)(hs:Zcf X t)(ha:autoParam (∀v,assign (.Subscript o i pos) X.env v=(do
   let ov <- holding [v] (eval o X.env);let iv <- holding [v,ov] (eval i X.env)
   standAt pos
   holding [v,ov,iv] (setItem ov iv v)
   release [v,ov,iv] [])) zE):QG X (.Subscript o i pos) (Zbw to ti t):=by
 refine⟨?_⟩;have ho:=ho.run;have hi:=hi.run
 intro pins s σ H v u Q I r h;rw[ha];refine Pi (Ra (Ap (ho pins s σ H _ I h) λov s1 F=>?_));obtain⟨x,H1,I1,U,q1⟩:=F;refine Pi (Ra (Ap (hi pins s1 σ H1 _ I1 q1) λiv s2 F=>?_));obtain⟨y,H2,Z,O,q2⟩:=F;refine Pi (Us (Pi (Ra (Ap (hs pins s2 σ H2 x y v ov iv u _ Z U O r q2) λ_ s3 F=>?_))));obtain⟨H3,I3,Y⟩:=F;exact wpAny_release ⟨σ,H3,I3,Y⟩
theorem Kz (he:QE X e te)(hg:QG X tg g)(hs:autoParam (swapsWithSole [tg] e pos.line X.env=pure false) zX)(hw:autoParam (swappedStores [tg] e X.env=pure none) zX)(h1:autoParam ((assignEach [tg] X.env).map (·.2)=[assign tg X.env]) zX):QS X (.Assign [tg] e pos) (G7 te g):=by
 refine⟨?_⟩;have he:=he.run;have hg:=hg.run
 intro pins s σ H D I h;refine wpAny_Assign_stores (Ap (he pins s σ H _ I h) λv F O=>?_) hs hw;obtain⟨x,H1,Y,U,Z⟩:=O;rw[h1];exact Ap (hg pins F σ H1 x v _ Y U Z) λ_ s2 q=>q
theorem Lp (hN:X.N.Nodup)(hi:X.N[i]?=some x)(hx:Fg X.env.scope x)(he:QE X e te)(hs:autoParam (swapsWith e (some (.Name x pos')) pos.line X.env=pure false) zX)(hf:autoParam (X.fn x=true\/X.env.scope.names.lookup x=some .local) zQ):QS X (.Assign [.Name x pos'] e pos) (G7 te (He i)):=by
 refine⟨?_⟩;have he:=he.run
 intro pins s σ H D I h;refine wpAny_Assign_Name (Ap (he pins s σ H _ I h) λv s1 F=>?_) hs;obtain⟨y,H1,U,O,Z⟩:=F;exact Ll U hN hi hx O (λs2 Y=>⟨_,H1,Y,Z⟩) hf
theorem Znn (hN:X.N.Nodup)(hi:X.N[i]?=some x)(hx:Fg X.env.scope x)(he:QE X e te)(ho:PIp X op ti)(hf:autoParam (X.fn x=true\/X.env.scope.names.lookup x=some .local) zQ):QS X (.AugAssign (.Name x pos') op e pos) (Zav i te ti):=by
 refine⟨?_⟩;have he:=he.run
 intro pins s σ H D I h;obtain⟨v,e1,h⟩:=h;obtain⟨m,hn,hl⟩:=I.loc;have Z:Vis X.env.scope x:=by rcases hx with k|k;exact .inl k;exact .inr (.inl k)
 obtain⟨u,r,l⟩:=hl i x v hi e1 Z;refine wpAny_AugAssign_Name ?_;have go:wpAny (model X.prog X.w) X.A (eval e X.env) (λw Y=>wpAny (model X.prog X.w) X.A (inplaceOp op u w) (λr U=>wpAny (model X.prog X.w) X.A (storeName X.env x r) (λ_=>SP X pins D .next) X.xe U) X.xe Y) X.xe s:=by
  refine Ap (he pins s σ H _ I h) λw s1 zq=>?_;obtain⟨y,H1,I1,r1,q1⟩:=zq;refine Ap (ho pins s1 σ H1 v y u w _ I1 r r1 q1) λz s2 zq=>?_;obtain⟨zv,H2,I2,r2,q2⟩:=zq;exact Ll I2 hN hi hx r2 (λs3 I3=>⟨_,H2,I3,q2⟩) hf
 rcases l with⟨F,hm⟩|⟨F,c,hc,O⟩
 ·exact wpAny_loadName_local I.ok.kind F hn hm go
 ·rcases F with F|F
  ·exact wpAny_loadName_cell I.ok.kind F hc O go
  ·rcases hx with k|k
   ·have:X.env.scope.names.lookup x=some .free:=F;rw[k]at this;cases this
   ·have:X.env.scope.names.lookup x=some .free:=F;rw[k]at this;cases this
theorem Iv (hp:PassesOwn (model X.prog X.w) X.A X.env X.xe)(hc:QT X c tc)(hb:Gc X body tb):QS X (.While c body [] pos) (Zf4 tc tb):=by
 refine⟨?_⟩;have hc:=hc.run;have hb:=hb.run
 intro pins s σ H D I h;obtain⟨W,⟨m0,w0⟩,Y⟩:=h;refine wpAny_While (codeAny_whileLoop (λn s'=>∃σ' H',Inv X pins σ' H' s'/\W n σ' H') ?_ m0 ⟨σ,H,I,w0⟩);rintro n s1 ⟨O,H1,I1,w1⟩;refine Sn hp (Ap (hc pins s1 O H1 _ I1 (Y n O H1 w1)) λb s2 zq=>?_);obtain⟨H2,I2,q2⟩:=zq;cases b with
 |true =>
  obtain⟨N,hN,q2⟩:=q2;rw[if_pos rfl];refine Sn hp (Ap (hb pins s2 O H2 _ I2 q2) λf s3 Z=>?_);cases f with
  |next =>
   obtain⟨F,U,I3,n3⟩:=Z;obtain⟨m',hm,w3⟩:=hN F U n3;exact⟨m',hm,F,U,I3,w3⟩
  |cont =>
   obtain⟨F,U,I3,n3⟩:=Z;obtain⟨m',hm,w3⟩:=hN F U n3;exact⟨m',hm,F,U,I3,w3⟩
  |brk=>exact Z
  |ret v=>exact Z
 |false =>
  rw[if_neg P5];exact Vl ⟨O,H2,I2,q2⟩
theorem Gg (hg:Gl X "range")(hm:X.mg "range"=none)(ha:QA X [a] ta)(hs:autoParam (starEach [a] X.env=[(false,eval a X.env)]) zX):QI X tg (.Call (.Name "range" p) [a] [] pos) (Zcn ta):=by
 refine⟨?_⟩;have ha:=ha.run
 intro pins s σ H R I h;refine Call_ (Ef I hg hm boot_range (Rg (Ap (ha pos pins s σ H _ I h) λus s1 O=>?_) hs rfl));obtain⟨vs,H1,I1,Y,F⟩:=O;obtain⟨j,e,F,Z,q⟩:=F;subst e;cases Y with
 |cons r U =>
  cases U;obtain⟨t,rfl⟩:=r;exact call_range_1 (Zs8 I1 (by lia) (by lia) F Z (by simpa using q))
theorem Cw (hp:PassesOwn (model X.prog X.w) X.A X.env X.xe)(hc:X.calm=true)(hi:QI X tg iter wi)(hg:QG X tg g)(hb:Gc X body tb)(hs:autoParam (∀x,foldedSetIterable iter X.env x=pure x) zE):QS X (.For tg iter body [] pos) (Oj wi g tb):=by
 refine⟨?_⟩;have hi:=hi.run;have hg:=hg.run;have hb:=hb.run
 intro pins s σ H D I h;refine wpAny_For (Ap (hi pins s σ H _ I h) λv s1 h1=>Ap h1 λan s2 h2=>?_) hs;obtain⟨it,fp,tn,J,H2,e,I2,T,ak,f2,W,⟨m0,w0⟩,ah⟩:=h2;subst e;have aa:∀{H':Hp},(∀b∈fp,H' b=none)->∀b∈fp,FpOk X pins H' b:=λhn b hb=>⟨hn b hb,(f2 b hb).2⟩;refine codeAny_forLoop_any (λn s'=>eX3 λi σ' H'=>Inv X pins σ' H' s'/\tn i s'.heap/\(∀b∈fp,H' b=none)/\W i n σ' H') ?_ m0 ⟨0,σ,H2,I2,ak,λb hb=>(f2 b hb).1,w0⟩;rintro n s3 ⟨i,O,H3,I3,ag,ai,w3⟩;rcases ah i n O H3 w3 with⟨stop,qn⟩|⟨go,N,hN,step⟩
 ·refine Sn hp (Ap (T.done X rfl rfl rfl hc i pins s3 O H3 X.xe I3 (aa ai) ag stop) λr s4 zq=>?_);obtain⟨hr,I4⟩:=zq;subst hr;exact Vl ⟨O,H3,I4,qn⟩
 ·refine Sn hp (Ap (T.item X rfl rfl rfl hc i pins s3 O H3 X.xe I3 (aa ai) ag go) λr s4 zq=>?_);obtain⟨u,hr,h4⟩:=zq;subst hr;refine Sn hp (Ap h4 λ_ s5 zq=>?_);obtain⟨x,H5,I5,r5,y5,ae,am⟩:=zq;have al:=I5.pinned (aa am) (T.obj _ _ ae);refine Sn hp (Ap (hg _ s5 O H5 x u _ al r5 (step x H5 y5)) λ_ s6 zq=>?_);obtain⟨aj,H6,I6,q6⟩:=zq;refine Sn hp (Ap (hb _ s6 aj H6 _ I6 q6) λf s7 q7=>?_);have Z:∀{F:St}{U:Hp},Inv X (pins++La fp s5.heap) F U s7->N F U->∃m,m<n/\eX3 λi σ' H'=>Inv X pins σ' H' s7/\tn i s7.heap/\(∀b∈fp,H' b=none)/\W i m σ' H':=λ{F U} Y n7=>by
   obtain⟨m',hm,w7⟩:=hN F U n7;refine⟨m',hm,i+1,F,U,Y.unpinned,T.keep _ _ _ ae λb hb o e=>(Y.pin (b,o) (Rh _ (Rh _ (Of hb e)))).1,λb hb=>?_,w7⟩;obtain⟨o,e,d⟩:=T.obj _ _ ae b hb;exact(Y.pin (b,o) (Rh _ (Rh _ (Of hb e)))).2.1
  cases f with
  |next=>obtain⟨F,U,Y,n7⟩:=q7;exact Z Y n7
  |cont=>obtain⟨F,U,Y,n7⟩:=q7;exact Z Y n7
  |brk=>obtain⟨F,U,Y,q7⟩:=q7;exact⟨F,U,Y.unpinned,q7⟩
  |ret v=>obtain⟨x7,F,U,Y,r7,q7⟩:=q7;exact⟨x7,F,U,Y.unpinned,r7,q7⟩
theorem Ab  : QA X [] Ol:=⟨Zhl⟩
theorem Aa (ha:QE X e te)(hr:QA X es t)(hs:autoParam (starEach (e::es) X.env=(false,eval e X.env)::starEach es X.env) zX):QA X (e::es) (Pg te t):=⟨Zd2 ha.run hr.run hs⟩
theorem Ak {x1}(h:QA X es t):QE X (.Tuple es x1 pos) (O8 t):=by
 refine⟨?_⟩;have h:=h.run
 intro pins s σ H Q I Z;refine wpAny_Tuple_spliced (Ap (h pos pins s σ H _ I Z) λU F ⟨xs,H1,O,r,z,q⟩=>⟨by rw[<- r.length];exact z,?_⟩);have Y:H1 F.heap.objs.size=none:=O.hok.fresh (Pk _);refine⟨.ref F.heap.objs.size,upd H1 F.heap.objs.size (.tup xs),O.laid (t':=F.toks) (λb u e=>Px _ e) (Pk _) ?_,rfl,q _ Y⟩;exact⟨z,U,r,⟨_,Qe _ rfl,rfl,_,rfl⟩⟩
theorem Bc (h:QA X es t):QE X (.List es pos) (Zaf t):=by
 refine⟨?_⟩;have h:=h.run
 intro pins s σ H Q I Z;refine wpAny_List_spliced (Ap (h pos pins s σ H _ I Z) λU F ⟨xs,H1,O,r,z,q⟩=>⟨by rw[<- r.length];exact z,?_⟩);have Y:H1 F.heap.objs.size=none:=O.hok.fresh (Pk _);refine⟨.ref F.heap.objs.size,upd H1 F.heap.objs.size (.lst xs),O.laid (t':=F.toks) (λb u e=>Px _ e) (Pk _) ?_,rfl,q _ Y⟩;exact⟨z,U,0,r,Qe _ rfl⟩
theorem A5 (C:A7 X.prog X.w X.K X.mg X.base k x ps sp)(hr:Room k X.A)(ha:QA X (e::es) t)(hg:autoParam (Gl X x) zX)(hdb:autoParam ((x == ("__debug__":Str))=false) zW)(he:autoParam (starEach (e::es) X.env=(false,eval e X.env)::starEach es X.env) zX)(hpl:autoParam ((backTo pos (starEach es X.env)).any (·.1)=false) zX):QE X (.Call (.Name x p) (e::es) [] pos) (M5 sp [] E0 t):=by
 refine⟨?_⟩;have ha:=ha.run
 obtain⟨f,fd,F,O,I,hb⟩:=C.ex;exact Zld F hr hg O I hb .nil Zrk ha hdb he hpl
theorem B6 {id:String}(hc:Dk X (.builtin id) r)(hg:Gl X x)(hm:X.mg x=none)(hv:bootBuiltins x=some (.builtin id))(ha:QA X (e::es) t)(hn:autoParam (x≠"__name__") zW)(hdb:autoParam ((x == ("__debug__":Str))=false) zW)(he:autoParam (starEach (e::es) X.env=(false,eval e X.env)::starEach es X.env) zX)(hpl:autoParam ((backTo pos (starEach es X.env)).any (·.1)=false) zX):QE X (.Call (.Name x p) (e::es) [] pos) (tCB r t):=by
 refine⟨?_⟩;have ha:=ha.run
 intro pins s σ H Q I h;refine Wk (Ef I hg hm hv ?_ hn hdb);exact PyProof.Rows.callWith_builtin1 (Ap (ha pos pins s σ H _ I h) λO F ⟨vs,H1,Y,U,Z⟩=>hc pins F σ H1 vs O Q Y U Z) he hpl
theorem Hk (hc:Dk X (.type T) r)(hg:Gl X x)(hm:X.mg x=none)(hv:bootBuiltins x=some (.type T))(ha:QA X (e::es) t)(hn:autoParam (x≠"__name__") zW)(hdb:autoParam ((x == ("__debug__":Str))=false) zW)(he:autoParam (starEach (e::es) X.env=(false,eval e X.env)::starEach es X.env) zX)(hpl:autoParam ((backTo pos (starEach es X.env)).any (·.1)=false) zX):QE X (.Call (.Name x p) (e::es) [] pos) (tCB r t):=by
 refine⟨?_⟩;have ha:=ha.run
 intro pins s σ H Q I h;refine Wk (Ef I hg hm hv ?_ hn hdb);exact Rg (Ap (ha pos pins s σ H _ I h) λO F ⟨vs,H1,Y,U,Z⟩=>hc pins F σ H1 vs O Q Y U Z) he hpl
theorem Go  : QO X none Ow:=by
 refine⟨?_⟩
 intro pins s σ H Q I h;rw[evalPart_none];exact Pl ⟨none,H,I,.none,h⟩
theorem Dm (h:QE X e te):QO X (some e) (Zcs te):=by
 refine⟨?_⟩;have h:=h.run
 intro pins s σ H Q I Y;rw[evalPart_some];refine Ap (h pins s σ H _ I Y) λu s1 F=>?_;obtain⟨x,H1,Z,O,U⟩:=F;obtain⟨i,rfl,q⟩:=U;obtain⟨t,rfl⟩:=O;exact⟨some i,H1,Z,.int i t,q⟩
theorem Er {lo hi:Option Expr}{r:V->Option Int->Option Int->Hp->VK->Prop}(hr:SlR X r)(he:QE X e te)(hl:QO X lo tl)(hu:QO X hi th):QE X (.Subscript e (.Slice lo hi none p2) pos) (tSl r te tl th):=by
 refine⟨?_⟩;have he:=he.run;have hl:=hl.run;have hu:=hu.run
 intro pins s σ H Q I h;refine Subscript_ (Ap (he pins s σ H _ I h) λv s1 O=>?_);obtain⟨x,H1,I1,r1,q1⟩:=O;refine wpAny_Slice (Ap (hl pins s1 σ H1 _ I1 q1) λU s2 O=>?_);obtain⟨l,H2,I2,pl,q2⟩:=O;refine Ap (hu pins s2 σ H2 _ I2 q2) λY F O=>?_;obtain⟨u,Z,I3,pu,q3⟩:=O;rw[evalPart_none];refine Pl ?_;have I4:Inv X pins σ Z { F with heap:=F.heap.push { cls:=.type "slice",data:=.fields #[U,Y,.none] } }:=I3.kept (t':=F.toks) λb ob q=>Px _ q;obtain⟨T,id,hT,ht,hg⟩:=hr pins { F with heap:=F.heap.push { cls:=.type "slice",data:=.fields #[U,Y,.none] } } σ Z x v U Y l u F.heap.objs.size Q I4 r1 (Heap.IsSliceOf.new ..) pl pu q3;show wpAny (model X.prog X.w) X.A (subscriptTail e (.Slice lo hi none p2) v (.ref F.heap.objs.size)) (EP X pins σ Q) X.xe { F with heap:=F.heap.push { cls:=.type "slice",data:=.fields #[U,Y,.none] } };exact tail_any (ops:=[.ref F.heap.objs.size,v]) ht hT hg (by with_unfolding_all rfl)
theorem Zu1 (hr:IxR X r)(ha:QE X a ta)(hb:QE X b tb)(hs:Zce b):QE X (.Subscript a b pos) (Fv r ta tb):=by
 refine⟨?_⟩;have ha:=ha.run;have hb:=hb.run
 intro pins s σ H Q I h;exact Subscript_ (Zaq ha hb I h λv u U x y H2 F Y O q=>hr a b pins U σ H2 x y v u Q F Y O q (hs _ _))
theorem Zl4 {T id:String}(pa:PlainAttrs T)(slot:Slot T name id)(hty:typeOf (.builtin id)=pure (.type "method_descriptor"))(hm:Ht X id r)(ho:QE X o to)(ha:QA X (e::es) t)(hbase:autoParam (attributeBase o name X.env (eval o X.env)=eval o X.env) zX)(hfew:autoParam (((backTo cpos (starEach (e::es) X.env)).all (λx=>!x.1) && (backToKw cpos (keywordEach [] X.env)).all (λx=>x.1.isSome)
   && decide ((e::es).length+([]:List Keyword).length+(if ([]:List Keyword).isEmpty then 0 else 1)<30))=true) zX) (hline:autoParam ((apos.endLine == cpos.line)=true) zX) (hs:autoParam (starEach (e::es) X.env=(false,eval e X.env)::starEach es X.env) zX) (hplain:autoParam ((backTo cpos (starEach es X.env)).any (·.1)=false) zX):QE X (.Call (.Attribute o name apos) (e::es) [] cpos) (tBM X.K T r to t):=by
 refine⟨?_⟩;have ho:=ho.run;have ha:=ha.run
 intro pins s σ H Q I h;refine wpAny_Call_method_late hbase hfew hline rfl (Ap (ho pins s σ H _ I h) λv s1 Y=>?_);obtain⟨x,H1,U,F,ty,q1⟩:=Y;obtain⟨h1,h2⟩:=Zgo U F ty;refine⟨T,id,pa,slot,hty,h1,h2,?_⟩;have O:=ha cpos pins s1 σ H1 _ U q1;rw[hs]at O ⊢;refine U8 (by show(false || (backTo cpos (starEach es X.env)).any (·.1))=false;rw[hplain] <;> rfl) (Wb ?_);exact Ap O λZ s2 ⟨vs,H2,I2,r2,q2⟩=>hm pins s2 σ H2 x vs v Z Q I2 F r2 q2
theorem Zrb {T id:String}(pa:PlainAttrs T)(slot:Slot T name id)(hty:typeOf (.builtin id)=pure (.type "method_descriptor"))(hm:Ht X id r)(ho:QE X o to)(hbase:autoParam (attributeBase o name X.env (eval o X.env)=eval o X.env) zX)(hline:autoParam ((apos.endLine == cpos.line)=true) zX):QE X (.Call (.Attribute o name apos) [] [] cpos) (Ms X.K T r to):=by
 refine⟨?_⟩;have ho:=ho.run
 intro pins s σ H Q I h;refine wpAny_Call_method0_late hbase hline (Ap (ho pins s σ H _ I h) λv U Y=>?_);obtain⟨x,H1,O,F,ty,Z⟩:=Y;obtain⟨h1,h2⟩:=Zgo O F ty;exact⟨T,id,pa,slot,hty,h1,h2,U8 rfl (PySem.evalArgs_none (hm pins U σ H1 x [] v [] Q O F .nil Z))⟩
theorem Jx (hc:X.calm=true)(S:Il scope X.env)(hi:QI X target iter wi)(T:∀σ,σ.length=X.N.length->Gq X scope N σ (σ0 σ))(hg:∀C s H fp,QG (C4 X scope C N s H fp) target g)(ht:∀C s H fp,QTs (C4 X scope C N s H fp) ifs tt)(he:∀C s H fp,QE (C4 X scope C N s H fp) elt te)(hs:autoParam (∀x,foldedSetIterable iter X.env x=pure x) zE):QE X (.ListComp elt [⟨target,iter,ifs,0⟩] scope pos) (Lu wi σ0 g tt te):=⟨Zoh hc S hi.run T (λC s H fp=>(hg C s H fp).run) (λC s H fp=>(ht C s H fp).run) (λC s H fp=>(he C s H fp).run) hs⟩
theorem Ly (hc:X.calm=true)(S:Il scope X.env)(hi:QI X target iter wi)(T:∀σ,σ.length=X.N.length->Gq X scope N σ (σ0 σ))(hg:∀C s H fp,QG (C4 X scope C N s H fp) target g)(ht:∀C s H fp,QTs (C4 X scope C N s H fp) ifs tt)(he:∀C s H fp,QE (C4 X scope C N s H fp) elt te)(hN:X.N.Nodup)(hy:X.N[i]?=some y)(hx:Fg X.env.scope y)(hsw:autoParam (swapsWith (.ListComp elt [⟨target,iter,ifs,0⟩] scope pos) (some (.Name y py)) spos.line X.env=pure true) zX)(hf:autoParam (X.fn y=true\/X.env.scope.names.lookup y=some .local) zQ)(hs:autoParam (∀x,foldedSetIterable iter X.env x=pure x) zE):QS X (.Assign [.Name y py] (.ListComp elt [⟨target,iter,ifs,0⟩] scope pos) spos) (G7 (Lu wi σ0 g tt te) (He i)):=⟨Zpn hc S hi.run T (λC s H fp=>(hg C s H fp).run) (λC s H fp=>(ht C s H fp).run) (λC s H fp=>(he C s H fp).run) hN hy hx hsw hf hs⟩
theorem Fy:QTs X [] Zai:=⟨λ_ _ _ H _ I h=>wpAny_tests_nil ⟨H,I,h⟩⟩
theorem Zj5 (h:QT X c t):QTs X [c] t:=by
 refine⟨?_⟩;have h:=h.run;exact λpins s σ H Q I F=>wpAny_tests_one (h pins s σ H Q I F)
theorem Kj {j pos'}(ha:QE X a ta):QC X .Is a (.Constant .none j pos') (Zcz ta):=by
 refine⟨?_⟩;have ha:=ha.run
 intro pins s σ H Q I h;refine Ap (ha pins s σ H _ I h) λv Z F=>?_;obtain⟨x,H1,U,O,Y⟩:=F;exact Constant_none (is_none_gen ⟨.bl _,H1,U,by rw[O.none_iff];rfl,Y⟩)
theorem N2 {j pos'}(ha:QE X a ta):QC X .IsNot a (.Constant .none j pos') (Zb6 ta):=by
 refine⟨?_⟩;have ha:=ha.run
 intro pins s σ H Q I h;refine Ap (ha pins s σ H _ I h) λv Z F=>?_;obtain⟨x,H1,U,O,Y⟩:=F;exact Constant_none (isnot_none_gen ⟨.bl _,H1,U,by rw[O.none_iff];rfl,Y⟩)
theorem M7 (h:Nc es=some xs):QA X es (O3 xs):=⟨Zf6 h⟩
theorem qv (i:Nat)(hN:autoParam (X.N[i]?=some x) zX)(hv:Vis X.env.scope x:=by first|exact Or.inl rfl|exact Or.inr (Or.inl rfl)|exact Or.inr (Or.inr rfl))(hd:autoParam ((x == ("__debug__":Str))=false) zW)(hcd:autoParam ((x == ("__classdict__":Str))=false) zW):QE X (.Name x pos) (Oy i):=by
 refine⟨?_⟩
 intro pins s σ H Q I h;obtain⟨v,e,h⟩:=h;obtain⟨m,Z,Y⟩:=I.loc;obtain⟨u,r,l⟩:=Y i x v hN e hv;have fin:EP X pins σ Q u s:=⟨v,H,I,r,h⟩;rcases l with⟨O,U⟩|⟨O,c,hc,F⟩
 ·exact wpAny_Name (wpAny_loadName_local I.ok.kind O Z U fin) hd
 ·rcases O with O|O
  ·exact wpAny_Name (wpAny_loadName_cell I.ok.kind O hc F fin) hd
  ·exact wpAny_Name (wpAny_loadName_free I.ok.kind O hc F fin hcd) hd
theorem QW.qt (h:QW X e t):QT X e t:=⟨h.run.pt⟩
section
variable {P:Program}{w:World}{K:Ph}{mg:Str->Option Value}{base:Heap}
theorem Fun.okq {x qual:Str}{st:Stmt}{f:Addr}{fd:FuncData}{N ps:List Str}{k:Nat}{sp:Sp}(F:Fun K x qual st f fd)(S:Bm N ps (Bh st))(len:∀vs H Q E,sp vs H Q E->vs.length=ps.length)
  (hbody:∀(cdv:Value)(A:Around)(outer:List Env)(s:Shared)(H:Hp)(vs:List V)(Q:VK)(E:XK),Room k (A.deeper (envOfC qual (Bh st) s.heap.objs.size f cdv))->sp vs H Q E ->
   ∃t,Gc (Hx A9 P w K mg base N qual (Bh st) f cdv A outer s H E).nox (F1 st) t/\t { nx:=λ_ H'=>Q .non H',rt:=Q } (Gf N vs) H):A8 P w K mg base A9 (k+1) f fd ps sp :=
 F.ok S len λcdv A outer s H vs Q E I h=>by
  obtain⟨t,q,r⟩:=hbody cdv A outer s H vs Q E I h;exact⟨t,q.run,r⟩
end
section
variable {X:Cx}
def Zot:R2:=λx y H Q=>∃i j,x=.str i/\y=.str j/\i.length+j.length<=sizeLine/\Q (.str (i++j)) H
def Zjd (K:Ph):R2:=λx y H Q=>eX4 λa b xs ys=>x=.ref a/\y=.ref b/\SqT K H a xs/\SqT K H b ys/\xs.length+ys.length<=sizeLine /\
 ∀r H',Same H H'->SqT K H' r (xs++ys)->Q (.ref r) H'
theorem Zsu:OpR X (binaryOp .Add) (Zjd X.K):=by
 intro pins s σ H x y v u Q I rx ry h;obtain⟨a,b,xs,ys,rfl,rfl,ha,hb,hz,q⟩:=h;by_cases hx:xs=[]
 ·subst hx;cases rx;cases ry;obtain⟨ai,r1,p1,_⟩:=I.tuple ha;obtain⟨ae,r2,p2,_⟩:=I.tuple hb;cases r1;obtain⟨⟨aj,dd,ag,sl⟩,ho,hc,n,hd⟩:=id p1;obtain⟨⟨ah,aa,Y,Z⟩,O,U,n2,F⟩:=id p2;simp only at hc hd U F;subst hc hd U F;exact Vw ⟨_,ho,rfl⟩ ⟨_,O,rfl⟩ Vi Vr U7 U4 (U2 _ _)
   (tuple_addW0 a b _ _ n n2 dd aa sl Z (by simp)) ⟨ho,O,⟨.ref b,H,I,rfl,q b H (Same.refl H) hb⟩⟩
 ·refine Zjb pins s σ H _ _ v u Q I rx ry ⟨a,b,xs,ys,rfl,rfl,ha,hb,hx,hz,λe=>?_,λ_ p hp=>q p _ (λc o e=>by rw[Ai (A6 e hp)];exact e) (.inl (.inl Ac))⟩;subst e;exact q a H (Same.refl H) (by rw[Qj];exact ha)
def Ig (K:Ph):R2:=λx y H Q=>Fl (λi j=>.int (i+j)) x y H Q\/Zot x y H Q\/rCat x y H Q\/Zjd K x y H Q
theorem op_addA:OpR X (binaryOp .Add) (Ig X.K):=op_add.or (op_add_str.or (op_cat.or Zsu))
theorem s_add_int {K:Ph}{i j:Int}{H:Hp}{Q:VK}(h:Q (.int (i+j)) H):Ig K (.int i) (.int j) H Q:=.inl ⟨i,j,rfl,rfl,h⟩
theorem Za8 {K:Ph}{i j:Str}{H:Hp}{Q:VK}(hl:i.length+j.length<=sizeLine)(h:Q (.str (i++j)) H):Ig K (.str i) (.str j) H Q:=.inr (.inl ⟨i,j,rfl,rfl,hl,h⟩)
theorem Pe {K:Ph}{a b:Addr}{xs ys:List V}{H:Hp}{Q:VK}(ha:H a=some (.lst xs))(hb:H b=some (.lst ys))(hz:xs.length+ys.length<=sizeLine)(h:∀p,H p=none->Q (.ref p) (upd H p (.lst (xs++ys)))):Ig K (.ref a) (.ref b) H Q:=.inr (.inr (.inl ⟨a,b,xs,ys,rfl,rfl,ha,hb,hz,h⟩))
theorem Znk {K:Ph}{a b:Addr}{xs ys:List V}{H:Hp}{Q:VK}(ha:SqT K H a xs)(hb:SqT K H b ys)(hz:xs.length+ys.length<=sizeLine)(h:∀r H',Same H H'->SqT K H' r (xs++ys)->Q (.ref r) H'):Ig K (.ref a) (.ref b) H Q:=.inr (.inr (.inr ⟨a,b,xs,ys,rfl,rfl,ha,hb,hz,h⟩))
def Zb0:R2:=λx y H Q=>rI CMul (λi j=>.int (i*j)) x y H Q\/rRep x y H Q
theorem G8:OpR X (binaryOp .Mult) Zb0:=op_mul.or Zp1
theorem s_mul_l (h1:-(2 ^ 64)<i)(h2:i<2 ^ 64)(h:Q (.int (i*j)) H):Zb0 (.int i) (.int j) H Q:=.inl ⟨i,j,rfl,rfl,.inl ⟨h1,h2⟩,h⟩
theorem s_mul_r (h1:-(2 ^ 64)<j)(h2:j<2 ^ 64)(h:Q (.int (i*j)) H):Zb0 (.int i) (.int j) H Q:=.inl ⟨i,j,rfl,rfl,.inr ⟨h1,h2⟩,h⟩
theorem s_rI (hc:C i j)(h:Q (g i j) H):rI C g (.int i) (.int j) H Q:=⟨i,j,rfl,rfl,hc,h⟩
theorem s_rI0 (h:Q (g i j) H):Fl g (.int i) (.int j) H Q:=⟨i,j,rfl,rfl,h⟩
theorem s_rU (h:Q (g i) H):rU g (.int i) H Q:=⟨i,rfl,h⟩
def rLtA:R2:=λx y H Q=>Fl (λi j=>.bl (decide (i<j))) x y H Q\/∃i j,x=.str i/\y=.str j/\Q (.bl (decide (i.cps.toList<j.cps.toList))) H
theorem Kk:OpR X (compareOp .Lt) rLtA:=op_lt.or Zu4
def rLeA:R2:=λx y H Q=>Fl (λi j=>.bl (decide (i<=j))) x y H Q\/∃i j,x=.str i/\y=.str j/\Q (.bl (!(decide (j.cps.toList<i.cps.toList)))) H
theorem Zq1:OpR X (compareOp .LtE) rLeA:=op_le.or Zr9
theorem s_lt (h:Q (.bl (decide (i<j))) H):rLtA (.int i) (.int j) H Q:=.inl ⟨i,j,rfl,rfl,h⟩
theorem s_le (h:Q (.bl (decide (i<=j))) H):rLeA (.int i) (.int j) H Q:=.inl ⟨i,j,rfl,rfl,h⟩
def Zar (neg:Bool):R2:=λx y H Q=>∃(c:Nat)(j:Str),x=.str ⟨#[c]⟩/\y=.str j/\Q (.bl (if neg then !decide (c∈j.cps.toList) else decide (c∈j.cps.toList))) H
theorem Zjz:OpR X (compareOp .In) (Zar false):=Zn4
theorem Znc:OpR X (compareOp .NotIn) (Zar true):=Zmd
def Kl (K:Ph)(neg:Bool):R2:=λx y H Q=>rIn K neg x y H Q\/Zar neg x y H Q
theorem Znd:OpR X (compareOp .In) (Kl X.K false):=op_in_seq.or Zjz
theorem Zmy:OpR X (compareOp .NotIn) (Kl X.K true):=op_notIn_seq.or Znc
theorem Fb {K:Ph}{neg:Bool}{x:V}{p:Addr}{xs:List V}{H:Hp}{Q:VK}(hq:SqL K H p xs\/SqT K H p xs)(hx:C5 x=true)(hxs:xs.all C5=true)(h:Q (.bl (if neg then !Fa x xs else Fa x xs)) H):Kl K neg x (.ref p) H Q:=.inl ⟨p,xs,rfl,hq,hx,hxs,h⟩
def O1 (K:Ph):V->Option Int->Option Int->Hp->VK->Prop:=λx lo hi H Q=>Zaa K x lo hi H Q\/Zbe x lo hi H Q\/rSlT K x lo hi H Q
theorem Zsn:SlR X (O1 X.K):=sl_list.or (sl_str.or Zfc)
theorem Jq {K:Ph}{a:Addr}{xs:List V}{lo hi:Option Int}{H:Hp}{Q:VK}(ha:SqL K H a xs)(h:∀p,H p=none->Q (.ref p) (upd H p (.lst (Cb xs lo hi)))):O1 K (.ref a) lo hi H Q:=.inl ⟨a,xs,rfl,ha,h⟩
theorem Ba {K:Ph}{a:Addr}{xs:List V}{i:Int}{v:V}{H:Hp}{Q:VK}(ha:SqL K H a xs)(hv:B8 xs i=some v)(h:Q v H):Jk K (.ref a) (.int i) H Q:=.inl ⟨a,xs,i,v,rfl,rfl,ha,hv,h⟩
theorem Ao {K:Ph}{a:Addr}{xs:List V}{i:Int}{v:V}{H:Hp}{Q:VK}(ha:SqT K H a xs)(hv:B8 xs i=some v)(h:Q v H):Jk K (.ref a) (.int i) H Q:=.inr (.inl ⟨a,xs,i,v,rfl,rfl,ha,hv,h⟩)
theorem Zlc {K:Ph}{z:Str}{i:Int}{c:Nat}{H:Hp}{Q:VK}(hl:z.length<=sizeLine)(hv:B8 z.cps.toList i=some c)(h:Q (.str ⟨#[c]⟩) H):Jk K (.str z) (.int i) H Q:=.inr (.inr ⟨z,i,c,rfl,rfl,hl,hv,h⟩)
def N7 (K:Ph):List V->Hp->VK->Prop:=λxs H Q=>∃x n,xs=[x]/\LenV K x H n/\Q (.int n) H
theorem Zu0:Dk X (.builtin "len") (N7 X.K):=Zrq
theorem D0 {K:Ph}{a:Addr}{xs:List V}{H:Hp}{Q:VK}(ha:SqL K H a xs)(h:Q (.int xs.length) H):N7 K [.ref a] H Q:=⟨_,_,rfl,.inl ⟨xs,ha,rfl⟩,h⟩
theorem Iy {K:Ph}{a:Addr}{xs:List V}{H:Hp}{Q:VK}(ha:SqT K H a xs)(h:Q (.int xs.length) H):N7 K [.ref a] H Q:=⟨_,_,rfl,.inr ⟨xs,ha,rfl⟩,h⟩
structure Gb (mg:Str->Option Value)(x:Str)(v:V):Prop where
 ex:∃u,mg x=some u/\RelV v u
theorem Fj (G:Gb X.mg x v)(hg:autoParam (Gl X x) zX)(hd:autoParam ((x == ("__debug__":Str))=false) zW):QE X (.Name x pos) (tC v):=by
 obtain⟨u,h,r⟩:=G.ex;exact⟨Zs3 hg h r hd⟩
def Zck (K:Ph)(tl:TE):TI:=λσ H R=>tl σ H λx H1=>(∃a,x=.ref a/\(∃xs,SqL K H1 a xs)/\R (Hr K a) H1)\/(∃a,x=.ref a/\(∃xs,SqT K H1 a xs)/\R (Ic K a) H1)\/∃z,x=.str z/\R (Its z) H1
theorem Zlp (hl:QE X l tl):QI X tg l (Zck X.K tl):=by
 refine⟨λpins s σ H R I h=>?_⟩;refine Ap (hl.run pins s σ H _ I h) λv F zq=>?_;obtain⟨x,H1,O,Y,q1⟩:=zq;have one:∀(l:Expr)(t:TE),PE X l t->True:=λ_ _ _=>trivial;rcases q1 with⟨a,e,⟨xs,Z⟩,q⟩|⟨a,e,⟨xs,Z⟩,q⟩|⟨z,e,q⟩
 ·subst e;cases Y;obtain⟨U,rv,p,hz⟩:=O.list Z;refine wpAny_pyIter_list p.isList ?_;refine⟨F.heap.objs.size,[F.heap.objs.size],_,_,H1,rfl,O.kept (t':=F.toks) λb o e=>Px _ e,Zsh a _,⟨_,Qe _ rfl,rfl,rfl⟩,λb hb=>?_,q⟩;have e:b=F.heap.objs.size:=by simpa using hb
  subst e;exact O.fpOk (Pk _) (O.hok.fresh (Pk _))
 ·subst e;cases Y;obtain⟨U,rv,p,hz⟩:=O.tuple Z;refine Ud (show F.heap.IsTuple a U.toArray from p) ?_;refine⟨F.heap.objs.size,[F.heap.objs.size],_,_,H1,rfl,O.kept (t':=F.toks) λb o e=>Px _ e,Zsb a _,⟨_,Qe _ rfl,rfl,rfl⟩,λb hb=>?_,q⟩;have e:b=F.heap.objs.size:=by simpa using hb
  subst e;exact O.fpOk (Pk _) (O.hok.fresh (Pk _))
 ·subst e;obtain⟨t,rfl⟩:=Y;refine wpAny_pyIter_strU ?_;refine⟨F.heap.objs.size,[F.heap.objs.size],_,_,H1,rfl,O.kept (t':=F.toks) λb o e=>Px _ e,Zon _ z t,⟨_,Qe _ rfl,rfl,rfl⟩,λb hb=>?_,q⟩;have e:b=F.heap.objs.size:=by simpa using hb
  subst e;exact O.fpOk (Pk _) (O.hok.fresh (Pk _))
end
section
variable {X:Cx}{tg:Expr}
end
noncomputable def Iq (K:Ph)(a:Addr)(n:Nat):It :=
 ⟨λi H=>∃xs,SqL K H a xs/\xs.length=n/\i<n,λi H x H'=>H'=H/\∀xs,SqL K H a xs->xs[n-1-i]?=some x,λi _=>i=n⟩
theorem Zkj {P:Program}{w:World}{K:Ph}{tg:Expr}(a it:Addr)(n:Nat):Gi P w K tg (Iq K a n) [it] it (λi h=>i<=n/\h.IsRevIter it a ((n:Int)-1-(i:Int))) where
 mem:=by simp
 obj:=λi h st b hb=>by
  have e:b=it:=by simpa using hb
  subst e;obtain⟨o,e,c,d⟩:=st.2;exact⟨o,e,λv z=>by rw[d]at z;cases z⟩
 keep:=λi h h' st k=>⟨st.1,st.2.at λo e=>k it (by simp) o e⟩
 item:=by
  intro X hP hw Y hc i pins s σ H E I U st O;subst hP hw Y;obtain⟨xs,hq,hl,hi⟩:=O;obtain⟨aa,rv,p,hz⟩:=I.list hq;have hx:xs[n-1-i]?=some (xs[n-1-i]'(by lia)):=Pj (by lia);obtain⟨u,hu,ru⟩:=rv.get hx;obtain⟨Z,f1,f2,f3,f4,f5⟩:=U it (by simp);have e:(n:Int)-1-(i:Int)=((n-1-i:Nat):Int):=by lia
  have hit:=st.2;rw[e]at hit;refine wpAny_pyNext_rev_item hit p.isList (x:=u) (by simpa using hu) λh' F sb=>?_;have I1:Inv X pins σ H { s with heap:=h' }:=I.turned (t':=s.toks) (λb o hb e=>(sb.2 b hb).trans e) Z f1 f3 f4 f5;have e2:((n-1-i:Nat):Int)-1=(n:Int)-1-((i+1:Nat):Int):=by lia
  rw[e2]at F;obtain⟨o,eo,c,d⟩:=id F;exact⟨u,rfl,K9 (s:={ s with heap:=h' }) eo c d (by decide) ⟨_,H,I1,ru,⟨rfl,λys hy=>by rw[I.list_inj hy hq];exact hx⟩,⟨hi,F⟩,λb hb=>(U b hb).1⟩⟩
 done:=by
  intro X hP hw Y hc i pins s σ H E I U st O;subst hP hw Y;have O:i=n:=O;subst O;obtain⟨Z,f1,f2,f3,f4,f5⟩:=U it (by simp);have e:(i:Int)-1-(i:Int)=-1:=by lia
  have hit:=st.2;rw[e]at hit;exact wpAny_pyNext_rev_end (I.ok.hd hc) hit λh' eb=>⟨rfl,I.turned (t':=s.toks) (λb o hb e=>eb b o hb e) Z f1 f3 f4 f5⟩
 self:=λ_ _ _ _ _ st h=>Wc st.2 h
theorem Zib:bootBuiltins "reversed"=some (.type "reversed"):=by right
section
variable {X:Cx}{tg:Expr}
def Zaj (K:Ph)(ta:TA):TI:=λσ H R=>ta σ H λvs H1=>∃a xs,vs=[.ref a]/\SqL K H1 a xs/\R (Iq K a xs.length) H1
theorem Ztm (hg:Gl X "reversed")(hm:X.mg "reversed"=none)(ha:QA X [a] ta)(hs:autoParam (starEach [a] X.env=[(false,eval a X.env)]) zX):QI X tg (.Call (.Name "reversed" p) [a] [] pos) (Zaj X.K ta):=by
 refine⟨λpins s σ H R I h=>?_⟩;refine Call_ (Ef I hg hm Zib (Rg (Ap (ha.run pos pins s σ H _ I h) λus F Z=>?_) hs rfl));obtain⟨vs,H1,Y,r1,q1⟩:=Z;obtain⟨l,xs,e,hq,q⟩:=q1;subst e;cases r1 with
 |cons r rr =>
  cases rr;cases r;obtain⟨U,rv,pl,hz⟩:=Y.list hq;refine call_reversed_list pl.isList ?_;have hl:=rv.length;have O:(F.heap.push (Vz l (((U.toArray).size:Int)-1))).IsRevIter F.heap.objs.size l ((xs.length:Int)-1-((0:Nat):Int)):=by
   refine⟨_,Qe _ rfl,rfl,?_⟩;have e:((U.toArray).size:Int)-1=(xs.length:Int)-1-((0:Nat):Int):=by simp[hl]
   rw[<- e];rfl
  refine Wc (it:=F.heap.objs.size) (l:=l) (i:=(xs.length:Int)-1-((0:Nat):Int)) O ?_;refine⟨F.heap.objs.size,[F.heap.objs.size],_,_,H1,rfl,Y.kept (t':=F.toks) λb o e=>Px _ e,Zkj l _ xs.length,⟨P8 _,O⟩,λb hb=>?_,q⟩;have e:b=F.heap.objs.size:=by simpa using hb
  subst e;exact Y.fpOk (Pk _) (Y.hok.fresh (Pk _))
theorem Zed {K:Ph}{a:Addr}{xs:List V}{g:TG}{tb:TS}{D:Dj}{σ:St}{H:Hp}(Pv:Nat->St->Hp->Prop)(h0:Pv 0 σ H)(hl:∀i σ H,i<=xs.length->Pv i σ H->SqL K H a xs)
  (hs:∀i x σ H,i<xs.length->xs[xs.length-1-i]?=some x->Pv i σ H->g x σ H λσ2 H2=>tb { D with nx:=Pv (i+1),ct:=Pv (i+1),bk:=D.nx } σ2 H2) (hd:∀σ H,Pv xs.length σ H->D.nx σ H) :
  ∃W:Nat->Nat->St->Hp->Prop,(∃m,W 0 m σ H)/\∀i m σ H,W i m σ H ->
   ((Iq K a xs.length).stop i H/\D.nx σ H)\/((Iq K a xs.length).go i H/\∃N:St->Hp->Prop,(∀σ' H',N σ' H'->∃m',m'<m/\W (i+1) m' σ' H')/\∀x H',(Iq K a xs.length).yld i H x H'->g x σ H' λσ2 H2=>tb { D with nx:=N,ct:=N,bk:=D.nx } σ2 H2):=by
 refine⟨λi m σ H=>m=xs.length-i/\i<=xs.length/\Pv i σ H,⟨xs.length,by simp,P8 _,h0⟩,?_⟩;rintro i m σ H ⟨rfl,hi,p⟩;have q:=hl i σ H hi p;by_cases F:i<xs.length
 ·refine .inr ⟨⟨xs,q,rfl,F⟩,Pv (i+1),λσ' H' I=>⟨xs.length-(i+1),by lia,rfl,F,I⟩,λx H' y=>?_⟩;obtain⟨e,y⟩:=y;subst e;exact hs i x σ _ F (y xs q) p
 ·have e:i=xs.length:=by lia
  subst e;exact .inl ⟨rfl,hd σ H p⟩
end
section
variable {prog:Program}{w:World}{A:Around}{E:Value->Shared->Prop}{s:Shared}
theorem Zpe (hit:s.heap.IsTupleIter it t i)(ht:s.heap.IsTuple t items)(hx:items[i]?=some x)(hQ:∀h',h'.IsTupleIter it t (i+1)->P7 it s.heap h'->Q x { s with heap:=h' }):wpAny (model prog w) A (Q8 (.ref it)) Q E s:=by
 obtain⟨o,F,hc,hd⟩:=id hit;obtain⟨U,I,_,nl,O⟩:=ht;unfold Q8;refine Pi (Ro (name:=Qw "__next__") hit.typeIs Uy
  (Rt Uy hit.typeIs W5 ?_ (W4 _)))
 show wpAny _ _ (field (.ref it) 0 >>= _) _ _ s;refine Pi (P9 F hd (x:=.ref t) rfl ?_);show wpAny _ _ (if (Value.ref t == Value.none)=true then _ else _) _ _ s;rw[if_neg (show ¬((Value.ref t == Value.none)=true) from P5)];show wpAny _ _ (field (.ref it) 1 >>= _) _ _ s;refine Pi (P9 F hd (x:=.int i 0) rfl ?_);show wpAny _ _ (seqItems? (.ref t) >>= _) _ _ s;refine Pi (Rl I O ?_);simp only[Sm,hx];refine Pi (wpAny_setField F hd (by simp) (Pl ⟨x,rfl,Pl (hQ _ ?_ (P7.update ..))⟩));exact⟨_,S9 _ F (Obj.isFreed_of_fields (Obj.data_mapFields hd _)),(Obj.cls_mapFields ..).trans hc,by
  rw[Obj.data_mapFields hd];simp[rawInt]⟩
theorem Zke (hh:A.handled=none)(hit:s.heap.IsTupleIter it t i)(ht:s.heap.IsTuple t items)(hx:items[i]?=none)(hE:∀h' e,Tq it s.heap h'->(∃o,h'.get? e=some o/\o.cls=.type "StopIteration")->E (.ref e) { s with heap:=h' }):wpAny (model prog w) A (Q8 (.ref it)) Q E s:=by
 obtain⟨o,I,hc,hd⟩:=id hit;obtain⟨U,F,_,nl,O⟩:=ht;unfold Q8;refine Pi (Ro (name:=Qw "__next__") hit.typeIs Uy
  (Rt Uy hit.typeIs W5 ?_ (W4 _)))
 show wpAny _ _ (field (.ref it) 0 >>= _) _ _ s;refine Pi (P9 I hd (x:=.ref t) rfl ?_);show wpAny _ _ (if (Value.ref t == Value.none)=true then _ else _) _ _ s;rw[if_neg (show ¬((Value.ref t == Value.none)=true) from P5)];show wpAny _ _ (field (.ref it) 1 >>= _) _ _ s;refine Pi (P9 I hd (x:=.int i 0) rfl ?_);show wpAny _ _ (seqItems? (.ref t) >>= _) _ _ s;refine Pi (Rl F O ?_);simp only[Sm,hx];refine Pi (Tt (Pi (wpAny_setField I hd (by simp) ?_)));show wpAny _ _ (newExc (.type "StopIteration") [] >>= _) _ _ _;refine Pi ?_;simp only[newExc,newTuple];refine Pi (R7 ?_ (by size_fits));refine Pi (m:=firstArgMember _ _) (wpAny_of_eq (a:=Value.none) (by first|rfl|(simp only[firstArgMember];rfl)) ?_);refine R7 ?_ (by size_fits);simp only[raiseNew];refine Pi (wpAny_handled ?_)
 first|rw[show A.in1.handled=none from hh]|rw[hh]
 refine Pi (Pl (wpAny_throw ?_));exact hE _ _ (((P7.update ..).extBut.push _).push _) ⟨_,Qe _ rfl,rfl⟩
end
theorem Zbv (hh:A.handled=none)(it l:Addr)(hne:l≠it)(items:Array Value) :
  Draws prog w A it [it,l] items.size (λi v=>items[i]?=some v) (λi h=>h.IsTupleIter it l i/\h.IsTuple l items) where
 live:=λ_ _ st=>let ⟨o,ho,_⟩:=st.1;⟨o,ho⟩
 frame:=λ_ _ _ st O=>⟨st.1.at λo e=>O it (by simp) o e,let ⟨o,e,r⟩:=st.2;⟨o,O l (by simp) o e,r⟩⟩
 item:=λi s Q E hi st Y=>by
  refine Zpe st.1 st.2 (x:=items[i]) (by simp[hi]) λh' F I=>?_;exact Y _ h' s.toks (by simp[hi]) ⟨F,st.2.extBut I.extBut hne⟩ I
 done:=λs Q E st U=>Zke hh st.1 st.2 (by simp) U
theorem Zqp (l:Addr)(items:Array Value)(n:Nat)(dct:Option Addr)(sl:Array (Option Value)) :
  Meets (Builtin.«enumerate.__new__» ⟨[.type "enumerate",.ref l],[]⟩) (λ_ R s=>s.heap.get? l=some { cls:=.type "tuple",dict:=dct,data:=.seq items n,slots:=sl } /\
   R (.ok (.ret (.ref (s.heap.push { cls:=.type "tuple_iterator",data:=.fields #[.ref l,.int 0 0] }).objs.size)))
    { s with heap:=(s.heap.push { cls:=.type "tuple_iterator",data:=.fields #[.ref l,.int 0 0] }).push { cls:=.type "enumerate",data:=.fields #[.none,.bool false,.ref s.heap.objs.size,rawInt 0,.none,.none] } }) :=
 .of_wp λprog w A R s h=>by
  obtain⟨U,g,d,tk,os⟩:=s;obtain⟨F,h⟩:=h;have O:=sub_enumerate;have I:Heap.IsTuple (Shared.heap ⟨U,g,d,tk,os⟩) l items:=⟨_,F,rfl,n,rfl⟩
  wp_walk using Uz F
  refine wpAny_stack_any λst=>Pl ?_;split
  ·rename_i c _ _ _ _ _;cases (c == Value.type "enumerate")
   ·wp_walk using Uz F,Ud I
    exact⟨_,rfl,h⟩
   ·wp_walk using Uz F,Ud I
    exact⟨_,rfl,h⟩
  ·wp_walk using Uz F,Ud I
   exact⟨_,rfl,h⟩
section
variable {prog:Program}{w:World}{A:Around}{E:Value->Shared->Prop}{s:Shared}
theorem Zt1 (hL:s.heap.IsTuple l items)(h:∀h',IsEnum h' (s.heap.objs.size+1) s.heap.objs.size 0 .none->h'.IsTupleIter s.heap.objs.size l 0->h'.objs.size=s.heap.objs.size+2 ->
   (∀b o,s.heap.get? b=some o->h'.get? b=some o)->Q (.ref (s.heap.objs.size+1)) { s with heap:=h' }) :
  wpAny (model prog w) A (call (.type "enumerate") [.ref l]) Q E s:=by
 obtain⟨⟨c,I,dt,Y⟩,Z,hc,n,hd⟩:=hL;replace hc:c=.type "tuple":=hc;replace hd:dt=.seq items n:=hd;subst hc hd;refine callType_new PySem.F.called_enumerate (by decide) (PySem.F.typeCall_enumerate_1 _) (PySem.F.newCall_enumerate_1 _) (λobj=>PySem.F.args_object_init_2 obj _) PySem.F.entry_enumerate_new
  (Zqp l items n I Y) ⟨Z,?_⟩
 have O:(s.heap.push { cls:=.type "tuple_iterator",data:=.fields #[.ref l,.int 0 0] }).objs.size=s.heap.objs.size+1:=Q6 ..;show _/\_;rw[O];have U:IsEnum ((s.heap.push { cls:=.type "tuple_iterator",data:=.fields #[.ref l,.int 0 0] }).push
   { cls:=.type "enumerate",data:=.fields #[.none,.bool false,.ref s.heap.objs.size,rawInt 0,.none,.none] }) (s.heap.objs.size+1) s.heap.objs.size 0 .none:=by
  unfold IsEnum;rw[<- O];exact Qe _ rfl
 refine⟨⟨_,U,rfl⟩,h _ U ⟨_,Px _ (Qe _ rfl),rfl,rfl⟩ (by rw[Q6,O]) λb o e=>Px _ (Px _ e)⟩
def N3 (h:Heap)(e it:Addr)(i:Int):Prop:=eX4 λ(a:Addr)(oa:Obj)(f1 old:Value)=>h.get? e=some { cls:=.type "enumerate",dict:=none,data:=.fields #[rawInt a,f1,.ref it,rawInt i,.none,old],slots:=#[] }/\h.get? a=some oa/\a≠e/\a≠it
theorem Zf8 (h:Q (s.heap.get? a) s):wpAny (model prog w) A (loadIfAlive a) Q E s:=by
 intro Γ p F;show Sem.wp _ Γ (.loadIfAlive a .pure) _ _ p s;rw[Sem.wp_loadIfAlive];exact h
theorem Zl3 {e it:Addr}{fp:List Addr}{n i:Nat}{P:Nat->Value->Prop}{St:Nat->Heap->Prop}{Q:Value->Shared->Prop}
  (D:Draws prog w A it fp n P St) (he0:N3 s.heap e it i) (hst:St i s.heap) (hlt:i<n) (hne:e≠it) (hef:e ∉ fp)
  (hQ:∀x h' tk,P i x->N3 h' e it ((i:Int)+1)->St (i+1) h' ->
   h'.get? s.heap.objs.size=some { cls:=.type "tuple",data:=.seq #[.int i tk,x] }->h'.objs.size=s.heap.objs.size+1 ->
   (∀b o,b≠e->b≠it->s.heap.get? b=some o->h'.get? b=some o)->Q (.ref s.heap.objs.size) { s with heap:=h',toks:=tk+1 }) :
  wpAny (model prog w) A (Builtin.«enumerate.__next__» ⟨[.ref e],[]⟩) (λfin s'=>∃v,fin=.done (.ret v)/\Q v s') E s:=by
 obtain⟨a,oa,f1,ap,he,a7,aq,ax⟩:=he0;obtain⟨hp,g,d,a6,os⟩:=s;show wpAny _ _ (field (.ref e) 2 >>= _) _ _ _;refine Pi (P9 he rfl (x:=.ref it) rfl ?_);refine Pi (D.item i _ _ _ hlt hst λx ag tk a8 an Y=>?_);replace Y:P7 it hp ag:=Y;have ak:=(Y.2 e hne).trans he;have ar:=Y.extBut a oa ax a7;show wpAny _ _ (field (.ref e) 3 >>= _) _ _ ⟨ag,g,d,tk,os⟩;refine Pi (P9 ak rfl (x:=rawInt i) rfl ?_);show wpAny _ _ (field (.ref e) 4 >>= _) _ _ ⟨ag,g,d,tk,os⟩;refine Pi (P9 ak rfl (x:=.none) rfl ?_);show wpAny _ _ (mkInt i >>= _) _ _ ⟨ag,g,d,tk,os⟩;refine Pi (wpAny_mkInt ?_);show wpAny _ _ (setField (.ref e) 3 (rawInt ((i:Int)+1)) >>= _) _ _ ⟨ag,g,d,tk+1,os⟩;refine Pi (Rs ak (by simp) λam ai O=>?_);replace O:P7 e ag am:=O;have as:=O.extBut a oa aq ar;replace ai:am.get? e=some { cls:=.type "enumerate",dict:=none,data:=.fields #[rawInt a,f1,.ref it,rawInt ((i:Int)+1),.none,ap],slots:=#[] }:=ai;show wpAny _ _ (setField (.ref e) 4 .none >>= _) _ _ ⟨am,g,d,tk+1,os⟩;refine Pi (Rs ai (by simp) λZ ah U=>?_);replace U:P7 e am Z:=U;have ao:=U.extBut a oa aq as;replace ah:Z.get? e=some { cls:=.type "enumerate",dict:=none,data:=.fields #[rawInt a,f1,.ref it,rawInt ((i:Int)+1),.none,ap],slots:=#[] }:=ah;show wpAny _ _ (newTuple [.int i tk,x] >>= _) _ _ ⟨Z,g,d,tk+1,os⟩;refine Pi (wpAny_newTuple ?_);have ae:(Z.push { cls:=.type "tuple",data:=.seq #[.int i tk,x] }).get? e=some { cls:=.type "enumerate",dict:=none,data:=.fields #[rawInt a,f1,.ref it,rawInt ((i:Int)+1),.none,ap],slots:=#[] }:=Px _ ah;have aj:(Z.push { cls:=.type "tuple",data:=.seq #[.int i tk,x] }).get? a=some oa:=Px _ ao;generalize hh₄:Z.push { cls:=.type "tuple",data:=.seq #[.int i tk,x] }=I at ae aj;have av:Z.objs.size=hp.objs.size:=by rw[U.1,O.1,Y.1]
 have a9:e<hp.objs.size:=Pt he;have a5:I.get? hp.objs.size=some { cls:=.type "tuple",data:=.seq #[.int i tk,x] }:=by rw[<- hh₄,<- av];exact Qe _ rfl
 have a4:I.objs.size=hp.objs.size+1:=by rw[<- hh₄,Q6,av]
 have ay:∀b o,b≠e->b≠it->hp.get? b=some o->I.get? b=some o:=λb o al a0 hb=>by
  rw[<- hh₄];exact Px _ (U.extBut b o al (O.extBut b o al (Y.extBut b o a0 hb)))
 have au:St (i+1) I:=D.frame _ _ _ an λb hb o y=>by
  have al:b≠e:=λq=>hef (q ▸ hb);rw[<- hh₄];exact Px _ (U.extBut b o al (O.extBut b o al y))
 show wpAny _ _ (Rm (.ref e) >>= _) _ _ ⟨I,g,d,tk+1,os⟩;rw[av];clear hh₄ ao as ar ah U ai O ak Y an av Z am ag;refine Pi ?_;unfold Rm;refine Pi (P9 ae rfl (x:=rawInt a) rfl ?_);show wpAny _ _ (loadIfAlive ((a:Int).toNat) >>= _) _ _ ⟨I,g,d,tk+1,os⟩;refine Pi (Zf8 ?_);rw[Sm];show wpAny _ _ (if (I.get? a).isNone=true then _ else _) _ _ ⟨I,g,d,tk+1,os⟩;rw[aj];rw[if_neg (by simp)];refine Pi (P9 ae rfl (x:=f1) rfl ?_);have fin:∀aa,N3 aa e it ((i:Int)+1)->P7 e I aa->Q (.ref hp.objs.size) ⟨aa,g,d,tk+1,os⟩:=λaa hl F =>
  hQ x aa tk a8 hl (D.frame _ _ _ au λb hb o y=>F.extBut b o (λq=>hef (q ▸ hb)) y) (F.extBut _ _ (Rb a9) a5) (by rw[F.1,a4]) λb o al a0 hb=>F.extBut b o al (ay b o al a0 hb)
 by_cases hf:(f1 != Value.bool true)=true
 ·simp only[hf,if_true];refine Pi (Rs ae (by simp) λaa a3 F=>?_);replace F:P7 e I aa:=F;refine Pl ?_;simp only[Ue,if_false];refine Pl ⟨_,rfl,fin aa ⟨a,oa,.bool true,ap,a3,F.extBut a oa aq aj,aq,ax⟩ F⟩
 ·simp only[hf];refine Pl ?_;simp only[Ue,if_false];exact Pl ⟨_,rfl,fin I ⟨a,oa,f1,ap,ae,aj,aq,ax⟩ (P7.refl ..)⟩
def EnSt (h:Heap)(e it:Addr)(i:Nat):Prop:=(i=0/\∃old,IsEnum h e it 0 old)\/(0<i/\N3 h e it i)
theorem EnSt.obj (x:EnSt h e it i):∃vs,h.get? e=some { cls:=.type "enumerate",dict:=none,data:=.fields vs,slots:=#[] }:=by
 rcases x with⟨_,F,x⟩|⟨_,_,_,_,_,x,_⟩
 ·exact⟨_,x⟩
 ·exact⟨_,x⟩
theorem Zp7 {e it:Addr}{fp:List Addr}{n i:Nat}{P:Nat->Value->Prop}{St:Nat->Heap->Prop}{Q:Option Value->Shared->Prop}
  (D:Draws prog w A.in1 it fp n P St) (he:EnSt s.heap e it i) (hst:St i s.heap) (hlt:i<n) (hne:e≠it) (hef:e ∉ fp)
  (hQ:∀x h' tk,P i x->EnSt h' e it (i+1)->St (i+1) h' ->
   h'.get? s.heap.objs.size=some { cls:=.type "tuple",data:=.seq #[.int i tk,x] }->h'.objs.size=s.heap.objs.size+1 ->
   (∀b o,b≠e->b≠it->s.heap.get? b=some o->h'.get? b=some o)->Q (some (.ref s.heap.objs.size)) { s with heap:=h',toks:=tk+1 }) :
  wpAny (model prog w) A (pyNext (.ref e)) Q E s:=by
 obtain⟨vs,U⟩:=he.obj;have O:s.TypeIs (.ref e) "enumerate":=⟨_,U,rfl⟩;have I:e<s.heap.objs.size:=Pt U;have F:it<s.heap.objs.size:=by obtain⟨_,y⟩:=D.live _ _ hst;exact Pt y
 rcases he with⟨rfl,Y,he⟩|⟨_,he⟩
 ·refine wpAny_pyNext_enum_itemD D he hst hlt hne hef λx h' tk a b c z k q=>?_;exact hQ x h' tk a (.inr ⟨V0 _,_,_,_,_,b,z,Rb I,Rb F⟩) c z k q
 ·unfold pyNext;exact Pi (Tl (Ro (name:=Qw "__next__") O U0
   (Rt U0 O W7
    (Zl3 D he hst hlt hne hef λx h' tk a b c z k q=>Pl (hQ x h' tk a (.inr ⟨V0 _,b⟩) c z k q)) (W6 _))))
theorem Zsm {e it:Addr}{fp:List Addr}{n:Nat}{P:Nat->Value->Prop}{St:Nat->Heap->Prop}{Q:Option Value->Shared->Prop}
  (D:Draws prog w A.in1 it fp n P St) (he:EnSt s.heap e it n) (hst:St n s.heap)
  (hQ:∀h',Tq it s.heap h'->Q none { s with heap:=h' }):wpAny (model prog w) A (pyNext (.ref e)) Q E s:=by
 obtain⟨vs,F⟩:=he.obj;have Z:s.TypeIs (.ref e) "enumerate":=⟨_,F,rfl⟩;have h2:vs[2]?=some (.ref it):=by
  rcases he with⟨rfl,U,he⟩|⟨_,a,oa,f1,U,he,_⟩
  ·unfold IsEnum at he;rw[F]at he;injection he with he;injection he with _ _ he _;injection he with he;rw[he];rfl
  ·rw[F]at he;injection he with he;injection he with _ _ he _;injection he with he;rw[he];rfl
 unfold pyNext;refine Pi (Tl (Ro (name:=Qw "__next__") Z U0
  (Rt U0 Z W7 ?_ (W6 _))))
 show wpAny _ _ (field (.ref e) 2 >>= _) _ _ _;refine Pi (P9 F rfl (x:=.ref it) h2 ?_);refine Pi (D.done _ _ _ hst λh' x O I=>?_);obtain⟨o,Y,hc⟩:=I;refine Pi (Vj (T:="StopIteration") (b:=true) ⟨o,Y,hc⟩ isSubtype_stop ?_);exact Pl (hQ _ O)
end
theorem Zfp (hT:s.TypeIs (.ref it) T)(n1:typeLookup (.type T) "__len__"=pure none)(n2:typeLookup (.type T) "__length_hint__"=pure none)(h:Q true s):wpAny (model prog w) A (Tv (.ref it)) Q E s:=by
 unfold Tv;refine Pi (Uk hT n1 ?_);show wpAny _ A (specialOf (Value.ref it) (Qw "__length_hint__") >>= _) _ _ _;refine Pi (Uk hT n2 ?_);exact Pl h
structure Src (X:Cx)(pins:List (Addr×Obj))(σ:St)(it:Addr)(T:String)(n:Nat)(H0:Hp)(J:Nat->List V->Hp->Heap->Prop):Prop where
 ty:∀i ys H h,J i ys H h->∃o,h.get? it=some o/\o.cls=.type T
 nl:(Value.type T == Value.type "list")=false/\(Value.type T == Value.type "tuple")=false
 hint:∃mr:Bool,∀(A:Around)(s:Shared)(Q:Bool->Shared->Prop)(E:Value->Shared->Prop),s.TypeIs (.ref it) T->Q mr s->wpAny (model X.prog X.w) A (Tv (.ref it)) Q E s
 self:∀(A:Around)(s:Shared)(ys:List V)(H:Hp)(Q:Value->Shared->Prop)(E:Value->Shared->Prop),J 0 ys H s.heap->Q (.ref it) s->wpAny (model X.prog X.w) A (pyIter (.ref it)) Q E s
 keep:∀i ys H h h' S zs zs',H0 S=none->H S=some (.lst zs)->J i ys H h->(∀b o,b≠S->h.get? b=some o->h'.get? b=some o)->(∃o,h'.get? S=some o)->J i ys (upd H S (.lst zs')) h'
 fresh:∀i ys H h,J i ys H h->H it=none
 item:∀(A:Around)(i:Nat)(s:Shared)(H:Hp)(ys:List V)(E:Value->Shared->Prop),A.handled=none->i<n->Inv X pins σ H s->J i ys H s.heap ->
  wpAny (model X.prog X.w) A (pyNext (.ref it)) (λr s'=>eX3 λu x H'=>r=some u/\RelV x u/\Inv X pins σ H' s'/\J (i+1) (ys++[x]) H' s'.heap/\∀S zs,H S=some (.lst zs)->H' S=some (.lst zs)) E s
 done:∀(A:Around)(s:Shared)(H:Hp)(ys:List V)(E:Value->Shared->Prop),A.handled=none->Inv X pins σ H s->J n ys H s.heap ->
  wpAny (model X.prog X.w) A (pyNext (.ref it)) (λr s'=>r=none/\Inv X pins σ H s') E s
section
variable {X:Cx}{pins:List (Addr×Obj)}{σ:St}{it:Addr}{T:String}{n:Nat}{H0:Hp}{J:Nat->List V->Hp->Heap->Prop}
theorem Zdr (C:Src X pins σ it T n H0 J)(hn:n<=sizeLine)(hh:A.handled=none)(S:Addr)(hS0:H0 S=none)(res:Value)(fin:∀s' H' ys',Inv X pins σ H' s'->H' S=some (.lst ys')->ys'.length=n->(∃h,J n ys' H' h)->R (.ok (.ret res)) s') :
  ∀(k i:Nat)(s:Shared)(H:Hp)(ys:List V),n-i=k->i<=n->Inv X pins σ H s->J i ys H s.heap->H S=some (.lst ys)->ys.length=i ->
  codeAny (model X.prog X.w) A (.builtin "list.extend.loop" ⟨[.ref S,.ref it,res],[]⟩) R s:=by
 intro k
 induction k with
 |zero =>
  intro i s H ys hk hi I j hS hl;have aa:i=n:=by lia
  subst aa;refine Vo PySem.F.entry_extend_loop ?_;rw[Vc Tw _];show wpAny _ A.in1 (pyNext (.ref it) >>= _) _ _ s;refine Pi (Ap (C.done A.in1 s H ys _ hh I j) λr s' zq=>?_);obtain⟨hr,Z⟩:=zq;subst hr;exact Pl (fin s' H ys Z hS hl ⟨_,j⟩)
 |succ k ih =>
  intro i s H ys hk hi I j hS hl;have Y:i<n:=by lia
  refine Vo PySem.F.entry_extend_loop ?_;rw[Vc Tw _];show wpAny _ A.in1 (pyNext (.ref it) >>= _) _ _ s;refine Pi (Ap (C.item A.in1 i s H ys _ hh Y I j) λr s' zq=>?_);obtain⟨u,x,H',hr,rx,Z,j',kS⟩:=zq;subst hr;have U:=kS S ys hS;obtain⟨z,O,m,rv,ae,e⟩:=Z.lstM U;show wpAny _ A.in1 (updateSeq S (·.push u) >>= _) _ _ _;refine Pi ?_;have hu:(O.toArray.push u)=(O++[u]).toArray:=by simp
  have I2:=Z.lset (f:=(·.push u)) (its':=O++[u]) (ys:=ys++[x]) (t':=s'.toks) U e hu (rv.append (.cons rx .nil)) (by rw[Pr,Qg];lia);refine Ul e rfl (Pl ⟨Uu Tw _,ih (i+1) _ _ (ys++[x]) (by lia) Y I2 ?_ Ac (by simp[hl])⟩)
   (by rw[Po];lia) (by show(O.toArray.push u).size<=sizeLine+1;rw[Array.size_push,Po];lia)
  exact C.keep _ _ _ _ _ S ys (ys++[x]) hS0 U j' (λb o hb eb=>(Sz _ _ (Ql hb)).trans eb) ⟨_,S9 _ e rfl⟩
theorem Zad (C:Src X pins σ it T n H J)(hn:n<=sizeLine)(hh:A.handled=none)(I:Inv X pins σ H s)(j:J 0 [] H s.heap)(jn:∀S,s.heap.objs.size<=S->H S=none->∀h',(∀b o,s.heap.get? b=some o->h'.get? b=some o)->J 0 [] (upd H S (.lst [])) h')(q:∀S H' ys,H S=none->H' S=some (.lst ys)->ys.length=n->(∃h,J n ys H' h)->Q (.ref S) H') :
  wpAny (model X.prog X.w) A (call (.type "list") [.ref it]) (EP X pins σ Q) E s:=by
 have hf:H s.heap.objs.size=none:=I.hok.fresh (Pk _);have as:s.heap.objs.size≠it:=by
  obtain⟨o,e,_⟩:=C.ty _ _ _ _ j;exact Rb (Pt e)
 refine callType_codes (Q₁:=λobj ae=>obj=.ref s.heap.objs.size/\ae={ s with heap:=s.heap.push { cls:=.type "list",data:=.seq #[] } }) PySem.F.called_list (PySem.F.typeCall_list_1 _) PySem.F.entry_list_init
  (code_list_new _ ⟨rfl,rfl⟩) λobj ae am=>?_
 obtain⟨rfl,rfl⟩:=am;have hS:(s.heap.push { cls:=.type "list",data:=.seq #[] }).get? s.heap.objs.size=some { cls:=.type "list",data:=.seq #[] }:=Qe _ rfl;have I1:Inv X pins σ (upd H s.heap.objs.size (.lst [])) { s with heap:=s.heap.push { cls:=.type "list",data:=.seq ([]:List Value).toArray } }:=I.lnew (ys:=[]) (its:=[]) (t':=s.toks) .nil (by simp);have j1:J 0 [] (upd H s.heap.objs.size (.lst [])) (s.heap.push { cls:=.type "list",data:=.seq ([]:List Value).toArray })   := jn _ (Pk _) hf _ λb o e=>Px _ e;refine⟨⟨_,hS,rfl⟩,PySem.F.args_list_init_2 _ _,?_⟩;generalize hs1:({ s with heap:=s.heap.push { cls:=.type "list",data:=.seq ([]:List Value).toArray } }:Shared)=U at I1;have aa:U.heap.get? s.heap.objs.size=some { cls:=.type "list",data:=.seq ([]:List Value).toArray }:=by rw[<- hs1];exact hS
 replace j1:J 0 [] (upd H s.heap.objs.size (.lst [])) U.heap:=by rw[<- hs1];exact j1
 have al:({ s with heap:=s.heap.push { cls:=.type "list",data:=.seq #[] } }:Shared)=U:=hs1
 first|rw[al]|skip
 show wpAny _ A.in1.in1 (do let ap <- Builtin.List.listItems (.ref s.heap.objs.size);Builtin.List.listUpdate (.ref s.heap.objs.size) (λ_=>#[]);letGo ap.toList.reverse;V6 (.ref s.heap.objs.size) (.ref it) .none) _ _ U;generalize s.heap.objs.size=S at *
 refine Pi ?_;unfold Builtin.List.listItems;refine Pi (Rl aa rfl (Pl ?_));show wpAny _ A.in1.in1 (updateSeq S (λ_=>#[]) >>= λ_=>letGo (#[]:Array Value).toList.reverse >>= λ_=>V6 (.ref S) (.ref it) .none) _ _ U;refine Pi (Ul aa rfl ?_);have I2:=I1.lset (f:=λ_=>#[]) (its':=[]) (ys:=[]) (t':=U.toks) Ac aa rfl .nil (by simp);have ax:=S9 (Qy (λ_=>(#[]:Array Value))) aa rfl;have j2:=C.keep _ _ _ _ (U.heap.update S (Qy λ_=>#[])) S [] [] hf Ac j1 (λb o hb eb=>(Sz _ _ (Ql hb)).trans eb) ⟨_,ax⟩;rw[Zb1]at I2 j2;generalize hs2:({ U with heap:=U.heap.update S (Qy λ_=>#[]),toks:=U.toks }:Shared)=Z at I2;replace j2:J 0 [] (upd H S (.lst [])) Z.heap:=by rw[<- hs2];exact j2
 have ak:({ U with heap:=U.heap.update S (Qy λ_=>#[]) }:Shared)=Z:=hs2
 first|rw[ak]|skip
 refine Pi (V5 ?_);obtain⟨oi,ei,ci⟩:=C.ty _ _ _ _ j2;have hT:Z.TypeIs (.ref it) T:=⟨oi,ei,ci⟩;unfold V6;refine Pi (Vx hT ?_);have h1:Builtin.List.listSameRef (.ref S) (.ref it)=false:=by simp[Builtin.List.listSameRef,as]
 have h2:=C.nl.1;have h3:=C.nl.2;simp only[h1,h2,h3,Vs,Ue,if_false];refine Pi (C.self _ Z _ _ _ _ j2 ?_);refine Pi (Ra ?_);obtain⟨mr,aq⟩:=C.hint;refine aq _ _ _ _ hT ?_;split
 ·show wpAny _ A.in1.in1 (rule "list.extend.makes-room" >>= λ_=>Builtin.List.listTouch (.ref S) >>= λ_ =>
   again (.builtin "list.extend.loop" ⟨[.ref S,.ref it,.none],[]⟩)) _ _ _
  refine Pi (Tt ?_);refine Pi ?_;show wpAny _ A.in1.in1 (updateSeq S (·.push .none) >>= λ_=>updateSeq S (·.pop)) _ _ _;obtain⟨_,ay,m2,au,_,e2⟩:=I2.lstM Ac;cases au;refine Pi (Ul e2 rfl ?_);have I3:=I2.lset (f:=(·.push Value.none)) (its':=[.none]) (ys:=[.non]) (t':=Z.toks) Ac e2 (by simp) (.cons rfl .nil) (by show 1<=sizeLine;decide);have ao:=S9 (Qy (·.push Value.none)) e2 rfl;have j3:=C.keep _ _ _ _ (Z.heap.update S (Qy (·.push Value.none))) S [] [.non] hf Ac j2 (λb o hb eb=>(Sz _ _ (Ql hb)).trans eb) ⟨_,ao⟩;rw[Zb1]at I3 j3;generalize hs3:({ Z with heap:=Z.heap.update S (Qy (·.push Value.none)),toks:=Z.toks }:Shared)=s3 at I3;replace j3:J 0 [] (upd H S (.lst [.non])) s3.heap:=by rw[<- hs3];exact j3
  have an:({ Z with heap:=Z.heap.update S (Qy (·.push Value.none)) }:Shared)=s3:=hs3
  first|rw[an]|skip
  obtain⟨_,Y,m3,a0,av,e3⟩:=I3.lstM Ac;have O:Y.length=1:=av.symm;refine Ul e3 rfl ?_ (by rw[Po,O];decide) (by show Y.toArray.pop.size<=sizeLine+1;rw[Array.size_pop,Po,O];decide);have I4:=I3.lset (f:=(·.pop)) (its':=[]) (ys:=[]) (t':=s3.toks) Ac e3 (by
   cases Y with
   |nil=>simp at O
   |cons a r=>cases r with
    |nil=>simp
    |cons b r'=>simp at O) .nil (by simp)
  have ar:=S9 (Qy (·.pop)) e3 rfl;have j4:=C.keep _ _ _ _ (s3.heap.update S (Qy (·.pop))) S [.non] [] hf Ac j3 (λb o hb eb=>(Sz _ _ (Ql hb)).trans eb) ⟨_,ar⟩;rw[Zb1]at I4 j4;refine Pl ⟨Uu Tw _,Zdr C hn (A:=A.in1) hh S hf .none ?_ n 0 _ _ [] rfl (P8 _) I4 j4 Ac rfl⟩;intro s' H' ai I' ah aj ag;exact⟨rfl,.ref S,H',I',rfl,q S H' ai hf ah aj ag⟩
 ·refine Pl ⟨Uu Tw _,Zdr C hn (A:=A.in1) hh S hf .none ?_ n 0 _ _ [] rfl (P8 _) I2 j2 Ac rfl⟩;intro s' H' ai I' ah aj ag;exact⟨rfl,.ref S,H',I',rfl,q S H' ai hf ah aj ag⟩
end
section
variable {X:Cx}{pins:List (Addr×Obj)}{σ:St}{H:Hp}{s:Shared}{h':Heap}
theorem Inv.turned2 (I:Inv X pins σ H s)(k:∀b o,b≠i1->b≠i2->s.heap.get? b=some o->h'.get? b=some o)(f1:FpOk X pins H i1)(f2:FpOk X pins H i2):Inv X pins σ H { s with heap:=h',toks:=t' }:=by
 obtain⟨n1,O,_,e1,c1,p1⟩:=f1;obtain⟨n2,U,_,e2,Y,p2⟩:=f2;have F:∀b u,H b=some u->b≠i1/\b≠i2:=λb u e=>⟨(λz=>by rw[z,n1]at e;exact nomatch e),(λz=>by rw[z,n2]at e;exact nomatch e)⟩;refine I.step (g':=s.gens) (d':=s.drawn) (ch:=[i1,i2]) (λb hb=>?_) (λb o _ _ hc e _=>k b o (λz=>hc (by simp[z])) (λz=>hc (by simp[z])) e) (λb o _ _ hc e _=>⟨o.slots,k b o (λz=>hc (by simp[z])) (λz=>hc (by simp[z])) e⟩) (λ_ _ _ _ n=>n)
  (λb o hc e=>⟨o,k b o (λz=>hc (by simp[z])) (λz=>hc (by simp[z])) e⟩) (λ_ _ e=>e) (λ_ _ _ e=>e) (λb ps e=>⟨#[],by rw[e];simp⟩) (λm hm=>?_) (λb u e=>?_) I.bare
 ·rcases Pm.mp hb with rfl|hb
  ·exact⟨e1,O,c1,p1⟩
  ·rw[Py.mp hb];exact⟨e2,U,Y,p2⟩
 ·obtain⟨o,es,Z,ho,r⟩:=hm;exact⟨o,es,Z,k _ o (Ql O) (Ql U) ho,r⟩
 ·refine(I.hok b u e).stay (λc v hc q=>k c v ?_ ?_ q) (λ_ q=>q) λ_ _ q=>q
  ·rcases hc with z|z
   ·rw[z];exact(F b u e).1
   ·exact(F c _ z).1
  ·rcases hc with z|z
   ·rw[z];exact(F b u e).2
   ·exact(F c _ z).2
end
theorem FpOk.of (f:FpOk X pins H b)(h:H' b=none):FpOk X pins H' b:=⟨h,f.2⟩
theorem SqT.kept {K:Ph}{H:Hp}{S a:Addr}{zs zs' xs:List V}(hS:H S=some (.lst zs))(h:SqT K H a xs):SqT K (upd H S (.lst zs')) a xs:=by
 rcases h with(h|⟨o,h⟩)|h
 ·exact .inl (.inl (by rw[Ai (Fs h hS (by intro z;cases z))];exact h))
 ·exact .inl (.inr ⟨o,by rw[Ai (Fs h hS (by intro z;cases z))];exact h⟩)
 ·exact .inr h
theorem SqT.same {K:Ph}{H H':Hp}{a:Addr}{xs:List V}(h:SqT K H a xs)(e:Same H H'):SqT K H' a xs:=e.tup h
def Za1 (H:Hp)(xs:List V)(ys:List V):Prop:=∀(j:Nat)(y:V),ys[j]?=some y->∃(t:Addr)(x:V),y=V.ref t/\xs[j]?=some x/\H t=some (.tup [.int j,x])
def JEn (K:Ph)(H0:Hp)(en it a:Addr)(xs:List V):Nat->List V->Hp->Heap->Prop:=λi ys H h =>
 EnSt h en it i/\h.IsTupleIter it a i/\(H en=none/\H it=none)/\SqT K H a xs/\ys.length=i/\Za1 H xs ys/\Same H0 H
theorem Zmt:typeLookup (.type "enumerate") "__len__"=pure none:=by rw[Tj,Ta];kernel_rfl
theorem Zkn:typeLookup (.type "enumerate") "__length_hint__"=pure none:=by rw[Tj,Ta];kernel_rfl
theorem Zla (fe:FpOk X pins H0 en)(fi:FpOk X pins H0 it)(hne:en≠it)(hae:a≠en)(hai:a≠it):Src X pins σ en "enumerate" xs.length H0 (JEn X.K H0 en it a xs) where
 ty:=λi ys H h j=>by
  obtain⟨vs,e⟩:=j.1.obj;exact⟨_,e,rfl⟩
 nl:=by decide
 hint:=⟨_,λA s Q E hT h=>Zfp hT Zmt Zkn h⟩
 self:=λA s ys H Q E j q=>by
  rcases j.1 with⟨_,O,e⟩|⟨z,_⟩
  ·exact Wq e q
  ·exact absurd z (Q2 _)
 keep:=λi ys H h h' S zs am h0 hS j k al=>by
  obtain⟨j1,j2,⟨j3,j4⟩,j5,j6,j7,j8⟩:=j;have F:en≠S:=λz=>by rw[z,hS]at j3;cases j3
  have aa:it≠S:=λz=>by rw[z,hS]at j4;cases j4
  refine⟨?_,?_,⟨by rw[Ai F];exact j3,by rw[Ai aa];exact j4⟩,j5.kept hS,j6,λm y Z=>?_,λb o e=>?_⟩
  ·rcases j1 with⟨z,O,e⟩|⟨z,a0,oa,f1,O,e,ea,x1,x2⟩
   ·exact .inl ⟨z,O,k _ _ F e⟩
   ·by_cases hs:a0=S
    ·subst hs;obtain⟨o,eo⟩:=al;exact .inr ⟨z,a0,o,f1,O,k _ _ F e,eo,x1,x2⟩
    ·exact .inr ⟨z,a0,oa,f1,O,k _ _ F e,k _ _ hs ea,x1,x2⟩
  ·exact j2.at λo e=>k _ _ aa e
  ·obtain⟨t,x,e1,e2,e3⟩:=j7 m y Z;exact⟨t,x,e1,e2,by rw[Ai (Fs e3 hS (by intro z;cases z))];exact e3⟩
  ·have:b≠S:=λz=>by rw[z,h0]at e;cases e
   rw[Ai this];exact j8 b o e
 fresh:=λi ys H h j=>j.2.2.1.1
 item:=λA i s H ys E hh hi I j=>by
  obtain⟨j1,j2,⟨j3,j4⟩,j5,j6,j7,j8⟩:=j;obtain⟨U,rv,p,hz⟩:=I.tuple j5;have hl:=rv.length;have D:=Zbv (prog:=X.prog) (w:=X.w) (A:=A.in1) hh it a hai U.toArray;refine Zp7 D j1 ⟨j2,p⟩ (by rw[Po];lia) hne (by simp[hne,Ql hae]) λx h' tk Y ak ai ht an kk=>?_;have I1:Inv X pins σ H { s with heap:=h',toks:=tk+1 }:=I.turned2 (λb o h1 h2 e=>kk b o h1 h2 e) (fe.of j3) (fi.of j4);have aj:U[i]?=some x:=by simpa using Y
  have ah:i<xs.length:=hi;obtain⟨u,hu,ru⟩:=rv.get (Pj ah);rw[aj]at hu;cases hu;have hf:H s.heap.objs.size=none:=I.hok.fresh (Pk _);have I2:Inv X pins σ (upd H s.heap.objs.size (.tup [.int i,xs[i]])) { s with heap:=h',toks:=tk+1 }:=by
   have ae:HOk X.prog X.w (upd H s.heap.objs.size (.tup [.int i,xs[i]])) h':=λb o e=>by
    by_cases hb:b=s.heap.objs.size
    ·subst hb;rw[Ac]at e;cases e;exact⟨by show 2<=sizeLine;decide,[.int i tk,x],.cons ⟨tk,rfl⟩ (.cons ru .nil),⟨_,ht,rfl,_,rfl⟩⟩
    ·rw[Ai hb]at e;refine(I1.hok b o e).stay (λc v _ q=>q) (λc q=>?_) λc zs q=>?_
     ·rw[Ai (A6 q hf)];exact q
     ·rw[Ai (A6 q hf)];exact q
   have u:Un (Dg X.stack) [en,it] H (upd H s.heap.objs.size (.tup [.int i,xs[i]])) s.heap h':={
    keep:=λb o e n _ Y=>kk b o (λz=>Y (by simp[z])) (λz=>Y (by simp[z])) e
    slot:=λb o e n _ Y=>⟨o.slots,kk b o (λz=>Y (by simp[z])) (λz=>Y (by simp[z])) e⟩
    free:=λb o e n _=>by rw[Ai (P4 (Pt e))];exact n
    there:=λb o e Y=>⟨o,kk b o (λz=>Y (by simp[z])) (λz=>Y (by simp[z])) e⟩
    tups:=λb zs e=>by rw[Ai (A6 e hf)];exact e
    frzs:=λb o u e=>by rw[Ai (A6 e hf)];exact e
    tbls:=λb ps e=>⟨#[],by rw[Ai (A6 e hf),e];simp⟩ }
   refine I.call (g':=s.gens) (d':=s.drawn) (t':=tk+1) u ae I.bare λb hb=>?_;rcases Pm.mp hb with rfl|hb
   ·exact⟨fe.2.2.2.1,fe.2.1,fe.2.2.2.2.1,fe.2.2.2.2.2⟩
   ·rw[Py.mp hb];exact⟨fi.2.2.2.1,fi.2.1,fi.2.2.2.2.1,fi.2.2.2.2.2⟩
  have sm:Same H (upd H s.heap.objs.size (.tup [.int i,xs[i]])):=Same.upd hf;have F:en≠s.heap.objs.size:=by obtain⟨_,e⟩:=j1.obj;exact P4 (Pt e)
  have aa:it≠s.heap.objs.size:=by obtain⟨_,e,_⟩:=j2;exact P4 (Pt e)
  refine⟨_,.ref s.heap.objs.size,_,rfl,rfl,I2,⟨ak,ai.1,⟨by rw[Ai F];exact j3,by rw[Ai aa];exact j4⟩,j5.same sm,by simp[j6],λm y Z=>?_,j8.trans sm⟩,λS zs e=>sm S _ e⟩;by_cases hm:m<i
  ·rw[Qh (by lia)]at Z;obtain⟨t,z,e1,e2,e3⟩:=j7 m y Z;exact⟨t,z,e1,e2,sm _ _ e3⟩
  ·have ag:=(Pq.mp Z).1;rw[Pr,Qg]at ag;have:m=i:=by lia
   subst this;rw[Qk (by lia),j6,Sf]at Z;have Z:V.ref s.heap.objs.size=y:=by simpa using Z
   exact⟨_,xs[m],Z.symm,Pj ah,Ac⟩
 done:=λA s H ys E hh I j=>by
  obtain⟨j1,j2,⟨j3,j4⟩,j5,j6,j7,j8⟩:=j;obtain⟨U,rv,p,hz⟩:=I.tuple j5;have hl:=rv.length;have D:=Zbv (prog:=X.prog) (w:=X.w) (A:=A.in1) hh it a hai U.toArray;have e:xs.length=U.toArray.size:=by rw[Po];lia
  rw[e]at j1 j2;refine Zsm D j1 ⟨j2,p⟩ λh' eb=>⟨rfl,?_⟩;obtain⟨g0,g1,g2,g3,g4,g5⟩:=fi.of j4;exact I.turned (t':=s.toks) (λb o hb e=>eb b o hb e) g0 g1 g3 g4 g5
section
variable {X:Cx}
theorem Zaw:bootBuiltins "list"=some (.type "list"):=by right
def Zax (K:Ph)(ta:TA):TE:=λσ H Q=>ta σ H λvs H1=>∃a xs,vs=[.ref a]/\SqT K H1 a xs /\
 ∀(S:Addr)(ys:List V)(H2:Hp),H1 S=none->Same H1 H2->ys.length=xs.length->Za1 H2 xs ys->H2 S=some (.lst ys)->Q (.ref S) H2
theorem Zkx (hg:Gl X "list")(hm:X.mg "list"=none)(hg2:Gl X "enumerate")(hm2:X.mg "enumerate"=none)(ha:QA X [e] ta)(hc:autoParam (X.calm=true) zX)(hs:autoParam (starEach [.Call (.Name "enumerate" p2) [e] [] pos2] X.env=[(false,eval (.Call (.Name "enumerate" p2) [e] [] pos2) X.env)]) zX)(hs2:autoParam (starEach [e] X.env=[(false,eval e X.env)]) zX) :
  QE X (.Call (.Name "list" p) [.Call (.Name "enumerate" p2) [e] [] pos2] [] pos) (Zax X.K ta):=by
 refine⟨λpins s σ H Q I h=>?_⟩;refine Call_ (Ef I hg hm Zaw (Rg ?_ hs rfl));rw[hs];show wpAny _ _ (spliced ((false,eval (.Call (.Name "enumerate" p2) [e] [] pos2) X.env)::[])) _ _ s;refine Sk ?_;refine Call_ (Ef I hg2 hm2 Xa (Rg (Ap (ha.run pos2 pins s σ H _ I h) λus F zq=>?_) hs2 rfl));obtain⟨vs,H1,U,r1,q1⟩:=zq;obtain⟨a,xs,e1,hq,q⟩:=q1;subst e1;cases r1 with
 |cons r rr =>
  cases rr;cases r;obtain⟨ag,rv,pt,hz⟩:=U.tuple hq;have Z:a<F.heap.objs.size:=by obtain⟨o,e,_⟩:=id pt;exact Pt e
  refine Zt1 (show F.heap.IsTuple a ag.toArray from pt) λh' Y hit ah hk=>?_;refine Te ?_;have I2:Inv X pins σ H1 { F with heap:=h' }:=U.kept (t':=F.toks) hk;have fe:=U.fpOk (b:=F.heap.objs.size+1) (Tp _) (U.hok.fresh (Tp _));have fi:=U.fpOk (b:=F.heap.objs.size) (Pk _) (U.hok.fresh (Pk _));have C:=Zla (X:=X) (pins:=pins) (σ:=σ) (H0:=H1) (en:=F.heap.objs.size+1) (it:=F.heap.objs.size) (a:=a) (xs:=xs) fe fi (Nat.succ_ne_self _) (P4 (Vf Z)) (P4 Z);refine Zad C (by lia) (U.ok.hd hc) I2 ⟨.inl ⟨rfl,_,Y⟩,hit,⟨fe.1,fi.1⟩,hq,rfl,λj y hy=>by simp at hy,Same.refl _⟩ (λS O hS h2 k2=>?_) λS H' ys hS ae aa hj=>?_
  ·have sm:Same H1 (upd H1 S (.lst [])):=Same.upd hS;refine⟨.inl ⟨rfl,_,k2 _ _ Y⟩,hit.at λo e=>k2 _ _ e,⟨?_,?_⟩,hq.same sm,rfl,λj y hy=>by simp at hy,sm⟩
   ·rw[Ai (show F.heap.objs.size+1≠S from λz=>?_)]
    ·exact fe.1
    ·have O:h'.objs.size<=S:=O;lia
   ·rw[Ai (show F.heap.objs.size≠S from λz=>?_)]
    ·exact fi.1
    ·have O:h'.objs.size<=S:=O;lia
  ·obtain⟨h,j⟩:=hj;exact q S ys H' hS j.2.2.2.2.2.2 aa j.2.2.2.2.2.1 ae
end
noncomputable def Jc (K:Ph)(a:Addr)(n:Nat):It :=
 ⟨λi H=>∃xs,SqL K H a xs/\xs.length=n/\i<n,λi H x H'=>∃(t:Addr)(y:V),H t=none/\(∀xs,SqL K H a xs->xs[i]?=some y)/\x=.ref t/\H'=upd H t (.tup [.int i,y]),λi H=>i=n/\∃xs,SqL K H a xs/\xs.length=n⟩
theorem Inv.pair (I:Inv X pins σ H s)(f1:FpOk X pins H i1)(f2:FpOk X pins H i2)(kk:∀b o,b≠i1->b≠i2->s.heap.get? b=some o->h'.get? b=some o)(hT:s.heap.objs.size<=T)(rv:Vals xs its)(hz:xs.length<=sizeLine)(ht:h'.IsTuple T its.toArray):Inv X pins σ (upd H T (.tup xs)) { s with heap:=h',toks:=tk }:=by
 have O:H T=none:=I.hok.fresh hT;have Y:Inv X pins σ H { s with heap:=h',toks:=tk }:=I.turned2 kk f1 f2;have U:HOk X.prog X.w (upd H T (.tup xs)) h':=λb o e=>by
  by_cases hb:b=T
  ·subst hb;rw[Ac]at e;cases e;exact⟨hz,its,rv,ht⟩
  ·rw[Ai hb]at e;refine(Y.hok b o e).stay (λc v _ q=>q) (λc q=>?_) λc zs q=>?_
   ·rw[Ai (A6 q O)];exact q
   ·rw[Ai (A6 q O)];exact q
 have u:Un (Dg X.stack) [i1,i2] H (upd H T (.tup xs)) s.heap h':={
  keep:=λb o e n _ F=>kk b o (λz=>F (by simp[z])) (λz=>F (by simp[z])) e
  slot:=λb o e n _ F=>⟨o.slots,kk b o (λz=>F (by simp[z])) (λz=>F (by simp[z])) e⟩
  free:=λb o e n _=>by rw[Ai (P4 (Qa (Pt e) hT))];exact n
  there:=λb o e F=>⟨o,kk b o (λz=>F (by simp[z])) (λz=>F (by simp[z])) e⟩
  tups:=λb zs e=>by rw[Ai (A6 e O)];exact e
  frzs:=λb o u e=>by rw[Ai (A6 e O)];exact e
  tbls:=λb ps e=>⟨#[],by rw[Ai (A6 e O),e];simp⟩ }
 refine I.call (g':=s.gens) (d':=s.drawn) (t':=tk) u U I.bare λb hb=>?_;rcases Pm.mp hb with rfl|hb
 ·exact⟨f1.2.2.2.1,f1.2.1,f1.2.2.2.2.1,f1.2.2.2.2.2⟩
 ·rw[Py.mp hb];exact⟨f2.2.2.2.1,f2.2.1,f2.2.2.2.2.1,f2.2.2.2.2.2⟩
theorem Zuj {P:Program}{w:World}{K:Ph}{elts:List Expr}{kt:Nat}{pt:Pos}(a en it:Addr)(n:Nat)(hne:en≠it)(hae:a≠en)(hai:a≠it):Gi P w K (.Tuple elts kt pt) (Jc K a n) [en,it] en (λi h=>(∃old,IsEnum h en it i old)/\h.IsListIter it a i) where
 mem:=by simp
 obj:=λi h st b hb=>by
  rcases Pm.mp hb with rfl|hb
  ·obtain⟨old,e⟩:=st.1;exact⟨_,e,λv z=>by
    have z':Data.fields _=Data.cell v:=z;cases z'⟩
  ·rw[Py.mp hb];obtain⟨o,e,c,d⟩:=st.2;exact⟨o,e,λv z=>by rw[d]at z;cases z⟩
 keep:=λi h h' st k=>⟨let ⟨old,e⟩:=st.1;⟨old,k en (by simp) _ e⟩,st.2.at λo e=>k it (by simp) o e⟩
 item:=by
  intro X hP hw hK hc i pins s σ H E I O st hg;subst hP hw hK;obtain⟨xs,hq,hl,hi⟩:=hg;obtain⟨F,rv,p,hz⟩:=I.list hq;have ae:=rv.length;have fe:=O en (by simp);have fi:=O it (by simp);have W:=WalksT.enumerateD (prog:=X.prog) (w:=X.w) (A:=X.A) (Ss (A:=X.A.in1) (I.ok.hd hc) it a hai F.toArray) en hne (by simp[hne,Ql hae]) (by simp);refine W.item i s _ _ (by rw[Po];lia) ⟨st.1,st.2,p.isList⟩ λT aj h1 tk hP hT ht Z k1=>?_;obtain⟨t,x,hx,rfl⟩:=hP;refine⟨_,rfl,W.go elts kt pt i T _ _ _ Z λh2 aa k2=>?_⟩;have ai:F[i]?=some x:=by simpa using hx
  have Y:i<xs.length:=by lia
  obtain⟨u,hu,ru⟩:=rv.get (Pj Y);rw[ai]at hu;cases hu;have U:T ∉ [en,it]:=W.apart i T _ Z;have ag:h2.IsTuple T ([.int i t,x]:List Value).toArray:=by
   obtain⟨o,eo,r⟩:=ht;exact⟨o,k2 T o U eo,r⟩
  have kk:∀b o,b≠en->b≠it->s.heap.get? b=some o->h2.get? b=some o:=λb o h1 h3 e=>k2 b o (by simp[h1,h3]) (k1 b o (by simp[h1,h3]) e);have I2:=I.pair (tk:=tk) (T:=T) (xs:=[.int i,xs[i]]) fe fi kk hT (.cons ⟨t,rfl⟩ (.cons ru .nil)) (by show 2<=sizeLine;decide) ag;refine⟨.ref T,_,I2,rfl,⟨T,xs[i],I.hok.fresh hT,λys hy=>by rw[I.list_inj hy hq];exact Pj Y,rfl,rfl⟩,⟨aa.1,aa.2.1⟩,λb hb=>?_⟩;have ah:b≠T:=λz=>U (z ▸ hb);rw[Ai ah];exact(O b hb).1
 done:=by
  intro X hP hw hK hc i pins s σ H E I O st hg;subst hP hw hK;obtain⟨rfl,xs,hq,hl⟩:=hg;obtain⟨F,rv,p,hz⟩:=I.list hq;have ae:=rv.length;have fe:=O en (by simp);have fi:=O it (by simp);have W:=WalksT.enumerateD (prog:=X.prog) (w:=X.w) (A:=X.A) (Ss (A:=X.A.in1) (I.ok.hd hc) it a hai F.toArray) en hne (by simp[hne,Ql hae]) (by simp);have e:i=F.toArray.size:=by rw[Po];lia
  rw[e]at st;exact W.done s _ _ ⟨st.1,st.2,p.isList⟩ λh' tk kk=>⟨rfl,I.turned2 (λb o h1 h2 e=>kk b o (by simp[h1,h2]) e) fe fi⟩
 self:=λA i s Q E st h=>by
  obtain⟨old,e⟩:=st.1;exact Wq e h
section
variable {X:Cx}
def Zak (K:Ph)(ta:TA):TI:=λσ H R=>ta σ H λvs H1=>∃a xs,vs=[.ref a]/\SqL K H1 a xs/\R (Jc K a xs.length) H1
theorem Zkd (hg:Gl X "enumerate")(hm:X.mg "enumerate"=none)(ha:QA X [e] ta)(hs:autoParam (starEach [e] X.env=[(false,eval e X.env)]) zX):QI X (.Tuple elts kt pt) (.Call (.Name "enumerate" p) [e] [] pos) (Zak X.K ta):=by
 refine⟨λpins s σ H R I h=>?_⟩;refine Call_ (Ef I hg hm Xa (Rg (Ap (ha.run pos pins s σ H _ I h) λus F zq=>?_) hs rfl));obtain⟨vs,H1,O,r1,q1⟩:=zq;obtain⟨l,xs,e1,hq,q⟩:=q1;subst e1;cases r1 with
 |cons r Z =>
  cases Z;cases r;obtain⟨aa,rv,pl,hz⟩:=O.list hq;have Y:l<F.heap.objs.size:=by obtain⟨o,e,_⟩:=pl.isList;exact Pt e
  refine call_enumerate_list pl.isList λh' U hit ae hk=>?_;refine Wq U ?_;have fe:=O.fpOk (b:=F.heap.objs.size+1) (Tp _) (O.hok.fresh (Tp _));have fi:=O.fpOk (b:=F.heap.objs.size) (Pk _) (O.hok.fresh (Pk _));refine⟨F.heap.objs.size+1,[F.heap.objs.size+1,F.heap.objs.size],_,_,H1,rfl,O.kept (t':=F.toks) hk,Zuj l _ _ xs.length (Nat.succ_ne_self _) (P4 (Vf Y)) (P4 Y),⟨⟨_,U⟩,hit⟩,λb hb=>?_,q⟩;rcases Pm.mp hb with rfl|hb
  ·exact fe
  ·rw[Py.mp hb];exact fi
theorem Ng {K:Ph}{a:Addr}{xs:List V}{g:TG}{tb:TS}{D:Dj}{σ:St}{H:Hp}(Pv:Nat->St->Hp->Prop)(h0:Pv 0 σ H)(hl:∀i σ H,i<=xs.length->Pv i σ H->SqL K H a xs)
  (hs:∀i x t σ H,xs[i]?=some x->H t=none->Pv i σ H->g (.ref t) σ (upd H t (.tup [.int i,x])) λσ2 H2=>tb { D with nx:=Pv (i+1),ct:=Pv (i+1),bk:=D.nx } σ2 H2) (hd:∀σ H,Pv xs.length σ H->D.nx σ H) :
  ∃W:Nat->Nat->St->Hp->Prop,(∃m,W 0 m σ H)/\∀i m σ H,W i m σ H ->
   ((Jc K a xs.length).stop i H/\D.nx σ H)\/((Jc K a xs.length).go i H/\∃N:St->Hp->Prop,(∀σ' H',N σ' H'->∃m',m'<m/\W (i+1) m' σ' H')/\∀x H',(Jc K a xs.length).yld i H x H'->g x σ H' λσ2 H2=>tb { D with nx:=N,ct:=N,bk:=D.nx } σ2 H2):=by
 refine⟨λi m σ H=>m=xs.length-i/\i<=xs.length/\Pv i σ H,⟨xs.length,by simp,P8 _,h0⟩,?_⟩;rintro i m σ H ⟨rfl,hi,p⟩;have q:=hl i σ H hi p;by_cases F:i<xs.length
 ·refine .inr ⟨⟨xs,q,rfl,F⟩,Pv (i+1),λσ' H' O=>⟨xs.length-(i+1),by lia,rfl,F,O⟩,λx H' y=>?_⟩;obtain⟨t,y,U,I,rfl,rfl⟩:=y;exact hs i y t σ _ (I xs q) U p
 ·have e:i=xs.length:=by lia
  subst e;exact .inl ⟨⟨rfl,xs,q,rfl⟩,hd σ H p⟩
end
end L2
namespace L2
open PySem PySem.SeqAt
open PySem.AutoSeq1 (wpAny_loadPart')
open PySem.MeetsSeq PySem.MeetsSeq2 PySem.MeetsSeq3 PySem.SeqRoads2
theorem Zlk (l b:Addr)(items items2:Array Value)(n n2:Nat)(dd dd2:Option Addr)(sl sl2:Array (Option Value))(hsz:items.size=items2.size)(e:Nat->Bool)(k:Nat) :
  ∀i:Nat,items.size-i=k->Meets (Builtin.«list.__eq__.loop» ⟨[.ref l,.ref b,rawInt i,rawInt 3],[]⟩)
   (λA R s=>s.heap.get? l=some { cls:=.type "list",dict:=dd,data:=.seq items n,slots:=sl }/\s.heap.get? b=some { cls:=.type "list",dict:=dd2,data:=.seq items2 n2,slots:=sl2 } /\
    (∀j (h1:j<items.size) (h2:j<items2.size),EqAt A.in1 s items[j] items2[j] (e j)) /\
    R (.ok (.ret (.bool (!((Pn items.size).drop i).all e)))) s):=by
 induction k with
 |zero =>
  intro i hk prog w A R s h;obtain⟨hp,g,d,tk,os⟩:=s;obtain⟨Y,hb,he,h⟩:=h
  wp_walk using wpAny_loadPart' Y,wpAny_loadPart' hb
  have F:items[((i:Nat):Int).toNat]?=none:=by simp;lia
  have I:items2[((i:Nat):Int).toNat]?=none:=by simp;lia
  have hd:(Pn items.size).drop i=[]:=by simp;lia
  rw[hd]at h;rw[F,I]
  wp_walk using wpAny_loadPart' Y,wpAny_loadPart' hb
  show R (.ok (.ret (.bool (items.size != items2.size)))) _;rw[hsz];simpa using h
 |succ k ih =>
  intro i hk prog w A R s h;obtain⟨hp,g,d,tk,os⟩:=s;obtain⟨Y,hb,he,h⟩:=h
  wp_walk using wpAny_loadPart' Y,wpAny_loadPart' hb
  have U:i<items.size:=by lia
  have O:i<items2.size:=by lia
  have F:items[((i:Nat):Int).toNat]?=some items[i]:=by simp[U]
  have I:items2[((i:Nat):Int).toNat]?=some items2[i]:=by simp[O]
  have hd:(Pn items.size).drop i=i::(Pn items.size).drop (i+1):=by simp[Rn,U]
  have hc:((i:Int)+1)=((i+1:Nat):Int):=by push_cast;rfl
  rw[hd,Vt]at h;rw[F,I];refine Pi (he i U O prog w _ _ ?_);cases Z:e i with
  |true =>
   rw[Z]at h
   wp_walk
   rw[hc];exact⟨Uu plain_eq_loop _,Vo entry_eq_loop (by
    rw[Vc plain_eq_loop _];exact ih (i+1) (by lia) prog w A R _ ⟨Y,hb,he,by simpa using h⟩)⟩
  |false =>
   rw[Z]at h
   wp_walk using wpAny_loadPart' Y,wpAny_loadPart' hb
   rw[F,I]
   wp_walk
   simpa using h
theorem Znw (l b:Addr)(items items2:Array Value)(n n2:Nat)(dd dd2:Option Addr)(sl sl2:Array (Option Value))(hsz:items.size=items2.size)(e:Nat->Bool) :
  Meets (Builtin.«list.__ne__» ⟨[.ref l,.ref b],[]⟩)
   (λA R s=>s.heap.get? l=some { cls:=.type "list",dict:=dd,data:=.seq items n,slots:=sl }/\s.heap.get? b=some { cls:=.type "list",dict:=dd2,data:=.seq items2 n2,slots:=sl2 } /\
    (∀j (h1:j<items.size) (h2:j<items2.size),EqAt A.in1 s items[j] items2[j] (e j)) /\
    R (.ok (.ret (.bool (!(Pn items.size).all e)))) s):=by
 intro prog w A R s h;obtain⟨U,g,d,tk,os⟩:=s;obtain⟨F,hb,O,h⟩:=h;have f3:=PySem.AutoSeq1.sub_list_list;have I:¬(items.size != items2.size)=true:=by simp[hsz]
 wp_walk using wpAny_loadPart' F,wpAny_loadPart' hb
 exact⟨Uu plain_eq_loop _,Vo entry_eq_loop (by
  rw[Vc plain_eq_loop _];exact Zlk l b items items2 n n2 dd dd2 sl sl2 hsz e _ 0 rfl prog w A R _ ⟨F,hb,O,by simpa using h⟩)⟩
theorem Zt4 (l b:Addr)(items items2:Array Value)(n n2:Nat)(dd dd2:Option Addr)(sl sl2:Array (Option Value))(e:Nat->Bool) :
  Meets (Builtin.«tuple.__ne__» ⟨[.ref l,.ref b],[]⟩)
   (λA R s=>s.heap.get? l=some { cls:=.type "tuple",dict:=dd,data:=.seq items n,slots:=sl }/\s.heap.get? b=some { cls:=.type "tuple",dict:=dd2,data:=.seq items2 n2,slots:=sl2 } /\
    (∀j (h1:j<items.size) (h2:j<items2.size),EqAt A.in1 s items[j] items2[j] (e j)) /\
    R (.ok (.ret (.bool (!((Pn (min items.size items2.size)).all e && items.size == items2.size))))) s) :=
 .of_wp λprog w A R s h=>by
  obtain⟨hp,g,d,tk,os⟩:=s;obtain⟨hl,hb,he,h⟩:=h;have f2:=PySem.AutoSeq1.sub_tuple_tuple;have hZ:(items.toList.zip items2.toList).length=min items.size items2.size:=by simp
  wp_walk using wpAny_loadPart' hl,wpAny_loadPart' hb,wpAny_forIn_list _ (λrest b s'=>b.1=none/\s'=⟨hp,g,d,tk,os⟩/\∃i,rest=(items.toList.zip items2.toList).drop i /\
   R (.ok (.ret (.bool (!(((Pn (min items.size items2.size)).drop i).all e && items.size == items2.size))))) ⟨hp,g,d,tk,os⟩) _
  case turn =>
   rintro⟨y,x⟩ rest b s' ⟨I,rfl,i,O,F⟩;have U:i<(items.toList.zip items2.toList).length:=by
    rcases Nat.lt_or_ge i (items.toList.zip items2.toList).length with h'|h'
    ·exact h'
    ·rw[Tx h']at O;cases O
   have Z:i<min items.size items2.size:=hZ ▸ U;have h1:i<items.size:=Qa Z (Nat.min_le_left _ _);have h2:i<items2.size:=Qa Z (Nat.min_le_right _ _);rw[Rn U]at O;injection O with hyx hrest;have Y:y=items[i]:=by have:=congrArg Prod.fst hyx;simpa using this
   have hx:x=items2[i]:=by have:=congrArg Prod.snd hyx;simpa using this
   subst Y hx;have hd:(Pn (min items.size items2.size)).drop i=i::(Pn (min items.size items2.size)).drop (i+1):=by simp[Rn,Z]
   rw[hd,Vt]at F;refine Pi (he i h1 h2 prog w _ _ ?_);cases Y:e i with
   |true =>
    rw[Y]at F
    wp_walk
    exact⟨rfl,rfl,i+1,hrest,by simpa using F⟩
   |false =>
    rw[Y]at F
    wp_walk
    exact⟨_,rfl,by simpa using F⟩
  case fin =>
   rintro⟨b1,b2⟩ s' ⟨I,rfl,i,O,F⟩;simp only at I;subst I;have aa:min items.size items2.size<=i:=by
    rcases Nat.lt_or_ge i (items.toList.zip items2.toList).length with h'|h'
    ·rw[Rn h']at O;cases O
    ·exact hZ ▸ h'
   rw[Tx (by simpa using aa)]at F
   wp_walk
   exact⟨_,rfl,by simpa [Builtin.Tuple.tupleCompareSizes,bne] using F⟩
  case h =>
   exact⟨rfl,rfl,0,rfl,by simpa using h⟩
section
variable {prog:Program}{w:World}{A:Around}{E:Value->Shared->Prop}{s:Shared}
theorem Zkf (hl:s.heap.IsList l items)(hb:s.heap.IsList b items2)(hsz:items.size=items2.size)(hu:A.units<cLine)(he:∀j (h1:j<items.size) (h2:j<items2.size),EqAt A.in1 s items[j] items2[j] (e j))(h:Q (.bool (!(Pn items.size).all e)) s):wpAny (model prog w) A (compareOp .NotEq (.ref l) (.ref b)) Q E s:=by
 obtain⟨⟨ah,dd,ae,sl⟩,ho,hc,n,hd⟩:=id hl;obtain⟨⟨ag,aa,Z,Y⟩,O,U,n2,I⟩:=id hb;simp only at hc hd U I;subst hc hd U I;exact richCompare_meets_room (op:=.NotEq) ⟨_,ho,rfl⟩ ⟨_,O,rfl⟩ F.slot_list_ne F.entry_list_ne (F.args_list_ne_2 _ _) (Znw l b items items2 n n2 dd aa sl Y hsz e)
  ⟨ho,O,he,show Value.bool (!(Pn items.size).all e)≠Value.notImplemented/\Q (.bool (!(Pn items.size).all e)) s from⟨(λx=>nomatch x),h⟩⟩ hu
theorem Zmu (hl:s.heap.IsTuple l items)(hb:s.heap.IsTuple b items2)(hu:A.units<cLine)(he:∀j (h1:j<items.size) (h2:j<items2.size),EqAt A.in1 s items[j] items2[j] (e j))(h:Q (.bool (!((Pn (min items.size items2.size)).all e && items.size == items2.size))) s):wpAny (model prog w) A (compareOp .NotEq (.ref l) (.ref b)) Q E s:=by
 obtain⟨⟨ah,dd,ae,sl⟩,ho,hc,n,hd⟩:=id hl;obtain⟨⟨ag,aa,Z,Y⟩,O,U,n2,I⟩:=id hb;simp only at hc hd U I;subst hc hd U I;exact richCompare_meets_room (op:=.NotEq) ⟨_,ho,rfl⟩ ⟨_,O,rfl⟩ F.slot_tuple_ne F.entry_tuple_ne (F.args_tuple_ne_2 _ _) (Zt4 l b items items2 n n2 dd aa sl Y e)
  ⟨ho,O,he,show Value.bool (!((Pn (min items.size items2.size)).all e && items.size == items2.size))≠Value.notImplemented/\Q (.bool (!((Pn (min items.size items2.size)).all e && items.size == items2.size))) s from⟨(λx=>nomatch x),h⟩⟩ hu
end
end L2
namespace L2
open PySem PySem.Spec PyProof.Rows
inductive Dt where
 |flat (v:V)
 |tup (ds:List Dt)
 |lst (ds:List Dt)
inductive IsD (K:Ph)(H:Hp):Nat->V->Dt->Prop where
 |flat {n:Nat} {v:V} (h:C5 v=true):IsD K H n v (.flat v)
 |tup {n:Nat} {a:Addr} {vs:List V} {ds:List Dt} (q:SqT K H a vs) (l:vs.length=ds.length) (h:∀(j:Nat)(v:V)(d:Dt),vs[j]?=some v->ds[j]?=some d->IsD K H n v d):IsD K H (n+1) (.ref a) (.tup ds)
 |lst {n:Nat} {a:Addr} {vs:List V} {ds:List Dt} (q:SqL K H a vs) (l:vs.length=ds.length) (h:∀(j:Nat)(v:V)(d:Dt),vs[j]?=some v->ds[j]?=some d->IsD K H n v d):IsD K H (n+1) (.ref a) (.lst ds)
theorem IsD.same {K:Ph}{H H':Hp}{n:Nat}{v:V}{d:Dt}(h:IsD K H n v d)(e:Same H H'):IsD K H' n v d:=by
 induction h with
 |flat h=>exact .flat h
 |tup q l _ F=>exact .tup (e.tup q) l F
 |lst q l _ F=>exact .lst (e.seq q) l F
theorem IsD.up {K:Ph}{H:Hp}{n m:Nat}{v:V}{d:Dt}(h:IsD K H n v d)(hm:n<=m):IsD K H m v d:=by
 induction h generalizing m with
 |flat h=>exact .flat h
 |tup q l _ F =>
  obtain⟨k,rfl⟩:∃k,m=k+1:=⟨m-1,by lia⟩;exact .tup q l λj v d I O=>F j v d I O (by lia)
 |lst q l _ F =>
  obtain⟨k,rfl⟩:∃k,m=k+1:=⟨m-1,by lia⟩;exact .lst q l λj v d I O=>F j v d I O (by lia)
theorem Zh2 (h:C5 v=true):Ek v v=true:=by
 cases v with
 |non=>rfl
 |bl b=>simp[Ek]
 |int i=>simp[Ek]
 |str x=>simp[Ek]
 |byt _=>cases h
 |flt _=>cases h
 |ref _=>cases h
 |ty _=>cases h
section
variable {X:Cx}{pins:List (Addr×Obj)}{σ:St}{H:Hp}{s:Shared}
theorem Zpk (I:Inv X pins σ H s):∀{n:Nat}{x y:V}{d:Dt},IsD X.K H n x d->IsD X.K H n y d->∀{A:Around}{u v:Value},RelV x u->RelV y v->A.units+n<cLine->P0 A s u v true:=by
 intro n
 induction n with
 |zero =>
  intro x y d hx hy A u v rx ry hu;cases hx with
  |flat fx =>
   cases hy with
   |flat fy =>
    have:=Zbd (A:=A) (s:=s) rx ry fx fy;rw[Zh2 fx]at this;exact this
 |succ n ih =>
  intro x y d hx hy A u v rx ry hu;cases hx with
  |flat fx =>
   cases hy with
   |flat fy =>
    have:=Zbd (A:=A) (s:=s) rx ry fx fy;rw[Zh2 fx]at this;exact this
  | @tup _ a vs ds q l h =>
   cases hy with
   | @tup _ b ws _ q' l' h' =>
    cases rx;cases ry;by_cases Z:a=b
    ·subst Z;exact Vm _
    obtain⟨O,r1,p1,_⟩:=I.tuple q;obtain⟨F,r2,p2,_⟩:=I.tuple q';have l1:=r1.length;have l2:=r2.length;have:=Wr (A:=A) (e:=λ_=>true) (show s.heap.IsTuple a O.toArray from p1) (show s.heap.IsTuple b F.toArray from p2) (by lia) λj h1 h2=>by
     have U:j<vs.length:=by simp only[Po]at h1;lia
     have Y:j<ws.length:=by simp only[Po]at h2;lia
     obtain⟨u1,g1,k1⟩:=r1.get (Pj U);obtain⟨u2,g2,k2⟩:=r2.get (Pj Y);have e1:O.toArray[j]=u1:=by
      have:O[j]?=some O[j]:=by simp
      rw[this]at g1;simpa using g1
     have e2:F.toArray[j]=u2:=by
      have:F[j]?=some F[j]:=by simp
      rw[this]at g2;simpa using g2
     rw[e1,e2];have hd:j<ds.length:=by lia
     exact ih (h j _ _ (Pj U) (Pj hd)) (h' j _ _ (Pj Y) (Pj hd)) k1 k2 (by show A.units+1+n<cLine;lia)
    have e:((Pn (min O.toArray.size F.toArray.size)).all (λ_=>true) && O.toArray.size == F.toArray.size)=true:=by
     have:O.toArray.size=F.toArray.size:=by simp only[Po];lia
     rw[this];simp
    rw[e]at this;exact Wl Z this
  | @lst _ a vs ds q l h =>
   cases hy with
   | @lst _ b ws _ q' l' h' =>
    cases rx;cases ry;by_cases Z:a=b
    ·subst Z;exact Vm _
    obtain⟨O,r1,p1,_⟩:=I.list q;obtain⟨F,r2,p2,_⟩:=I.list q';have l1:=r1.length;have l2:=r2.length;have:=Uw.lists (A:=A) (e:=λ_=>true) p1.isList p2.isList (by simp only[Po];lia) (by lia) λj h1 h2=>by
     have U:j<vs.length:=by simp only[Po]at h1;lia
     have Y:j<ws.length:=by simp only[Po]at h2;lia
     obtain⟨u1,g1,k1⟩:=r1.get (Pj U);obtain⟨u2,g2,k2⟩:=r2.get (Pj Y);have e1:O.toArray[j]=u1:=by
      have:O[j]?=some O[j]:=by simp
      rw[this]at g1;simpa using g1
     have e2:F.toArray[j]=u2:=by
      have:F[j]?=some F[j]:=by simp
      rw[this]at g2;simpa using g2
     rw[e1,e2];have hd:j<ds.length:=by lia
     exact ih (h j _ _ (Pj U) (Pj hd)) (h' j _ _ (Pj Y) (Pj hd)) k1 k2 (by show A.units+1+n<cLine;lia)
    have e:(Pn O.toArray.size).all (λ_=>true)=true:=by simp
    rw[e]at this;exact Wl Z this
theorem N5 (I:Inv X pins σ H s){n:Nat}{A:Around}{vs ws:List V}{its its2:List Value}{ds:List Dt}(r1:Vals vs its)(r2:Vals ws its2)(l:vs.length=ds.length)(l':ws.length=ds.length)
  (h:∀(j:Nat)(v:V)(d:Dt),vs[j]?=some v->ds[j]?=some d->IsD X.K H n v d) (h':∀(j:Nat)(v:V)(d:Dt),ws[j]?=some v->ds[j]?=some d->IsD X.K H n v d) (hu:A.units+n<cLine) :
  ∀j (h1:j<its.toArray.size) (h2:j<its2.toArray.size),P0 A s its.toArray[j] its2.toArray[j] ((λ_=>true) j):=λj h1 h2=>by
 have l1:=r1.length;have l2:=r2.length;have F:j<vs.length:=by simp only[Po]at h1;lia
 have O:j<ws.length:=by simp only[Po]at h2;lia
 obtain⟨u1,U,k1⟩:=r1.get (Pj F);obtain⟨u2,Y,k2⟩:=r2.get (Pj O);have Z:its.toArray[j]=u1:=by
  have:its[j]?=some its[j]:=by simp
  rw[this]at U;simpa using U
 have e2:its2.toArray[j]=u2:=by
  have:its2[j]?=some its2[j]:=by simp
  rw[this]at Y;simpa using Y
 rw[Z,e2];have hd:j<ds.length:=by lia
 exact Zpk I (h j _ _ (Pj F) (Pj hd)) (h' j _ _ (Pj O) (Pj hd)) k1 k2 hu
end
section
variable {X:Cx}
def Oa (K:Ph)(b:Bool):R2:=λx y H Q=>eX4 λ(a c:Addr)(n:Nat)(d:Dt)=>x=.ref a/\y=.ref c/\n<=190/\IsD K H n x d/\IsD K H n y d/\Q (.bl b) H
theorem Zuh (hu:X.A.units+200<cLine):OpR X (compareOp .Eq) (Oa X.K true):=by
 intro pins s σ H x y v u Q I rx ry h;obtain⟨a,c,n,d,rfl,rfl,hn,hx,hy,q⟩:=h;cases rx;cases ry;cases hx with
 |flat fx=>cases fx
 | @tup n _ vs ds qx l hd =>
  cases hy with
  | @tup _ _ ws _ qy l' U =>
   obtain⟨O,Z,p1,_⟩:=I.tuple qx;obtain⟨F,Y,p2,_⟩:=I.tuple qy;have l1:=Z.length;have l2:=Y.length;refine SeqAt.eq_tupleAt (e:=λ_=>true) (show s.heap.IsTuple a O.toArray from p1) (show s.heap.IsTuple c F.toArray from p2) (by lia) (N5 I Z Y l l' hd U (by show X.A.units+1+n<cLine;lia)) ?_;have e:((Pn (min O.toArray.size F.toArray.size)).all (λ_=>true) && O.toArray.size == F.toArray.size)=true:=by
    have:O.toArray.size=F.toArray.size:=by simp only[Po];lia
    rw[this];simp
   rw[e];exact⟨.bl true,H,I,rfl,q⟩
 | @lst n _ vs ds qx l hd =>
  cases hy with
  | @lst _ _ ws _ qy l' U =>
   obtain⟨O,Z,p1,_⟩:=I.list qx;obtain⟨F,Y,p2,_⟩:=I.list qy;have l1:=Z.length;have l2:=Y.length;refine SeqAt.eq_listAt (e:=λ_=>true) p1.isList p2.isList (by simp only[Po];lia) (by lia) (N5 I Z Y l l' hd U (by show X.A.units+1+n<cLine;lia)) ?_;have e:(Pn O.toArray.size).all (λ_=>true)=true:=by simp
   rw[e];exact⟨.bl true,H,I,rfl,q⟩
theorem Zk2 (hu:X.A.units+200<cLine):OpR X (compareOp .NotEq) (Oa X.K false):=by
 intro pins s σ H x y v u Q I rx ry h;obtain⟨a,c,n,d,rfl,rfl,hn,hx,hy,q⟩:=h;cases rx;cases ry;cases hx with
 |flat fx=>cases fx
 | @tup n _ vs ds qx l hd =>
  cases hy with
  | @tup _ _ ws _ qy l' U =>
   obtain⟨O,Z,p1,_⟩:=I.tuple qx;obtain⟨F,Y,p2,_⟩:=I.tuple qy;have l1:=Z.length;have l2:=Y.length;refine Zmu (e:=λ_=>true) (show s.heap.IsTuple a O.toArray from p1) (show s.heap.IsTuple c F.toArray from p2) (by lia) (N5 I Z Y l l' hd U (by show X.A.units+1+n<cLine;lia)) ?_;have e:(!((Pn (min O.toArray.size F.toArray.size)).all (λ_=>true) && O.toArray.size == F.toArray.size))=false:=by
    have:O.toArray.size=F.toArray.size:=by simp only[Po];lia
    rw[this];simp
   rw[e];exact⟨.bl false,H,I,rfl,q⟩
 | @lst n _ vs ds qx l hd =>
  cases hy with
  | @lst _ _ ws _ qy l' U =>
   obtain⟨O,Z,p1,_⟩:=I.list qx;obtain⟨F,Y,p2,_⟩:=I.list qy;have l1:=Z.length;have l2:=Y.length;refine Zkf (e:=λ_=>true) p1.isList p2.isList (by simp only[Po];lia) (by lia) (N5 I Z Y l l' hd U (by show X.A.units+1+n<cLine;lia)) ?_;have e:(!(Pn O.toArray.size).all (λ_=>true))=false:=by simp
   rw[e];exact⟨.bl false,H,I,rfl,q⟩
def Mr (K:Ph):R2:=λx y H Q=>rEq x y H Q\/Oa K true x y H Q
def Za6 (K:Ph):R2:=λx y H Q=>rNe x y H Q\/Oa K false x y H Q
theorem Zgy (hu:X.A.units+200<cLine):OpR X (compareOp .Eq) (Mr X.K):=op_eq.or (Zuh hu)
theorem Zq8 (hu:X.A.units+200<cLine):OpR X (compareOp .NotEq) (Za6 X.K):=op_ne.or (Zk2 hu)
theorem s_eq {K:Ph}{x y:V}{H:Hp}{Q:VK}(hs:Iw x y=true)(h:Q (.bl (decide (x=y))) H):Mr K x y H Q:=.inl ⟨hs,h⟩
theorem s_ne {K:Ph}{x y:V}{H:Hp}{Q:VK}(hs:Iw x y=true)(h:Q (.bl (!decide (x=y))) H):Za6 K x y H Q:=.inl ⟨hs,h⟩
theorem Room.u200 (r:Room k A):A.units+200<cLine:=by have:=r.un;lia
end
section
variable {t u:TS}{c d:TT}{te ta tb tc:TE}{g:TG}{gs:E4}{ts:TA}{D:Dj}{σ:St}{H:Hp}{Q:VK}{QB:Bool->Hp->Prop}{QA':List V->Hp->Prop}
theorem s_seq (h:t { D with nx:=u D } σ H):Za7 t u D σ H:=h
theorem s_asg (h:te σ H λx H1=>g x σ H1 D.nx):G7 te g D σ H:=h
theorem s_ret (h:te σ H D.rt):Zct te D σ H:=h
theorem s_drop (h:te σ H λ_ H1=>D.nx σ H1):Om te D σ H:=h
theorem s_next (h:D.nx σ H):Zch D σ H:=h
theorem s_ifS (h:c σ H λb H1=>if b=true then t D σ H1 else u D σ H1):Dh c t u D σ H:=h
theorem s_var (e:σ[i]?=some (some v))(h:Q v H):Oy i σ H Q:=⟨v,e,h⟩
theorem s_c (h:Q v H):tC v σ H Q:=h
theorem s_op (h:ta σ H λx H1=>tb σ H1 λy H2=>r x y H2 Q):Fv r ta tb σ H Q:=h
theorem s_un (h:ta σ H λx H1=>r x H1 Q):tUn r ta σ H Q:=h
theorem s_test (h:te σ H λx H'=>∃k,x=.bl k/\QB k H'):Zb3 te σ H QB:=h
theorem s_tB (h:te σ H λx H'=>∃k,x=.bl k/\QB k H'):tB te σ H QB:=h
theorem s_ex {b:Bool}{P:Bool->Prop}(h:P b):∃k,V.bl b=V.bl k/\P k:=⟨b,rfl,h⟩
theorem s_exi {i:Int}{P:Int->Prop}(h:P i):∃k,V.int i=V.int k/\P k:=⟨i,rfl,h⟩
theorem s_not (h:c σ H λb H1=>QB (!b) H1):Zc2 c σ H QB:=h
theorem s_and (h:c σ H λb H1=>if b=true then d σ H1 QB else QB false H1):Ox c d σ H QB:=h
theorem s_or (h:c σ H λb H1=>if b=true then QB true H1 else d σ H1 QB):tOr c d σ H QB:=h
theorem s_andV (h:ta σ H λx H1=>∃k,x=.bl k/\if k=true then tb σ H1 Q else Q (.bl false) H1):Zbk ta tb σ H Q:=h
theorem s_orV (h:ta σ H λx H1=>∃k,x=.bl k/\if k=true then Q (.bl true) H1 else tb σ H1 Q):Zas ta tb σ H Q:=h
theorem s_notV (h:ta σ H λx H1=>∃k,x=.bl k/\Q (.bl (!k)) H1):O5 ta σ H Q:=h
theorem s_nil (h:QA' [] H):Ol σ H QA':=h
theorem s_cons (h:te σ H λx H1=>ts σ H1 λxs H2=>QA' (x::xs) H2):Pg te ts σ H QA':=h
theorem s_vals (h:QA' xs H):O3 xs σ H QA':=h
theorem s_tup (h:ts σ H λxs H1=>xs.length<=sizeLine/\∀p,H1 p=none->Q (.ref p) (upd H1 p (.tup xs))):O8 ts σ H Q:=h
theorem s_lst (h:ts σ H λxs H1=>xs.length<=sizeLine/\∀p,H1 p=none->Q (.ref p) (upd H1 p (.lst xs))):Zaf ts σ H Q:=h
theorem s_call (h:ts σ H λvs H1=>sp (vs++dvs) H1 Q E):M5 sp dvs E ts σ H Q:=h
theorem s_cb (h:ts σ H λvs H1=>r vs H1 Q):tCB r ts σ H Q:=h
theorem s_bm {K:Ph}{T:String}{r:V->List V->Hp->VK->Prop}(h:te σ H λx H1=>Jz K T x H1/\ts σ H1 λxs H2=>r x xs H2 Q):tBM K T r te ts σ H Q:=h
theorem s_bm0 {K:Ph}{T:String}{r:V->List V->Hp->VK->Prop}(h:te σ H λx H1=>Jz K T x H1/\r x [] H1 Q):Ms K T r te σ H Q:=h
theorem s_sl (h:te σ H λx H1=>tl σ H1 λl H2=>th σ H2 λu H3=>r x l u H3 Q):tSl r te tl th σ H Q:=h
theorem s_po (h:te σ H λx H1=>∃i,x=.int i/\QO' (some i) H1):Zcs te σ H QO':=h
theorem s_po0 (h:QO' none H):Ow σ H QO':=h
theorem s_gname (h:QS' (σ.set i (some v)) H):He i v σ H QS':=h
theorem Dp {K:Ph}{n:Nat}{a:Addr}{xs:List V}{QS':St->Hp->Prop}(q:SqT K H a xs)(l:xs.length=n)(h:gs xs σ H QS'):Nh K n gs (.ref a) σ H QS':=⟨a,xs,rfl,q,l,h⟩
theorem s_gcons (h:g v σ H λσ' H'=>gs r σ' H' QS'):O6 g gs (v::r) σ H QS':=⟨v,r,rfl,h⟩
theorem s_gnil (h:QS' σ H):Za9 [] σ H QS':=⟨rfl,h⟩
theorem s_gsub (h:to σ H λo H1=>ti σ H1 λi H2=>tt o i v H2 λH3=>QS' σ H3):Zbw to ti tt v σ H QS':=h
theorem s_isN (h:ta σ H λx H1=>Q (.bl (decide (x=.non))) H1):Zcz ta σ H Q:=h
theorem s_notN (h:ta σ H λx H1=>Q (.bl (!decide (x=.non))) H1):Zb6 ta σ H Q:=h
end
section
variable {wi:TI}{σ0:St->St}{g:TG}{tt:TT}{te:TE}{ta:TA}{tb:TS}{D:Dj}{σ:St}{H:Hp}{Q:VK}{R:It->Hp->Prop}{K:Ph}
theorem s_comp (h:wi σ H λJ H1=>∀L,H1 L=none->K2 J g tt te (σ0 σ) H1 L Q):Lu wi σ0 g tt te σ H Q:=h
theorem s_for (h:wi σ H λJ H1=>∃W:Nat->Nat->St->Hp->Prop,(∃m,W 0 m σ H1)/\∀i m σ H,W i m σ H ->
 (J.stop i H/\D.nx σ H)\/(J.go i H/\∃N:St->Hp->Prop,(∀σ' H',N σ' H'->∃m',m'<m/\W (i+1) m' σ' H')/\∀x H',J.yld i H x H'->g x σ H' λσ2 H2=>tb { D with nx:=N,ct:=N,bk:=D.nx } σ2 H2)):Oj wi g tb D σ H:=h
theorem s_rng1 (h:ta σ H λvs H1=>∃j:Int,vs=[.int j]/\-(2 ^ 62)<=j/\j<2 ^ 62/\R (Gx 0 j.toNat) H1):Zcn ta σ H R:=h
theorem s_exr {i:Int}{P:Int->Prop}(h:P i):∃j,([V.int i]:List V)=[.int j]/\P j:=⟨i,rfl,h⟩
theorem s_iany (h:te σ H λx H1=>(∃a,x=.ref a/\(∃xs,SqL K H1 a xs)/\R (Hr K a) H1)\/(∃a,x=.ref a/\(∃xs,SqT K H1 a xs)/\R (Ic K a) H1)\/∃z,x=.str z/\R (Its z) H1):Zck K te σ H R:=h
theorem s_irev (h:ta σ H λvs H1=>∃a xs,vs=[.ref a]/\SqL K H1 a xs/\R (Iq K a xs.length) H1):Zaj K ta σ H R:=h
theorem s_ienum (h:ta σ H λvs H1=>∃a xs,vs=[.ref a]/\SqL K H1 a xs/\R (Jc K a xs.length) H1):Zak K ta σ H R:=h
theorem s_listen (h:ta σ H λvs H1=>∃a xs,vs=[.ref a]/\SqT K H1 a xs/\∀(S:Addr)(ys:List V)(H2:Hp),H1 S=none->Same H1 H2->ys.length=xs.length->Za1 H2 xs ys->H2 S=some (.lst ys)->Q (.ref S) H2):Zax K ta σ H Q:=h
theorem s_yes (h:QB true H):Zai σ H QB:=h
theorem s_turn (h:g x σ H λσ2 H3=>tt σ2 H3 λb H4=>if b=true then te σ2 H4 λy H5=>∃ys,H5 L=some (.lst ys)/\ys.length<sizeLine/\(∃zs,upd H5 L (.lst (ys++[y])) L=some (.lst zs)/\Nx zs σ2 (upd H5 L (.lst (ys++[y])))) else ∃zs,H4 L=some (.lst zs)/\Nx zs σ2 H4):M0 g tt te L Nx x σ H:=h
theorem Cy (e:H l=some (.lst xs))(z:xs.length<sizeLine)(h:Q .non (upd H l (.lst (xs++[y])))):Zey (.ref l) [y] H Q:=⟨l,xs,y,rfl,rfl,e,z,h⟩
theorem Md (e:H l=some (.lst (xs++[y])))(h:Q y (upd H l (.lst xs))):rPop (.ref l) [] H Q:=⟨l,xs++[y],y,rfl,rfl,e,by simp,by simpa using h⟩
theorem Zef (e:H p=some (.lst xs))(hj:Ea xs.length k=some j)(h:QH (upd H p (.lst (xs.set j v)))):Ze6 (.ref p) (.int k) v H QH:=⟨p,xs,k,j,rfl,rfl,e,hj,h⟩
end
section
variable {X:Cx}(K:Ph)
theorem D7 (hK:autoParam (X.K=K) zX):OpR X (binaryOp .Add) (Ig K):=by subst hK;exact op_addA
theorem Bf (hu:X.A.units+200<cLine)(hK:autoParam (X.K=K) zX):OpR X (compareOp .Eq) (Mr K):=by subst hK;exact Zgy hu
theorem Mu (hu:X.A.units+200<cLine)(hK:autoParam (X.K=K) zX):OpR X (compareOp .NotEq) (Za6 K):=by subst hK;exact Zq8 hu
theorem Fu (hK:autoParam (X.K=K) zX):OpR X (compareOp .In) (Kl K false):=by subst hK;exact Znd
theorem Zqw (hK:autoParam (X.K=K) zX):OpR X (compareOp .NotIn) (Kl K true):=by subst hK;exact Zmy
theorem k_ix (hK:autoParam (X.K=K) zX):IxR X (Jk K):=by subst hK;exact Zoq
theorem Fm (hK:autoParam (X.K=K) zX):SlR X (O1 K):=by subst hK;exact Zsn
theorem Dc (hK:autoParam (X.K=K) zX):Dk X (.builtin "len") (N7 K):=by subst hK;exact Zu0
inductive TyQ (K:Ph)(H:Hp):V->Value->Prop where
 |ty {x:V} {t:Value} (h:Ed K H x t):TyQ K H x t
 |tup {a:Addr} {xs:List V} (q:SqT K H a xs):TyQ K H (.ref a) (.type "tuple")
 |lst {a:Addr} {xs:List V} (q:SqL K H a xs):TyQ K H (.ref a) (.type "list")
def Ko (K:Ph)(T:String):List V->Hp->VK->Prop:=λxs H Q=>eX3 λx t b=>xs=[x,.ty T]/\TyQ K H x t/\Rx K t (.type T)=some b/\Q (.bl b) H
theorem Zuc:Dk X (.builtin "isinstance") (Ko X.K T):=by
 intro pins s σ H xs Z Q I r h;obtain⟨x,t,b,rfl,ty,e,q⟩:=h;obtain⟨u,v,rfl,F,Y⟩:=r.two;obtain rfl:v=Value.type T:=Y;cases ty with
 |ty ty=>exact Zoc I F ty e λtk=>⟨.bl b,H,I.tok tk,rfl,q⟩
 |tup U =>
  cases F;obtain⟨O,_,p,_⟩:=I.tuple U;obtain⟨o,h1,h2,_⟩:=p;exact Q5 PySem.W.kitx_tuple I.kIn ⟨o,h1,h2⟩ e (λz=>nomatch z) λtk=>⟨.bl b,H,I.tok tk,rfl,q⟩
 |lst U =>
  cases F;obtain⟨O,_,p,_⟩:=I.list U;obtain⟨o,n,h1,h2,_⟩:=p;exact Q5 Wp I.kIn ⟨o,h1,h2⟩ e (λz=>nomatch z) λtk=>⟨.bl b,H,I.tok tk,rfl,q⟩
theorem Ey (T:String)(hK:autoParam (X.K=K) zX):Dk X (.builtin "isinstance") (Ko K T):=by subst hK;exact Zuc
def Zs0 (K:Ph):List V->Hp->VK->Prop:=λxs H Q=>∃p ys,xs=[.ref p]/\(SqL K H p ys\/SqT K H p ys)/\∀l,H l=none->Q (.ref l) (upd H l (.lst ys))
theorem Zc6 (hK:autoParam (X.K=K) zX):Dk X (.type "list") (Zs0 K):=by subst hK;exact Zmj
def Ze8 (K:Ph):List V->Hp->VK->Prop:=λxs H Q=>∃p ys,xs=[.ref p]/\((SqL K H p ys/\∀l,H l=none->Q (.ref l) (upd H l (.tup ys)))\/(SqT K H p ys/\Q (.ref p) H))
theorem Zgl (hK:autoParam (X.K=K) zX):Dk X (.type "tuple") (Ze8 K):=by subst hK;exact Zlx
def rInt:List V->Hp->VK->Prop:=λxs H Q=>(∃i,xs=[.int i]/\Q (.int i) H)\/∃k,xs=[.bl k]/\Q (.int (if k then 1 else 0)) H
theorem Zo9:Dk X (.type "int") rInt:=Zlb
theorem s_intb (h:Q (.int (if k=true then 1 else 0)) H):rInt [.bl k] H Q:=.inr ⟨k,rfl,h⟩
theorem D6 {tg l:Expr}{tl:TE}(hl:QE X l tl)(hK:autoParam (X.K=K) zX):QI X tg l (Zck K tl):=by subst hK;exact Zlp hl
theorem Zf3 {tg a:Expr}{ta:TA}{p pos:Pos}(hg:Gl X "reversed")(hm:X.mg "reversed"=none)(ha:QA X [a] ta)(hK:autoParam (X.K=K) zX)(hs:autoParam (starEach [a] X.env=[(false,eval a X.env)]) zX):QI X tg (.Call (.Name "reversed" p) [a] [] pos) (Zaj K ta):=by subst hK;exact Ztm hg hm ha hs
theorem Ny {elts:List Expr}{kt:Nat}{pt:Pos}{e:Expr}{ta:TA}{p pos:Pos}(hg:Gl X "enumerate")(hm:X.mg "enumerate"=none)(ha:QA X [e] ta)(hK:autoParam (X.K=K) zX)(hs:autoParam (starEach [e] X.env=[(false,eval e X.env)]) zX):QI X (.Tuple elts kt pt) (.Call (.Name "enumerate" p) [e] [] pos) (Zak K ta):=by subst hK;exact Zkd hg hm ha hs
theorem Zqe {e:Expr}{ta:TA}{p p2 pos pos2:Pos}(hg:Gl X "list")(hm:X.mg "list"=none)(hg2:Gl X "enumerate")(hm2:X.mg "enumerate"=none)(ha:QA X [e] ta)(hK:autoParam (X.K=K) zX)(hc:autoParam (X.calm=true) zX)
  (hs:autoParam (starEach [.Call (.Name "enumerate" p2) [e] [] pos2] X.env=[(false,eval (.Call (.Name "enumerate" p2) [e] [] pos2) X.env)]) zX) (hs2:autoParam (starEach [e] X.env=[(false,eval e X.env)]) zX) :
  QE X (.Call (.Name "list" p) [.Call (.Name "enumerate" p2) [e] [] pos2] [] pos) (Zax K ta):=by subst hK;exact Zkx hg hm hg2 hm2 ha hc hs hs2
theorem Dq {es:List Expr}{k:Nat}{pos:Pos}{t:E4}{n:Nat}(hc:X.calm=true)(h:QGs X es t)(hK:autoParam (X.K=K) zX)(hn:autoParam ((assignEach es X.env).length=n) zX)(hst:autoParam ((assignEach es X.env).findIdx? (·.1)=none) zX):QG X (.Tuple es k pos) (Nh K n t):=by subst hK;exact Zl2 hc h hn hst
def Zfy (K:Ph)(ta:TE):TT:=λσ H Q=>ta σ H λx H'=>∃k,K1 K x H' k/\Q k H'
theorem Je {a:Expr}{ta:TE}(ha:QE X a ta)(he:∀whole,isTrue a X.env whole=(do let v <- whole;standAt a.pos;holding [v] (truthy v)))(hK:autoParam (X.K=K) zX):QT X a (Zfy K ta):=by subst hK;exact⟨Zqb ha.run he⟩
theorem Cu {o e:Expr}{es:List Expr}{to:TE}{t:TA}{name:Str}{apos cpos:Pos}{T id:String}{r:V->List V->Hp->VK->Prop}(pa:PlainAttrs T)(slot:Slot T name id)(hty:typeOf (.builtin id)=pure (.type "method_descriptor"))(hm:Ht X id r)(ho:QE X o to)(ha:QA X (e::es) t)(hK:autoParam (X.K=K) zX)
  (hbase:autoParam (attributeBase o name X.env (eval o X.env)=eval o X.env) zX) (hfew:autoParam (((backTo cpos (starEach (e::es) X.env)).all (λx=>!x.1) && (backToKw cpos (keywordEach [] X.env)).all (λx=>x.1.isSome)
   && decide ((e::es).length+([]:List Keyword).length+(if ([]:List Keyword).isEmpty then 0 else 1)<30))=true) zX) (hline:autoParam ((apos.endLine == cpos.line)=true) zX) (hs:autoParam (starEach (e::es) X.env=(false,eval e X.env)::starEach es X.env) zX) (hplain:autoParam ((backTo cpos (starEach es X.env)).any (·.1)=false) zX):QE X (.Call (.Attribute o name apos) (e::es) [] cpos) (tBM K T r to t):=by subst hK;exact Zl4 pa slot hty hm ho ha hbase hfew hline hs hplain
theorem Ky {o:Expr}{to:TE}{name:Str}{apos cpos:Pos}{T id:String}{r:V->List V->Hp->VK->Prop}(pa:PlainAttrs T)(slot:Slot T name id)(hty:typeOf (.builtin id)=pure (.type "method_descriptor"))(hm:Ht X id r)(ho:QE X o to)(hK:autoParam (X.K=K) zX)(hbase:autoParam (attributeBase o name X.env (eval o X.env)=eval o X.env) zX)(hline:autoParam ((apos.endLine == cpos.line)=true) zX):QE X (.Call (.Attribute o name apos) [] [] cpos) (Ms K T r to):=by subst hK;exact Zrb pa slot hty hm ho hbase hline
end
section
variable {K:Ph}{σ:St}{H:Hp}{Q:VK}{QB:Bool->Hp->Prop}{ta:TE}
theorem s_truth (h:ta σ H λx H'=>∃k,K1 K x H' k/\QB k H'):Zfy K ta σ H QB:=h
theorem Ho {a:Addr}{xs:List V}{P:Bool->Prop}(q:SqL K H a xs)(h:P (!xs.isEmpty)):∃k,K1 K (.ref a) H k/\P k:=⟨_,.inl ⟨xs,q,rfl⟩,h⟩
theorem Dw (ty:Ed K H x t)(e:Rx K t (.type T)=some b)(h:Q (.bl b) H):Ko K T [x,.ty T] H Q:=⟨x,t,b,rfl,.ty ty,e,h⟩
theorem K5 (q:SqT K H a xs)(e:Rx K (.type "tuple") (.type T)=some b)(h:Q (.bl b) H):Ko K T [.ref a,.ty T] H Q:=⟨_,_,b,rfl,.tup q,e,h⟩
theorem Le (q:SqL K H a xs)(e:Rx K (.type "list") (.type T)=some b)(h:Q (.bl b) H):Ko K T [.ref a,.ty T] H Q:=⟨_,_,b,rfl,.lst q,e,h⟩
theorem Zrx:Rx K (.type "int") (.type "bool")=some false:=Zj7 (l:=(fastBuiltinMro "int").get (by right)) (by right) (by decide) (by simp) (by right)
theorem Zd3 (q:SqL K H p ys)(h:∀l,H l=none->Q (.ref l) (upd H l (.tup ys))):Ze8 K [.ref p] H Q:=⟨p,ys,rfl,.inl ⟨q,h⟩⟩
theorem B9 {P:Prop}(q:SqL K H a xs)(h:P):Jz K "list" (.ref a) H/\P:=⟨.inl ⟨rfl,_,q⟩,h⟩
end
theorem s_nt {A B:Prop}(h:B):if (!true)=true then A else B:=by simpa using h
theorem s_nf {A B:Prop}(h:A):if (!false)=true then A else B:=by simpa using h
end L2
namespace L2
open PySem
inductive Tr where
 |mk (wd:Str) (note:Dt) (ps:List Tr)
noncomputable def Tr.wd:Tr->Str
 |.mk w _ _=>w
noncomputable def Tr.ps:Tr->List Tr
 |.mk _ _ ps=>ps
mutual
noncomputable def Tr.size:Tr->Nat
 |.mk _ _ ps=>1+Ax ps
noncomputable def Ax:List Tr->Nat
 |[]=>0
 |t::r=>t.size+Ax r
end
theorem Tr.size_eq (t:Tr):t.size=1+Ax t.ps:=by
 cases t with
 |mk w n ps=>rw[Tr.size];rfl
theorem Zrl (a b:List Tr):Ax (a++b)=Ax a+Ax b:=by
 induction a with
 |nil=>simp[Ax]
 |cons t r F=>rw[Ru,Ax,Ax,F];lia
def SameT (H H':Hp):Prop:=∀b,(∀xs,H b=some (.tup xs)->H' b=some (.tup xs))/\∀o u,H b=some (.frz o u)->H' b=some (.frz o u)
theorem Same.t (e:Same H H'):SameT H H':=λb=>⟨λxs h=>e b _ h,λo u h=>e b _ h⟩
theorem SameT.refl (H:Hp):SameT H H:=λ_=>⟨λ_ h=>h,λ_ _ h=>h⟩
theorem SameT.trans (a:SameT H H1)(b:SameT H1 H2):SameT H H2:=λc=>⟨λxs h=>(b c).1 xs ((a c).1 xs h),λo u h=>(b c).2 o u ((a c).2 o u h)⟩
theorem SameT.set (h:H S=some (.lst zs)):SameT H (upd H S o):=λb =>
 ⟨λxs e=>by rw[Ai (Fs e h (by intro z;cases z))];exact e,λo' u e=>by rw[Ai (Fs e h (by intro z;cases z))];exact e⟩
theorem SameT.new (h:H S=none):SameT H (upd H S o):=(Same.upd h).t
theorem SameT.tup (e:SameT H H')(h:SqT K H a xs):SqT K H' a xs:=by
 rcases h with(h|⟨o,h⟩)|h
 ·exact .inl (.inl ((e a).1 _ h))
 ·exact .inl (.inr ⟨o,(e a).2 _ _ h⟩)
 ·exact .inr h
def IsN (K:Ph)(H:Hp)(v:V)(n:Dt):Prop:=(C5 v=true/\n=.flat v)\/∃(a:Addr)(vs:List V),v=.ref a/\SqT K H a vs/\vs.all C5=true/\n=.tup (vs.map .flat)
theorem IsN.same (h:IsN K H v n)(e:SameT H H'):IsN K H' v n:=by
 rcases h with h|⟨a,vs,h1,h2,F⟩
 ·exact .inl h
 ·exact .inr ⟨a,vs,h1,e.tup h2,F⟩
inductive TrAt (K:Ph)(H:Hp):V->Tr->Prop where
 |mk {a p:Addr} {wd:Str} {nv:V} {n:Dt} {vs:List V} {ts:List Tr} (q:SqT K H a [.str wd,nv,.ref p]) (hn:IsN K H nv n) (qp:SqT K H p vs) (l:vs.length=ts.length)
   (h:∀(j:Nat)(v:V)(t:Tr),vs[j]?=some v->ts[j]?=some t->TrAt K H v t):TrAt K H (.ref a) (.mk wd n ts)
theorem TrAt.sameT (h:TrAt K H v t)(e:SameT H H'):TrAt K H' v t:=by
 induction h with
 |mk q O F l _ I=>exact .mk (e.tup q) (O.same e) (e.tup F) l I
theorem TrAt.same (h:TrAt K H v t)(e:Same H H'):TrAt K H' v t:=h.sameT e.t
def Al {α:Type}(R:V->α->Prop)(vs:List V)(xs:List α):Prop:=vs.length=xs.length/\∀(j:Nat)(v:V)(x:α),vs[j]?=some v->xs[j]?=some x->R v x
section
variable {α:Type}{R R':V->α->Prop}{vs:List V}{xs:List α}{v:V}{x:α}
theorem Al.mono (h:Al R vs xs)(f:∀v x,R v x->R' v x):Al R' vs xs:=⟨h.1,λj v x a b=>f v x (h.2 j v x a b)⟩
theorem Al.nil:Al R [] []:=⟨rfl,λj v x a _=>by simp at a⟩
theorem Al.snoc (h:Al R vs xs)(a:R v x):Al R (vs++[v]) (xs++[x]):=by
 refine⟨by simp[h.1],λj y z F I=>?_⟩;by_cases U:j<vs.length
 ·rw[Qh U]at F;rw[Qh (by have:=h.1;lia)]at I;exact h.2 j y z F I
 ·have Y:=(Pq.mp F).1;rw[Pr,Qg]at Y;have O:j=vs.length:=by lia
  subst O;rw[Qk (Pk _),Sf]at F;rw[h.1,Qk (Pk _),Sf]at I;have F:v=y:=by simpa using F
  have I:x=z:=by simpa using I
  rw[<- F,<- I];exact a
theorem Al.split (h:Al R (vs++[v]) xs):∃ys x,xs=ys++[x]/\Al R vs ys/\R v x:=by
 have O:xs.length=vs.length+1:=by have:=h.1;simp at this;lia
 have F:xs≠[]:=λz=>by rw[z]at O;simp at O
 refine⟨xs.dropLast,xs.getLast F,(W9 F).symm,⟨by simp[O],λj y z U I=>?_⟩,?_⟩
 ·have Y:=(Pq.mp U).1;refine h.2 j y z (by rw[Qh Y];exact U) ?_;rw[List.getElem?_dropLast]at I;split at I
  ·exact I
  ·cases I
 ·refine h.2 vs.length v _ (by simp) ?_;rw[List.getLast_eq_getElem,Pj (by lia)]
  congr 1
  simp[O]
theorem Al.last (h:Al R vs xs)(hn:vs≠[]):eX4 λvs' v xs' x=>vs=vs'++[v]/\xs=xs'++[x]/\Al R vs' xs'/\R v x:=by
 have e:=(W9 hn).symm;rw[e]at h;obtain⟨ys,x,F,a,r⟩:=h.split;exact⟨_,_,ys,x,e,F,a,r⟩
theorem Al.get {j:Nat}(h:Al R vs xs)(e:vs[j]?=some v):∃x,xs[j]?=some x/\R v x:=by
 have I:=(Pq.mp e).1;have F:j<xs.length:=by have:=h.1;lia
 exact⟨xs[j],Pj F,h.2 j v _ e (Pj F)⟩
theorem Al.get' {j:Nat}(h:Al R vs xs)(e:xs[j]?=some x):∃v,vs[j]?=some v/\R v x:=by
 have I:=(Pq.mp e).1;have F:j<vs.length:=by have:=h.1;lia
 exact⟨vs[j],Pj F,h.2 j _ x (Pj F) e⟩
end
mutual
noncomputable def walk:List Nat->Tr->List (List Nat×Tr)
 |pl,.mk w n ps=>(pl,.mk w n ps)::Br pl 0 ps
noncomputable def Br:List Nat->Nat->List Tr->List (List Nat×Tr)
 |_,_,[]=>[]
 |pl,i,t::r=>walk (pl++[i]) t++Br pl (i+1) r
end
theorem Zm8 (pl:List Nat)(t:Tr):walk pl t=(pl,t)::Br pl 0 t.ps:=by
 cases t with
 |mk w n ps=>rw[walk];rfl
mutual
theorem D5:∀(pl:List Nat)(t:Tr),(walk pl t).length=t.size
 |pl,.mk w n ps=>by rw[walk,Tr.size,Pw,Zgk pl 0 ps];lia
theorem Zgk:∀(pl:List Nat)(i:Nat)(ts:List Tr),(Br pl i ts).length=Ax ts
 |_,_,[]=>by rw[Br,Ax];rfl
 |pl,i,t::r=>by rw[Br,Ax,Pr,D5,Zgk]
end
mutual
theorem Jt:∀(pl:List Nat)(t:Tr)(x:List Nat×Tr),x∈walk pl t->x.1.length+1<=pl.length+t.size
 |pl,.mk w n ps,x,h=>by
  rw[walk]at h;rw[Tr.size];rcases Pm.mp h with h|h
  ·subst h;show pl.length+1<=_;lia
  ·have:=Zhr pl 0 ps x h;lia
theorem Zhr:∀(pl:List Nat)(i:Nat)(ts:List Tr)(x:List Nat×Tr),x∈Br pl i ts->x.1.length<=pl.length+Ax ts
 |_,_,[],x,h=>by rw[Br]at h;cases h
 |pl,i,t::r,x,h=>by
  rw[Br]at h;rw[Ax];rcases P3.mp h with h|h
  ·have:=Jt (pl++[i]) t x h;rw[Pr,Qg]at this;lia
  ·have:=Zhr pl (i+1) r x h;lia
end
noncomputable def Bv (pl:List Nat):List V:=pl.map λi=>V.int ((i:Nat):Int)
noncomputable def kids:List Nat->Nat->List Tr->List (List Nat×Tr)
 |_,_,[]=>[]
 |pl,i,t::r=>(pl++[i],t)::kids pl (i+1) r
theorem N9 (pl:List Nat):∀(i:Nat)(ts:List Tr),(kids pl i ts).length=ts.length
 |_,[]=>rfl
 |i,t::r=>by rw[kids,Pw,Pw,N9 pl (i+1) r]
theorem Zgc (pl:List Nat):∀(i j:Nat)(ts:List Tr),(kids pl i ts)[j]?=(ts[j]?).map λt=>(pl++[i+j],t)
 |_,_,[]=>by simp[kids]
 |i,0,t::r=>by simp[kids]
 |i,j+1,t::r=>by
  rw[kids,V9,V9,Zgc pl (i+1) j r]
  congr 1
  funext t;rw[show i+1+j=i+(j+1) by lia]
theorem Zhg (pl:List Nat):∀(i:Nat)(ts:List Tr),(kids pl i ts).flatMap (λx=>walk x.1 x.2)=Br pl i ts
 |_,[]=>by simp[kids,Br]
 |i,t::r=>by rw[kids,Ws,Br,Zhg pl (i+1) r]
noncomputable def Fx (st:List (List Nat×Tr)):List (List Nat×Tr):=st.reverse.flatMap λx=>walk x.1 x.2
theorem Zt6:Fx []=[]:=rfl
theorem K3 (st:List (List Nat×Tr))(x:List Nat×Tr):Fx (st++[x])=x::Fx (st++(kids x.1 0 x.2.ps).reverse):=by
 unfold Fx;rw[Vd,Vd,List.reverse_reverse,Wf,Wf,Zhg];rw[List.reverse_singleton,List.flatMap_singleton,Zm8];rfl
noncomputable def load (st:List (List Nat×Tr)):Nat:=(Fx st).length
theorem Zez (st:List (List Nat×Tr))(x:List Nat×Tr):load (st++(kids x.1 0 x.2.ps).reverse)<load (st++[x]):=by
 unfold load;rw[K3];exact Tg _
theorem Zhy (st:List (List Nat×Tr)):st.length<=load st:=by
 unfold load Fx;have:∀l:List (List Nat×Tr),l.length<=(l.flatMap λx=>walk x.1 x.2).length:=λl=>by
  induction l with
  |nil=>simp
  |cons x r F =>
   rw[Ws,Pr,D5,Pw];have:=x.2.size_eq;lia
 have:=this st.reverse;rw[Ub]at this;exact this
theorem Zdd {α:Type}{l:List α}{n i:Nat}{x:α}(hl:l.length=n)(hi:i<n)(hx:l[n-1-i]?=some x):(l.drop (n-(i+1))).reverse=(l.drop (n-i)).reverse++[x]:=by
 have F:n-1-i<l.length:=by lia
 have e:l.drop (n-(i+1))=x::l.drop (n-i):=by
  have h1:n-(i+1)=n-1-i:=by lia
  rw[h1,Rn F,show n-1-i+1=n-i by lia];rw[Pj F]at hx;rw[Pz hx]
 rw[e,List.reverse_cons]
mutual
theorem Zb8:∀(pl:List Nat)(t:Tr),walk pl t=(walk [] t).map λx=>(pl++x.1,x.2)
 |pl,.mk w n ps=>by
  have e:=Zgw pl [] 0 ps;rw[Qj]at e;rw[walk,walk,Q3,e];simp
theorem Zgw:∀(pl q:List Nat)(i:Nat)(ts:List Tr),Br (pl++q) i ts=(Br q i ts).map λx=>(pl++x.1,x.2)
 |_,_,_,[]=>by rw[Br,Br];rfl
 |pl,q,i,t::r=>by
  rw[Br,Br,Qv,<- Zgw pl q (i+1) r,Zb8 (pl++q++[i]) t,Zb8 (q++[i]) t];simp
end
end L2
namespace L2
open PySem PySem.Spec PyProof.Rows
section
open PySem.AutoSeq1
theorem Zk8 (l:Addr)(items:Array Value)(n:Nat)(b:Addr)(items2:Array Value)(n2:Nat)(od:Option Addr)(sl:Array (Option Value))(hs0:¬(!items.isEmpty && Sx (items.size+items2.size))=true)(hs1:items.size<=sizeLine)(hs2:items.size+items2.size<=sizeLine+1) :
  Meets (Builtin.«list.extend» ⟨[.ref l,.ref b],[]⟩) (λ_ R s=>s.heap.get? l=some { cls:=.type "list",dict:=none,data:=.seq items n,slots:=#[] }/\s.heap.get? b=some { cls:=.type "tuple",dict:=od,data:=.seq items2 n2,slots:=sl }/\R (.ok (.ret Value.none)) { s with heap:=s.heap.update l (Qy λx=>x++items2),toks:=s.toks }) :=
 .of_wp λprog w A R s h=>by
  obtain⟨O,g,d,tk,os⟩:=s;obtain⟨I,hb,h⟩:=h;have f1:=AutoSeq1.idx_int;have f2:=AutoSeq1.sub_tuple_tuple;have f3:=AutoSeq1.sub_list_list;have U:=AutoSeq1.sub_tuple_list;have f5:=AutoSeq1.sub_list_tuple;have F:(items++items2).size<=sizeLine+1:=by rw[Array.size_append];exact hs2
  wp_walk using (Ul I rfl (hz:=hs1) (_hz':=F)),AutoSeq1.wpAny_loadPart' I,AutoSeq1.wpAny_loadPart' hb;exact⟨_,rfl,h⟩
end
def Ze2 (K:Ph):V->List V->Hp->VK->Prop:=λx vs H Q=>eX4 λl b xs zs=>x=.ref l/\vs=[.ref b]/\H l=some (.lst xs)/\SqT K H b zs/\xs.length+zs.length<=sizeLine/\Q .non (upd H l (.lst (xs++zs)))
section
variable {X:Cx}
theorem Zns:MtM X "list.extend" (Ze2 X.K):=by
 intro pins s σ H x vs v us Q I rx rv h;obtain⟨l,b,xs,zs,rfl,rfl,hH,hB,hz,q⟩:=h;cases rx;obtain⟨u,rfl,ru⟩:=rv.one;cases ru;obtain⟨z,U,n,r,hl,e⟩:=I.lstM hH;obtain⟨O,r2,⟨o2,e2,aa,n2,Z⟩,ai⟩:=I.tuple hB;obtain⟨oc,od,ae,sl⟩:=o2;simp only at aa Z;subst aa Z;have ah:=r2.length;have ag:U.toArray.size+O.toArray.size<=sizeLine:=by rw[Po,Po];lia
 have Y:¬(!U.toArray.isEmpty && Sx (U.toArray.size+O.toArray.size))=true:=by
  rw[Zao ag,Bool.and_false];exact P5
 refine Sr F.slot_list_extend ⟨_,e,rfl⟩ F.entry_list_extend (F.args_list_extend_2 _ _)
  (Zk8 l U.toArray n b O.toArray n2 od sl Y (by rw[Po];lia) (by lia)) ⟨e,e2,?_⟩
 refine⟨.non,_,I.lset (its':=U++O) hH e (by simp) (r.append r2) ?_,rfl,q⟩;rw[Pr];lia
def rIsB:R2:=λx y H Q=>∃b,y=.bl b/\Q (.bl (decide (x=.bl b))) H
theorem Zmg:OpR X (compareOp .Is) rIsB:=by
 intro pins s σ H x y v u Q I F O h;obtain⟨b,rfl,q⟩:=h;cases O;refine wpAny_is_plain ?_ (B0 I q ?_)
 ·cases x <;> first|(cases F;rfl)|(obtain⟨t,rfl⟩:=F;rfl)
 ·cases x <;> first
   | (cases F;rfl)
   | (obtain⟨t,rfl⟩:=F;rfl)
   | (rename_i c;cases F;cases c <;> cases b <;> rfl)
end
section
variable {X:Cx}(P:Program)(w:World)(K:Ph)
theorem Zkv (hK:autoParam (X.K=K) zX):MtM X "list.extend" (Ze2 K):=by subst hK;exact Zns
end
theorem s_chain (h:ta σ H λx H1=>tb σ H1 λy H2=>r x y H2 λz H3=>∃k,z=.bl k/\(if k=true then tc σ H3 λw' H4=>r' y w' H4 Q else Q (.bl false) H3)):Zb2 r r' ta tb tc σ H Q:=h
def Zjl:R2:=λx y H Q=>∃z n,x=.str z/\y=.int n/\MulOk z n/\Q (.str (PySem.Txt.mul z n)) H
theorem Zq9:OpR X (binaryOp .Mult) Zjl:=by
 intro pins s σ H x y v u Q I U O h;obtain⟨z,n,rfl,rfl,hok,q⟩:=h;obtain⟨t,rfl⟩:=U;obtain⟨F,rfl⟩:=O;exact SB.mul hok λF k=>⟨.str _,H,I.tok k,⟨_,rfl⟩,q⟩
theorem Ztx:typeLookup (.type "list_reverseiterator") "__len__"=pure none:=by rw[Tj,Ta];kernel_rfl
theorem Zmk:typeLookup (.type "list_reverseiterator") "__length_hint__"=pure (some (.builtin "list_reverseiterator.__length_hint__")):=by rw[Tj,Ta];kernel_rfl
theorem Ztg (hT:s.TypeIs (.ref it) "list_reverseiterator")(h:Q false s):wpAny (model prog w) A (Tv (.ref it)) Q E s:=by
 unfold Tv;refine Pi (Uk hT Ztx ?_);show wpAny _ _ (specialOf (Value.ref it) (Qw "__length_hint__") >>= _) _ _ _;refine Pi (Uk hT Zmk ?_)
 (generalize hid:("list_reverseiterator.__length_hint__":String)=id0;(fail_if_success (clear hid id0));wp_delta;rw[show splitId id0=some ("list_reverseiterator","__length_hint__") from by subst hid;right];subst hid)
 refine Pi (Vj (b:=true) hT (by rw[isSubtype_type];kernel_rfl) ?_);exact Pl h
def JRev (H0:Hp)(it a:Addr)(xs:List V):Nat->List V->Hp->Heap->Prop:=λi ys H h =>
 i<=xs.length/\h.IsRevIter it a ((xs.length:Int)-1-(i:Int))/\H it=none/\ys=xs.reverse.take i/\Same H0 H
theorem Zpv (fi:FpOk X pins H0 it)(hq:SqL X.K H0 a xs):Src X pins σ it "list_reverseiterator" xs.length H0 (JRev H0 it a xs) where
 ty:=λi ys H h j=>by
  obtain⟨o,e,c,_⟩:=j.2.1;exact⟨o,e,c⟩
 nl:=by decide
 hint:=⟨_,λA s Q E hT h=>Ztg hT h⟩
 self:=λA s ys H Q E j q=>Wc j.2.1 q
 keep:=λi ys H h h' S zs ag h0 hS j k al=>by
  obtain⟨j1,U,F,j4,O⟩:=j;have Y:it≠S:=λz=>by rw[z,hS]at F;cases F
  exact⟨j1,U.at λo e=>k it o Y e,by rw[Ai Y];exact F,j4,O.over h0⟩
 fresh:=λi ys H h j=>j.2.2.1
 item:=λA i s H ys E hh hi I j=>by
  obtain⟨j1,U,F,j4,O⟩:=j;have aa:=O.seq hq;obtain⟨ae,rv,p,hz⟩:=I.list aa;have hx:xs[xs.length-1-i]?=some (xs[xs.length-1-i]'(by lia)):=Pj (by lia);obtain⟨u,hu,ru⟩:=rv.get hx;obtain⟨f0,f1,f2,f3,f4,f5⟩:=fi.of F;have e:(xs.length:Int)-1-(i:Int)=((xs.length-1-i:Nat):Int):=by lia
  have hit:=U;rw[e]at hit;refine wpAny_pyNext_rev_item hit p.isList (x:=u) (by simpa using hu) λh' Z sb=>?_;have I1:Inv X pins σ H { s with heap:=h' }:=I.turned (t':=s.toks) (λb o hb e=>(sb.2 b hb).trans e) f0 f1 f3 f4 f5;have e2:((xs.length-1-i:Nat):Int)-1=(xs.length:Int)-1-((i+1:Nat):Int):=by lia
  rw[e2]at Z;refine⟨u,_,H,rfl,ru,I1,⟨hi,Z,F,?_,O⟩,λS zs e=>e⟩;rw[j4,Tf]
  congr 1
  rw[List.getElem?_reverse (by simpa using hi),hx];rfl
 done:=λA s H ys E hh I j=>by
  obtain⟨j1,U,F,j4,O⟩:=j;obtain⟨f0,f1,f2,f3,f4,f5⟩:=fi.of F;have e:(xs.length:Int)-1-(xs.length:Int)=-1:=by lia
  have hit:=U;rw[e]at hit;exact wpAny_pyNext_rev_end hh hit λh' eb=>⟨rfl,I.turned (t':=s.toks) (λb o hb e=>eb b o hb e) f0 f1 f3 f4 f5⟩
section
variable {X:Cx}
def Zbb (K:Ph)(ta:TA):TE:=λσ H Q=>ta σ H λvs H1=>∃a xs,vs=[.ref a]/\SqL K H1 a xs /\
 ∀(S:Addr)(H2:Hp),H1 S=none->Same H1 H2->H2 S=some (.lst xs.reverse)->Q (.ref S) H2
theorem Zso (hg:Gl X "list")(hm:X.mg "list"=none)(hg2:Gl X "reversed")(hm2:X.mg "reversed"=none)(ha:QA X [e] ta)(hc:autoParam (X.calm=true) zX)(hs:autoParam (starEach [.Call (.Name "reversed" p2) [e] [] pos2] X.env=[(false,eval (.Call (.Name "reversed" p2) [e] [] pos2) X.env)]) zX)(hs2:autoParam (starEach [e] X.env=[(false,eval e X.env)]) zX) :
  QE X (.Call (.Name "list" p) [.Call (.Name "reversed" p2) [e] [] pos2] [] pos) (Zbb X.K ta):=by
 refine⟨λpins s σ H Q I h=>?_⟩;refine Call_ (Ef I hg hm Zaw (Rg ?_ hs rfl));rw[hs];show wpAny _ _ (spliced ((false,eval (.Call (.Name "reversed" p2) [e] [] pos2) X.env)::[])) _ _ s;refine Sk ?_;refine Call_ (Ef I hg2 hm2 Zib (Rg (Ap (ha.run pos2 pins s σ H _ I h) λus F zq=>?_) hs2 rfl));obtain⟨vs,H1,Z,r1,q1⟩:=zq;obtain⟨a,xs,e1,hq,q⟩:=q1;subst e1;cases r1 with
 |cons r rr =>
  cases rr;cases r;obtain⟨O,rv,pl,hz⟩:=Z.list hq;have hl:=rv.length;refine call_reversed_list pl.isList ?_;refine Te ?_;have Y:(F.heap.push (Vz a (((O.toArray).size:Int)-1))).IsRevIter F.heap.objs.size a ((xs.length:Int)-1-((0:Nat):Int)):=by
   refine⟨_,Qe _ rfl,rfl,?_⟩;have e:((O.toArray).size:Int)-1=(xs.length:Int)-1-((0:Nat):Int):=by simp[hl]
   rw[<- e];rfl
  have I2:Inv X pins σ H1 { F with heap:=F.heap.push (Vz a (((O.toArray).size:Int)-1)) }:=Z.kept (t':=F.toks) λb o e=>Px _ e;have fi:=Z.fpOk (b:=F.heap.objs.size) (Pk _) (Z.hok.fresh (Pk _));have C:=Zpv (X:=X) (pins:=pins) (σ:=σ) (H0:=H1) (it:=F.heap.objs.size) (a:=a) (xs:=xs) fi hq;refine Zad C (by lia) (Z.ok.hd hc) I2 ⟨P8 _,Y,fi.1,rfl,Same.refl _⟩ (λS U hS h2 k2=>?_) λS H' ys hS aa ae hj=>?_
  ·refine⟨P8 _,Y.at λo e=>k2 _ _ e,?_,rfl,Same.upd hS⟩;rw[Ai (show F.heap.objs.size≠S from λz=>?_)]
   ·exact fi.1
   ·have U:(F.heap.push (Vz a (((O.toArray).size:Int)-1))).objs.size<=S:=U;rw[Q6]at U;lia
  ·obtain⟨h,j⟩:=hj;obtain⟨_,_,_,j4,j5⟩:=j;rw[Rp (by simp)]at j4;subst j4;exact q S H' hS j5 aa
theorem Zol (K:Ph)(hg:Gl X "list")(hm:X.mg "list"=none)(hg2:Gl X "reversed")(hm2:X.mg "reversed"=none)(ha:QA X [e] ta)(hK:autoParam (X.K=K) zX)(hc:autoParam (X.calm=true) zX)(hs:autoParam (starEach [.Call (.Name "reversed" p2) [e] [] pos2] X.env=[(false,eval (.Call (.Name "reversed" p2) [e] [] pos2) X.env)]) zX)(hs2:autoParam (starEach [e] X.env=[(false,eval e X.env)]) zX) :
  QE X (.Call (.Name "list" p) [.Call (.Name "reversed" p2) [e] [] pos2] [] pos) (Zbb K ta):=by subst hK;exact Zso hg hm hg2 hm2 ha hc hs hs2
theorem s_listrev {K:Ph}{ta:TA}{σ:St}{H:Hp}{Q:VK}(h:ta σ H λvs H1=>∃a xs,vs=[.ref a]/\SqL K H1 a xs/\∀(S:Addr)(H2:Hp),H1 S=none->Same H1 H2->H2 S=some (.lst xs.reverse)->Q (.ref S) H2):Zbb K ta σ H Q:=h
theorem Zud (e:H l=some (.lst xs))(e2:H b=some (.lst zs))(hz:xs.length+zs.length<=sizeLine)(h:Q .non (upd H l (.lst (xs++zs)))):Zeu (.ref l) [.ref b] H Q:=⟨l,b,xs,zs,rfl,rfl,e,e2,hz,h⟩
theorem Zbf:∀{ns:List Int}{us:List Value},Vals (ns.map V.int) us->∃xs:List (Int×Tok),us=xs.map (λp=>Value.int p.1 p.2)/\xs.map (·.1)=ns
 |[],_,.nil=>⟨[],rfl,rfl⟩
 |n::ns,_,.cons r t=>by
  obtain⟨u,rfl⟩:=r;obtain⟨xs,F,I⟩:=Zbf t;exact⟨(n,u)::xs,by rw[F];rfl,by simp[I]⟩
end
structure ZA (z TI TO i1 i2:Addr)(fp1 fp2:List Addr):Prop where
 TIz:TI≠z
 TOz:TO≠z
 TITO:TI≠TO
 z1:z ∉ fp1
 z2:z ∉ fp2
 TI1:TI≠i1
 TI2:TI≠i2
 TO1:TO ∉ fp1
 TO2:TO ∉ fp2
 m1:i1∈fp1
 m2:i2∈fp2
 n1:i1 ∉ fp2
 n2:i2 ∉ fp1
theorem ZA.i1z {z TI TO i1 i2:Addr}{fp1 fp2:List Addr}(D:ZA z TI TO i1 i2 fp1 fp2):i1≠z:=λe=>D.z1 (e ▸ D.m1)
theorem ZA.i2z {z TI TO i1 i2:Addr}{fp1 fp2:List Addr}(D:ZA z TI TO i1 i2 fp1 fp2):i2≠z:=λe=>D.z2 (e ▸ D.m2)
theorem ZA.TOi1 {z TI TO i1 i2:Addr}{fp1 fp2:List Addr}(D:ZA z TI TO i1 i2 fp1 fp2):TO≠i1:=λe=>D.TO1 (e ▸ D.m1)
theorem ZA.TOi2 {z TI TO i1 i2:Addr}{fp1 fp2:List Addr}(D:ZA z TI TO i1 i2 fp1 fp2):TO≠i2:=λe=>D.TO2 (e ▸ D.m2)
theorem Cn {prog:Program}{w:World}{A:Around}{it c:Addr}{fp:List Addr}{n i:Nat}{P:Nat->Value->Prop}{St:Nat->Heap->Prop}(D:Draws prog w A it fp n P St){h h':Heap}(st:St i h)(e:P7 c h h')(hc:c ∉ fp):St i h' :=
 D.frame i h h' st λb hb o F=>e.extBut b o (λz=>hc (z ▸ hb)) F
section
variable {prog:Program}{w:World}{A:Around}{E:Value->Shared->Prop}{s:Shared}{z TI TO i1 i2:Addr}{fp1 fp2:List Addr}{n1 n2 i:Nat}{P1 P2:Nat->Value->Prop}{St1 St2:Nat->Heap->Prop}{a b:Value}
theorem Zkz {Q:Value->Shared->Prop}(D1:Draws prog w A i1 fp1 n1 P1 St1)(D2:Draws prog w A i2 fp2 n2 P2 St2)(D:ZA z TI TO i1 i2 fp1 fp2)(hz:IsZip s.heap z TI TO .none)(hTI:IsPair s.heap TI (.ref i1) (.ref i2))(hTO:IsPair s.heap TO a b)
  (st1:St1 i s.heap) (st2:St2 i s.heap) (l1:i<n1) (l2:i<n2)
  (hQ:∀x y h' tk,P1 i x->P2 i y->IsZip h' z TI TO (rawInt s.heap.objs.size)->IsPair h' TO x y->St1 (i+1) h'->St2 (i+1) h'->IsPair h' s.heap.objs.size x y->h'.objs.size=s.heap.objs.size+1 ->
   (∀c o,c≠z->c≠TO->c≠i1->c≠i2->s.heap.get? c=some o->h'.get? c=some o)->Q (.ref s.heap.objs.size) { s with heap:=h',toks:=tk }) :
  wpAny (model prog w) A (Builtin.«zip.__next__» ⟨[.ref z],[]⟩) (λfin s'=>∃v,fin=.done (.ret v)/\Q v s') E s:=by
 show wpAny _ _ (field (.ref z) 2 >>= _) _ _ s;refine Pi (P9 hz rfl (x:=Value.bool false) rfl ?_);show wpAny _ _ (field (.ref z) 3 >>= _) _ _ s;refine Pi (P9 hz rfl (x:=Value.ref TI) rfl (Pi (Rl hTI rfl ?_)));show wpAny _ _ (Rm (.ref z) >>= _) _ _ s;refine Pi ?_;unfold Rm;refine Pi (P9 hz rfl (x:=Value.none) rfl (Pl ?_));simp only[if_true];refine Pi (Tt (Pi (P9 hz rfl (x:=Value.ref TO) rfl ?_)));refine Pi (Rs hz (by simp) λaa O e1=>?_);replace O:IsZip aa z TI TO Value.ellipsis:=O;refine Pi ?_;simp only[List.zipIdx_cons,List.zipIdx_nil,Ti,Up];refine Pi (Pi (Vu ?_));show wpAny _ _ (Q8 (.ref i1) >>= _) _ _ _;refine Pi (D1.item i _ _ _ l1 (Cn D1 st1 e1 D.z1) λx Y ak px ai e2=>Pl ?_);replace e2:P7 i1 aa Y:=e2;have p2:IsPair Y TO a b:=e2.extBut _ _ D.TOi1 (e1.extBut _ _ D.TOz hTO);refine Pi (Rl p2 rfl (Pi (Wd p2 λU p3 e3=>?_)));replace p3:IsPair U TO x b:=p3;replace e3:P7 TO Y U:=e3;refine Pi (V5 (Pl (Pi (Pi (Vu ?_)))));show wpAny _ _ (Q8 (.ref i2) >>= _) _ _ _;have aj:St2 i U:=Cn D2 (Cn D2 (Cn D2 st2 e1 D.z2) e2 D.n1) e3 D.TO2;refine Pi (D2.item i _ _ _ l2 aj λy Z ae py al e4=>Pl ?_);replace e4:P7 i2 U Z:=e4;have p4:IsPair Z TO x b:=e4.extBut _ _ D.TOi2 p3;refine Pi (Rl p4 rfl (Pi (Wd p4 λF p5 e5=>?_)));replace p5:IsPair F TO x y:=p5;replace e5:P7 TO Z F:=e5;refine Pi (V5 (Pl (Pl (Pi (Rl p5 rfl (Pi (wpAny_newTuple ?_)))))));have sz:F.objs.size=s.heap.objs.size:=by rw[e5.1,e4.1,e3.1,e2.1,e1.1]
 have z5:IsZip F z TI TO Value.ellipsis:=e5.extBut _ _ D.TOz.symm (e4.extBut _ _ D.i2z.symm (e3.extBut _ _ D.TOz.symm (e2.extBut _ _ D.i1z.symm O)));have k5:∀c o,c≠z->c≠TO->c≠i1->c≠i2->s.heap.get? c=some o->F.get? c=some o:=λc o c1 c2 c3 c4 e=>e5.extBut _ _ c2 (e4.extBut _ _ c4 (e3.extBut _ _ c2 (e2.extBut _ _ c3 (e1.extBut _ _ c1 e))));have t1:St1 (i+1) F:=Cn D1 (Cn D1 (Cn D1 ai e3 D.TO1) e4 D.n2) e5 D.TO1;have t2:St2 (i+1) F:=Cn D2 al e5 D.TO2;have ah:z<F.objs.size:=Pt z5;show wpAny _ _ (W3 (.ref z) (.ref F.objs.size) >>= _) _ _ _;refine Pi ?_;unfold W3;have z6:IsZip (F.push { cls:=.type "tuple",data:=.seq #[x,y] }) z TI TO Value.ellipsis:=Px _ z5;refine Pi (Rs z6 (by simp) λag z7 e7=>?_);replace z7:IsZip ag z TI TO (rawInt F.objs.size):=z7;refine Rs z7 (by simp) λI z8 e8=>?_;replace z8:IsZip I z TI TO (rawInt F.objs.size):=z8;have up:∀c o,c≠z->F.get? c=some o->I.get? c=some o:=λc o c1 e=>e8.extBut _ _ c1 (e7.extBut _ _ c1 (Px _ e));have t8:IsPair I F.objs.size x y:=e8.extBut _ _ (Rb ah) (e7.extBut _ _ (Rb ah) (Qe _ rfl));have sz8:I.objs.size=F.objs.size+1:=by rw[e8.1,e7.1,Q6]
 rw[sz]at z8 t8 sz8;refine Pl ⟨_,rfl,?_⟩;show Q (.ref F.objs.size) _;rw[sz];exact hQ x y I ae px py z8 (up _ _ D.TOz p5) (D1.frame _ _ _ t1 λc hc o e=>up c o (λq=>D.z1 (q ▸ hc)) e) (D2.frame _ _ _ t2 λc hc o e=>up c o (λq=>D.z2 (q ▸ hc)) e) t8 sz8 λc o c1 c2 c3 c4 e=>up c o c1 (k5 c o c1 c2 c3 c4 e)
theorem Zta (D1:Draws prog w A i1 fp1 n1 P1 St1)(D2:Draws prog w A i2 fp2 n2 P2 St2)(D:ZA z TI TO i1 i2 fp1 fp2)(hz:IsZip s.heap z TI TO .none)(hTI:IsPair s.heap TI (.ref i1) (.ref i2))(hTO:IsPair s.heap TO a b)(st1:St1 i s.heap)(st2:St2 i s.heap)(hend:i=n1\/(i<n1/\i=n2))(hE:∀h' e tk,(∀c o,c≠z->c≠TO->c≠i1->c≠i2->s.heap.get? c=some o->h'.get? c=some o)->(∃o,h'.get? e=some o/\o.cls=.type "StopIteration")->E (.ref e) { s with heap:=h',toks:=tk }) :
  wpAny (model prog w) A (Builtin.«zip.__next__» ⟨[.ref z],[]⟩) Q E s:=by
 show wpAny _ _ (field (.ref z) 2 >>= _) _ _ s;refine Pi (P9 hz rfl (x:=Value.bool false) rfl ?_);show wpAny _ _ (field (.ref z) 3 >>= _) _ _ s;refine Pi (P9 hz rfl (x:=Value.ref TI) rfl (Pi (Rl hTI rfl ?_)));show wpAny _ _ (Rm (.ref z) >>= _) _ _ s;refine Pi ?_;unfold Rm;refine Pi (P9 hz rfl (x:=Value.none) rfl (Pl ?_));simp only[if_true];refine Pi (Tt (Pi (P9 hz rfl (x:=Value.ref TO) rfl ?_)));refine Pi (Rs hz (by simp) λaa I e1=>?_);replace I:IsZip aa z TI TO Value.ellipsis:=I;refine Pi ?_;simp only[List.zipIdx_cons,List.zipIdx_nil,Ti,Up];refine Pi (Pi (Vu ?_));show wpAny _ _ (Q8 (.ref i1) >>= _) _ _ _;rcases hend with rfl|⟨l1,rfl⟩
 ·refine Pi (D1.done _ _ _ (Cn D1 st1 e1 D.z1) λF e Z he=>?_);obtain⟨oe,U,Y⟩:=he;replace Z:Tq i1 aa F:=Z;have z2:IsZip F z TI TO Value.ellipsis:=Z _ _ D.i1z.symm I;have ag:e≠z:=λx=>by subst x;rw[z2]at U;cases U;simp at Y
  refine Rs z2 (by simp) λO _ e3=>hE O e s.toks (λc o c1 _ c3 _ x=>e3.extBut _ _ c1 (Z _ _ c3 (e1.extBut _ _ c1 x))) ⟨oe,e3.extBut _ _ ag U,Y⟩
 ·refine Pi (D1.item i _ _ _ l1 (Cn D1 st1 e1 D.z1) λx F ah px ak Z=>Pl ?_);replace Z:P7 i1 aa F:=Z;have p2:IsPair F TO a b:=Z.extBut _ _ D.TOi1 (e1.extBut _ _ D.TOz hTO);refine Pi (Rl p2 rfl (Pi (Wd p2 λO p3 e3=>?_)));replace e3:P7 TO F O:=e3;refine Pi (V5 (Pl (Pi (Pi (Vu ?_)))));show wpAny _ _ (Q8 (.ref i2) >>= _) _ _ _;have aj:St2 i O:=Cn D2 (Cn D2 (Cn D2 st2 e1 D.z2) Z D.n1) e3 D.TO2;refine Pi (D2.done _ _ _ aj λae e e4 he=>?_);obtain⟨oe,U,Y⟩:=he;replace e4:Tq i2 O ae:=e4;have z4:IsZip ae z TI TO Value.ellipsis:=e4 _ _ D.i2z.symm (e3.extBut _ _ D.TOz.symm (Z.extBut _ _ D.i1z.symm I));have ag:e≠z:=λx=>by subst x;rw[z4]at U;cases U;simp at Y
  refine Rs z4 (by simp) λai _ e5=>hE ai e ah (λc o c1 c2 c3 c4 x=>e5.extBut _ _ c1 (e4 _ _ c4 (e3.extBut _ _ c2 (Z.extBut _ _ c3 (e1.extBut _ _ c1 x))))) ⟨oe,e5.extBut _ _ ag U,Y⟩
theorem Zg9 (D1:Draws prog w A.in1 i1 fp1 n1 P1 St1)(D2:Draws prog w A.in1 i2 fp2 n2 P2 St2)(D:ZA z TI TO i1 i2 fp1 fp2)(hz:IsZip s.heap z TI TO .none)(hTI:IsPair s.heap TI (.ref i1) (.ref i2))(hTO:IsPair s.heap TO a b)(st1:St1 i s.heap)(st2:St2 i s.heap)(l1:i<n1)(l2:i<n2)(hQ:∀x y h' tk,P1 i x->P2 i y->IsZip h' z TI TO (rawInt s.heap.objs.size)->IsPair h' TO x y->St1 (i+1) h'->St2 (i+1) h'->IsPair h' s.heap.objs.size x y->h'.objs.size=s.heap.objs.size+1 ->
   (∀c o,c≠z->c≠TO->c≠i1->c≠i2->s.heap.get? c=some o->h'.get? c=some o)->Q (some (.ref s.heap.objs.size)) { s with heap:=h',toks:=tk }) :
  wpAny (model prog w) A (pyNext (.ref z)) Q E s:=by
 have F:s.TypeIs (.ref z) "zip":=⟨_,hz,rfl⟩;unfold pyNext;exact Pi (Tl (Ro (name:=Qw "__next__") F R5
  (Rt R5 F U9 (Zkz D1 D2 D hz hTI hTO st1 st2 l1 l2 λx y h' tk a1 a2 U O I Y Z a8 a9=>Pl (hQ x y h' tk a1 a2 U O I Y Z a8 a9)) (U6 _))))
theorem Zgv (D1:Draws prog w A.in1 i1 fp1 n1 P1 St1)(D2:Draws prog w A.in1 i2 fp2 n2 P2 St2)(D:ZA z TI TO i1 i2 fp1 fp2)(hz:IsZip s.heap z TI TO .none)(hTI:IsPair s.heap TI (.ref i1) (.ref i2))(hTO:IsPair s.heap TO a b)(st1:St1 i s.heap)(st2:St2 i s.heap)(hend:i=n1\/(i<n1/\i=n2))(hQ:∀h' tk,(∀c o,c≠z->c≠TO->c≠i1->c≠i2->s.heap.get? c=some o->h'.get? c=some o)->Q none { s with heap:=h',toks:=tk }):wpAny (model prog w) A (pyNext (.ref z)) Q E s:=by
 have F:s.TypeIs (.ref z) "zip":=⟨_,hz,rfl⟩;unfold pyNext;refine Pi (Tl (Ro (name:=Qw "__next__") F R5
  (Rt R5 F U9 (Zta D1 D2 D hz hTI hTO st1 st2 hend λh' e tk I U=>?_) (U6 _))))
 obtain⟨o,O,hc⟩:=U;exact Pi (Vj (T:="StopIteration") (b:=true) ⟨o,O,hc⟩ isSubtype_stop (Pl (hQ _ _ I)))
end
section
variable {prog:Program}{w:World}{A:Around}{E:Value->Shared->Prop}{s:Shared}
end
section
variable {X:Cx}{pins:List (Addr×Obj)}{σ:St}{H:Hp}{s:Shared}{h':Heap}
theorem Inv.turnedL {t':Nat}{fp:List Addr}(I:Inv X pins σ H s)(k:∀b o,b ∉ fp->s.heap.get? b=some o->h'.get? b=some o)(f:∀b∈fp,FpOk X pins H b):Inv X pins σ H { s with heap:=h',toks:=t' }:=by
 have F:∀b u,H b=some u->b ∉ fp:=λb u e hb=>by rw[(f b hb).1]at e;exact nomatch e
 refine I.step (g':=s.gens) (d':=s.drawn) (ch:=fp) (λb hb=>?_) (λb o _ _ hc e _=>k b o hc e) (λb o _ _ hc e _=>⟨o.slots,k b o hc e⟩) (λ_ _ _ _ n=>n)
  (λb o hc e=>⟨o,k b o hc e⟩) (λ_ _ e=>e) (λ_ _ _ e=>e) (λb ps e=>⟨#[],by rw[e];simp⟩) (λm Y=>?_) (λb u e=>?_) I.bare
 ·obtain⟨n1,O,_,Z,c1,p1⟩:=f b hb;exact⟨Z,O,c1,p1⟩
 ·obtain⟨o,es,U,ho,r⟩:=Y;exact⟨o,es,U,k _ o (λhb=>(f _ hb).2.1 rfl) ho,r⟩
 ·refine(I.hok b u e).stay (λc v hc q=>k c v ?_ q) (λ_ q=>q) λ_ _ q=>q;rcases hc with z|z
  ·rw[z];exact F b u e
  ·exact F c _ z
theorem Inv.pairL {tk:Nat}{fp:List Addr}{T:Addr}{xs:List V}{its:List Value}(I:Inv X pins σ H s)(f:∀b∈fp,FpOk X pins H b)
  (kk:∀b o,b ∉ fp->s.heap.get? b=some o->h'.get? b=some o) (hT:s.heap.objs.size<=T) (rv:Vals xs its) (hz:xs.length<=sizeLine) (ht:h'.IsTuple T its.toArray):Inv X pins σ (upd H T (.tup xs)) { s with heap:=h',toks:=tk }:=by
 have F:H T=none:=I.hok.fresh hT;have I1:Inv X pins σ H { s with heap:=h',toks:=tk }:=I.turnedL kk f;have O:HOk X.prog X.w (upd H T (.tup xs)) h':=λb o e=>by
  by_cases hb:b=T
  ·subst hb;rw[Ac]at e;cases e;exact⟨hz,its,rv,ht⟩
  ·rw[Ai hb]at e;refine(I1.hok b o e).stay (λc v _ q=>q) (λc q=>?_) λc zs q=>?_
   ·rw[Ai (A6 q F)];exact q
   ·rw[Ai (A6 q F)];exact q
 have u:Un (Dg X.stack) fp H (upd H T (.tup xs)) s.heap h':={
  keep:=λb o e n _ U=>kk b o U e
  slot:=λb o e n _ U=>⟨o.slots,kk b o U e⟩
  free:=λb o e n _=>by rw[Ai (P4 (Qa (Pt e) hT))];exact n
  there:=λb o e U=>⟨o,kk b o U e⟩
  tups:=λb zs e=>by rw[Ai (A6 e F)];exact e
  frzs:=λb o u e=>by rw[Ai (A6 e F)];exact e
  tbls:=λb ps e=>⟨#[],by rw[Ai (A6 e F),e];simp⟩ }
 refine I.call (g':=s.gens) (d':=s.drawn) (t':=tk) u O I.bare λb hb=>?_;obtain⟨n1,Y,_,Z,c1,p1⟩:=f b hb;exact⟨Z,Y,c1,p1⟩
end
structure ZB (z TI TO i1 i2 a b:Addr):Prop where
 TIz:TI≠z
 TOz:TO≠z
 TITO:TI≠TO
 i1z:i1≠z
 i2z:i2≠z
 TI1:TI≠i1
 TI2:TI≠i2
 TO1:TO≠i1
 TO2:TO≠i2
 i12:i1≠i2
 az:a≠z
 aTO:a≠TO
 a1:a≠i1
 a2:a≠i2
 bz:b≠z
 bTO:b≠TO
 b1:b≠i1
 b2:b≠i2
theorem ZB.za {z TI TO i1 i2 a b:Addr}(D:ZB z TI TO i1 i2 a b):ZA z TI TO i1 i2 [i1,a] [i2,b] where
 TIz:=D.TIz
 TOz:=D.TOz
 TITO:=D.TITO
 z1:=by simp[D.i1z.symm,D.az.symm]
 z2:=by simp[D.i2z.symm,D.bz.symm]
 TI1:=D.TI1
 TI2:=D.TI2
 TO1:=by simp[D.TO1,D.aTO.symm]
 TO2:=by simp[D.TO2,D.bTO.symm]
 m1:=by simp
 m2:=by simp
 n1:=by simp[D.i12,D.b1.symm]
 n2:=by simp[D.i12.symm,D.a2.symm]
theorem Zje (h1:a<n)(h2:b<n):ZB (n+4) (n+2) (n+3) n (n+1) a b:=by
 have f:∀i j:Nat,i≠j->n+i≠n+j:=λi j h e=>h (Nat.add_left_cancel e);have g:∀i:Nat,a≠n+i:=λi e=>absurd h1 (by rw[e];exact Nat.not_lt.mpr (Th _ _));have F:∀i:Nat,b≠n+i:=λi e=>absurd h2 (by rw[e];exact Nat.not_lt.mpr (Th _ _));exact⟨f 2 4 (by decide),f 3 4 (by decide),f 2 3 (by decide),f 0 4 (by decide),f 1 4 (by decide),f 2 0 (by decide),f 2 1 (by decide),f 3 0 (by decide),f 3 1 (by decide),f 0 1 (by decide),g 4,g 3,g 0,g 1,F 4,F 3,F 0,F 1⟩
section
variable {X:Cx}
end
theorem Zu5 {prog:Program}{w:World}{A:Around}{E:Value->Shared->Prop}{s:Shared}{t sl:Addr}{items:Array Value}{vl vu:Value}{lo hi:Option Int}{Q:Value->Shared->Prop}(ht:IsTup s.heap t items)(hs:s.heap.IsSliceOf sl vl vu .none)(pl:IsPart vl lo)(pu:IsPart vu hi)
  (hw:HT.sIx items.size 0 lo=0/\HT.sIx items.size items.size hi=items.size) (h:Q (.ref t) s):wpAny (model prog w) A (getItem (.ref t) (.ref sl)) Q E s:=by
 obtain⟨os,O,U,Y⟩:=id hs;have I:s.TypeIs (.ref sl) "slice":=⟨os,O,U⟩;unfold getItem
 try with_reducible refine Ra ?_
 first|refine Pi (Pl ?_)|skip
 refine Pi (wpAny_sequenceKey ht.typeIs (by decide) ?_);refine Pi (Ro (name:=Qw "__getitem__") ht.typeIs Sw
  (Rt Sw ht.typeIs PyProof.Rows.entry_tuple_getitem ?_ (PyProof.Rows.args_tuple_getitem _ _)))
 show wpAny _ _ (Builtin.Tuple.tupleItemsOf (.ref t) >>= _) _ _ s;refine Pi (PyProof.Rows.tupleItemsOf_ ht ?_);refine Pi (Vx I ?_);rw[if_pos (by decide)];refine Pi (HT.sliceApplied_gen hs pl pu ?_);have F:(((HT.sIx items.size 0 lo:Nat):Int) == 0 && (1:Int) == 1 && (HT.sIx items.size items.size hi-HT.sIx items.size 0 lo) == items.size)=true:=by
  rw[hw.1,hw.2];simp
 show wpAny _ _ (if (((HT.sIx items.size 0 lo:Nat):Int) == 0 && (1:Int) == 1 && (HT.sIx items.size items.size hi-HT.sIx items.size 0 lo) == items.size)=true then _ else _) _ _ s;rw[if_pos F];refine Pi (m:=Builtin.Tuple.tupleIsExact (.ref t)) ?_;unfold Builtin.Tuple.tupleIsExact;refine Pi (Vx ht.typeIs (Pl ?_));rw[if_pos (by decide)];refine Pi (Tt ?_);exact Pl ⟨_,rfl,Pl h⟩
def rSlU (K:Ph):V->Option Int->Option Int->Hp->VK->Prop:=λx lo hi H Q=>∃a xs,x=.ref a/\SqT K H a xs/\∀r H',Same H H'->SqT K H' r (Cb xs lo hi)->Q (.ref r) H'
theorem Zpc:SlR X (rSlU X.K):=by
 intro pins s σ H x v vl vu lo hi sl Q I rx hs pl Z h;obtain⟨a,xs,rfl,U,q⟩:=h;by_cases O:HT.sIx xs.length 0 lo=0/\HT.sIx xs.length xs.length hi=xs.length
 ·cases rx;obtain⟨Y,r,ht,hz⟩:=I.tuple U;have F:Y.toArray.size=xs.length:=by rw[Po];exact r.length.symm
  refine⟨"tuple",_,Sw.lookup,ht.typeIs,?_⟩;refine Zu5 ht hs pl Z (by rw[F];exact O) ⟨.ref a,H,I,rfl,q a H (Same.refl H) ?_⟩;have e:Cb xs lo hi=xs:=by unfold Cb;rw[O.1,O.2];simp
  rw[e];exact U
 ·exact Zfc pins s σ H _ v vl vu lo hi sl Q I rx hs pl Z ⟨a,xs,rfl,U,O,λp hp=>q p _ (Same.upd hp) (.of Ac)⟩
def Zcy (K:Ph):V->Option Int->Option Int->Hp->VK->Prop:=λx lo hi H Q=>Zaa K x lo hi H Q\/Zbe x lo hi H Q\/rSlU K x lo hi H Q
theorem Zgb (K:Ph)(hK:autoParam (X.K=K) zX):SlR X (Zcy K):=by subst hK;exact sl_list.or (sl_str.or Zpc)
theorem Zp5 {K:Ph}{a:Addr}{xs:List V}{lo hi:Option Int}{H:Hp}{Q:VK}(ha:SqL K H a xs)(h:∀p,H p=none->Q (.ref p) (upd H p (.lst (Cb xs lo hi)))):Zcy K (.ref a) lo hi H Q:=.inl ⟨a,xs,rfl,ha,h⟩
theorem Zk1 {K:Ph}{a:Addr}{xs:List V}{lo hi:Option Int}{H:Hp}{Q:VK}(ha:SqT K H a xs)(h:∀r H',Same H H'->SqT K H' r (Cb xs lo hi)->Q (.ref r) H'):Zcy K (.ref a) lo hi H Q:=.inr (.inr ⟨a,xs,rfl,ha,h⟩)
theorem s_aug (e:σ[i]?=some (some x))(h:te σ H λy H1=>ti x y H1 λz H2=>D.nx (σ.set i (some z)) H2):Zav i te ti D σ H:=⟨x,e,h⟩
theorem s_ipI (h:Q (.int (g i j)) H):ipI g (.int i) (.int j) H Q:=⟨i,j,rfl,rfl,h⟩
theorem Zt5 (xs:List V)(k:Nat):Cb xs none (some (k:Int))=xs.take k:=by
 unfold Cb;rw[HT.sIx_none,HT.sIx_nat,Uv,Uq];by_cases h:k<=xs.length
 ·rw[Um h]
 ·rw[Nat.min_eq_right (by lia),Rp (Pk _),Rp (by lia)]
theorem Zn2 (xs:List V):Cb xs none (some (-1))=xs.take (xs.length-1):=by
 unfold Cb;rw[HT.sIx_none,Uq];show xs.take ((if (-1:Int)<0 then ((-1:Int)+(xs.length:Int)).toNat else min (-1:Int).toNat xs.length)-0)=_;rw[if_pos (by decide)]
 congr 1
 lia
section
variable {M:Model}{A:Around}{E:Value->Shared->Prop}{s:Shared}
end
theorem Zdk {X:Cx}{st:Stmt}:QS X st (λ_ _ _=>False):=⟨λ_ _ _ _ _ _ h=>h.elim⟩
def Jj (h:Heap)(z TI TO i1 i2:Addr):Prop:=eX3 λ(a:Addr)(oa:Obj)(f1:Value)=>h.get? z=some { cls:=.type "zip",dict:=none,data:=.fields #[rawInt a,f1,.bool false,.ref TI,.ref TO],slots:=#[] }/\h.get? a=some oa/\a≠z/\a≠i1/\a≠i2
section
variable {prog:Program}{w:World}{A:Around}{E:Value->Shared->Prop}{s:Shared}{z TI TO i1 i2:Addr}{fp1 fp2:List Addr}{n1 n2 i:Nat}{P1 P2:Nat->Value->Prop}{St1 St2:Nat->Heap->Prop}{a b:Value}
theorem Zgi (hz:Jj s.heap z TI TO i1 i2)(h:∀h',Jj h' z TI TO i1 i2->P7 z s.heap h'->Q false { s with heap:=h' }):wpAny (model prog w) A (Rm (.ref z)) Q E s:=by
 obtain⟨a,O,f1,e,Y,U,n1,n2⟩:=hz;unfold Rm;refine Pi (P9 e rfl (x:=rawInt a) rfl ?_);show wpAny _ _ (loadIfAlive ((a:Int).toNat) >>= _) _ _ s;refine Pi (Zf8 ?_);rw[Sm,Y];rw[if_neg (by simp)];refine Pi (P9 e rfl (x:=f1) rfl ?_);by_cases Z:(f1 != Value.bool true)=true
 ·simp only[Z,if_true];refine Pi (Rs e (by simp) λF e5 I=>?_);replace I:P7 z s.heap F:=I;exact Pl (h F ⟨a,O,.bool true,e5,I.extBut a O U Y,U,n1,n2⟩ I)
 ·simp only[Z];exact Pl (h s.heap ⟨a,O,f1,e,Y,U,n1,n2⟩ (P7.refl ..))
theorem Zt3 {Q:Value->Shared->Prop}(D1:Draws prog w A i1 fp1 n1 P1 St1)(D2:Draws prog w A i2 fp2 n2 P2 St2)(D:ZA z TI TO i1 i2 fp1 fp2)(hz:Jj s.heap z TI TO i1 i2)(hTI:IsPair s.heap TI (.ref i1) (.ref i2))
  (st1:St1 i s.heap) (st2:St2 i s.heap) (l1:i<n1) (l2:i<n2)
  (hQ:∀x y h' tk,P1 i x->P2 i y->Jj h' z TI TO i1 i2->St1 (i+1) h'->St2 (i+1) h'->IsPair h' s.heap.objs.size x y->h'.objs.size=s.heap.objs.size+1 ->
   (∀c o,c≠z->c≠i1->c≠i2->s.heap.get? c=some o->h'.get? c=some o)->Q (.ref s.heap.objs.size) { s with heap:=h',toks:=tk }) :
  wpAny (model prog w) A (Builtin.«zip.__next__» ⟨[.ref z],[]⟩) (λfin s'=>∃v,fin=.done (.ret v)/\Q v s') E s:=by
 obtain⟨a0,al,ak,e0,_⟩:=id hz;show wpAny _ _ (field (.ref z) 2 >>= _) _ _ s;refine Pi (P9 e0 rfl (x:=Value.bool false) rfl ?_);show wpAny _ _ (field (.ref z) 3 >>= _) _ _ s;refine Pi (P9 e0 rfl (x:=Value.ref TI) rfl (Pi (Rl hTI rfl ?_)));show wpAny _ _ (Rm (.ref z) >>= _) _ _ s;refine Pi (Zgi hz λaa U e1=>?_);simp only[Ue,if_false];refine Pi ?_;simp only[List.forIn_toArray,Ti,Up];refine Pi (Pi (Ra ?_));show wpAny _ _ (Q8 (.ref i1) >>= _) _ _ _;refine Pi (D1.item i _ _ _ l1 (Cn D1 st1 e1 D.z1) λx O ai px ae Z=>Pl (Pl ?_));replace Z:P7 i1 aa O:=Z;refine Pi (Pi (Ra ?_));show wpAny _ _ (Q8 (.ref i2) >>= _) _ _ _;have ag:St2 i O:=Cn D2 (Cn D2 st2 e1 D.z2) Z D.n1;refine Pi (D2.item i _ _ _ l2 ag λy F I py aj Y=>Pl (Pl (Pl ?_)));replace Y:P7 i2 O F:=Y;show wpAny _ _ (newTuple [x,y] >>= _) _ _ _;refine Pi (wpAny_newTuple (Pl ⟨_,rfl,?_⟩));have sz:F.objs.size=s.heap.objs.size:=by rw[Y.1,Z.1,e1.1]
 show Q (.ref F.objs.size) { s with heap:=F.push { cls:=.type "tuple",data:=.seq #[x,y] },toks:=I };have up:∀c o,F.get? c=some o->(F.push { cls:=.type "tuple",data:=.seq #[x,y] }).get? c=some o:=λc o e=>Px _ e;have k4:∀c o,c≠z->c≠i1->c≠i2->s.heap.get? c=some o->F.get? c=some o:=λc o c1 c3 c4 e=>Y.extBut _ _ c4 (Z.extBut _ _ c3 (e1.extBut _ _ c1 e));have t8:IsPair (F.push { cls:=.type "tuple",data:=.seq #[x,y] }) F.objs.size x y:=Qe _ rfl;rw[sz]at t8;rw[sz];obtain⟨a1,ah,f1,g1,g2,g3,g4,g5⟩:=U;refine hQ x y _ I px py ⟨a1,ah,f1,up _ _ (Y.extBut _ _ D.i2z.symm (Z.extBut _ _ D.i1z.symm g1)),up _ _ (Y.extBut _ _ g5 (Z.extBut _ _ g4 g2)),g3,g4,g5⟩ ?_ ?_ t8 (by rw[Q6,sz]) λc o c1 c3 c4 e=>up c o (k4 c o c1 c3 c4 e)
 ·exact D1.frame _ _ _ (Cn D1 ae Y D.n2) λc _ o e=>up c o e
 ·exact D2.frame _ _ _ aj λc _ o e=>up c o e
theorem Zj1 (D1:Draws prog w A i1 fp1 n1 P1 St1)(D2:Draws prog w A i2 fp2 n2 P2 St2)(D:ZA z TI TO i1 i2 fp1 fp2)(hz:Jj s.heap z TI TO i1 i2)(hTI:IsPair s.heap TI (.ref i1) (.ref i2))(st1:St1 i s.heap)(st2:St2 i s.heap)(hend:i=n1\/(i<n1/\i=n2))(hE:∀h' e tk,(∀c o,c≠z->c≠i1->c≠i2->s.heap.get? c=some o->h'.get? c=some o)->(∃o,h'.get? e=some o/\o.cls=.type "StopIteration")->E (.ref e) { s with heap:=h',toks:=tk }) :
  wpAny (model prog w) A (Builtin.«zip.__next__» ⟨[.ref z],[]⟩) Q E s:=by
 obtain⟨a0,ah,ag,e0,_⟩:=id hz;show wpAny _ _ (field (.ref z) 2 >>= _) _ _ s;refine Pi (P9 e0 rfl (x:=Value.bool false) rfl ?_);show wpAny _ _ (field (.ref z) 3 >>= _) _ _ s;refine Pi (P9 e0 rfl (x:=Value.ref TI) rfl (Pi (Rl hTI rfl ?_)));show wpAny _ _ (Rm (.ref z) >>= _) _ _ s;refine Pi (Zgi hz λU aa Z=>?_);simp only[Ue,if_false];refine Pi ?_;simp only[List.forIn_toArray,Ti,Up];refine Pi (Pi (Ra ?_));show wpAny _ _ (Q8 (.ref i1) >>= _) _ _ _;rcases hend with rfl|⟨l1,rfl⟩
 ·refine Pi (D1.done _ _ _ (Cn D1 st1 Z D.z1) λF e O he=>?_);replace O:Tq i1 U F:=O;exact hE F e s.toks (λc o c1 c3 _ x=>O _ _ c3 (Z.extBut _ _ c1 x)) he
 ·refine Pi (D1.item i _ _ _ l1 (Cn D1 st1 Z D.z1) λx F Y px ai O=>Pl (Pl ?_));replace O:P7 i1 U F:=O;refine Pi (Pi (Ra ?_));show wpAny _ _ (Q8 (.ref i2) >>= _) _ _ _;have ae:St2 i F:=Cn D2 (Cn D2 st2 Z D.z2) O D.n1;refine Pi (D2.done _ _ _ ae λI e e4 he=>?_);replace e4:Tq i2 F I:=e4;exact hE I e Y (λc o c1 c3 c4 x=>e4 _ _ c4 (O.extBut _ _ c3 (Z.extBut _ _ c1 x))) he
def ZpSt (h:Heap)(z TI TO i1 i2:Addr)(i:Nat):Prop:=(i=0/\IsZip h z TI TO .none/\∃u v,IsPair h TO u v)\/(0<i/\Jj h z TI TO i1 i2)
theorem ZpSt.obj (x:ZpSt h z TI TO i1 i2 i):∃vs,h.get? z=some { cls:=.type "zip",dict:=none,data:=.fields vs,slots:=#[] }:=by
 rcases x with⟨_,x,_⟩|⟨_,_,_,_,x,_⟩
 ·exact⟨_,x⟩
 ·exact⟨_,x⟩
theorem Zos (D1:Draws prog w A.in1 i1 fp1 n1 P1 St1)(D2:Draws prog w A.in1 i2 fp2 n2 P2 St2)(D:ZA z TI TO i1 i2 fp1 fp2)(hz:ZpSt s.heap z TI TO i1 i2 i)(hTI:IsPair s.heap TI (.ref i1) (.ref i2))(eTO:∃o,s.heap.get? TO=some o)(st1:St1 i s.heap)(st2:St2 i s.heap)(l1:i<n1)(l2:i<n2)(hQ:∀x y h' tk,P1 i x->P2 i y->ZpSt h' z TI TO i1 i2 (i+1)->(∃o,h'.get? TO=some o)->St1 (i+1) h'->St2 (i+1) h'->IsPair h' s.heap.objs.size x y->h'.objs.size=s.heap.objs.size+1 ->
   (∀c o,c≠z->c≠TO->c≠i1->c≠i2->s.heap.get? c=some o->h'.get? c=some o)->Q (some (.ref s.heap.objs.size)) { s with heap:=h',toks:=tk }) :
  wpAny (model prog w) A (pyNext (.ref z)) Q E s:=by
 obtain⟨vs,ho⟩:=hz.obj;have hT:s.TypeIs (.ref z) "zip":=⟨_,ho,rfl⟩;have zl:z<s.heap.objs.size:=Pt ho;have Y:i1<s.heap.objs.size:=by obtain⟨_,y⟩:=D1.live _ _ st1;exact Pt y
 have ae:i2<s.heap.objs.size:=by obtain⟨_,y⟩:=D2.live _ _ st2;exact Pt y
 rcases hz with⟨rfl,hz,u,v,aa⟩|⟨hi,hz⟩
 ·exact Zg9 D1 D2 D hz hTI aa st1 st2 l1 l2 λx y h' tk a1 a2 U O a5 Z F I a9=>hQ x y h' tk a1 a2 (.inr ⟨V0 _,_,_,_,U,F,Rb zl,Rb Y,Rb ae⟩) ⟨_,O⟩ a5 Z F I a9
 ·unfold pyNext;exact Pi (Tl (Ro (name:=Qw "__next__") hT R5
   (Rt R5 hT U9 (Zt3 D1 D2 D hz hTI st1 st2 l1 l2 λx y h' tk a1 a2 U O a5 Z F I=>Pl (hQ x y h' tk a1 a2 (.inr ⟨V0 _,U⟩) (let ⟨o,e⟩:=eTO;⟨o,I _ o D.TOz D.TOi1 D.TOi2 e⟩) O a5 Z F λc o c1 _ c3 c4 e=>I c o c1 c3 c4 e)) (U6 _))))
theorem Zm0 (D1:Draws prog w A.in1 i1 fp1 n1 P1 St1)(D2:Draws prog w A.in1 i2 fp2 n2 P2 St2)(D:ZA z TI TO i1 i2 fp1 fp2)(hz:ZpSt s.heap z TI TO i1 i2 i)(hTI:IsPair s.heap TI (.ref i1) (.ref i2))(st1:St1 i s.heap)(st2:St2 i s.heap)(hend:i=n1\/(i<n1/\i=n2))(hQ:∀h' tk,(∀c o,c≠z->c≠TO->c≠i1->c≠i2->s.heap.get? c=some o->h'.get? c=some o)->Q none { s with heap:=h',toks:=tk }):wpAny (model prog w) A (pyNext (.ref z)) Q E s:=by
 obtain⟨vs,I⟩:=hz.obj;have O:s.TypeIs (.ref z) "zip":=⟨_,I,rfl⟩;rcases hz with⟨rfl,hz,u,v,F⟩|⟨hi,hz⟩
 ·exact Zgv D1 D2 D hz hTI F st1 st2 hend hQ
 ·unfold pyNext;refine Pi (Tl (Ro (name:=Qw "__next__") O R5
   (Rt R5 O U9 (Zj1 D1 D2 D hz hTI st1 st2 hend λh' e tk Y he=>?_) (U6 _))))
  obtain⟨o,I,hc⟩:=he;exact Pi (Vj (T:="StopIteration") (b:=true) ⟨o,I,hc⟩ isSubtype_stop (Pl (hQ _ _ λc o c1 _ U Z e=>Y c o c1 U Z e)))
end
noncomputable abbrev itZ (b:Bool)(l:Addr):Obj:={ cls:=.type (cond b "tuple_iterator" "list_iterator"),data:=.fields #[.ref l,.int 0 0] }
def ZIt (b:Bool)(h:Heap)(a l:Addr)(i:Nat):Prop:=∃o,h.get? a=some o/\o.cls=.type (cond b "tuple_iterator" "list_iterator")/\o.data=.fields #[.ref l,.int i 0]
theorem ZIt.at (x:ZIt b h a l i)(k:∀o,h.get? a=some o->h'.get? a=some o):ZIt b h' a l i:=let ⟨o,e,r⟩:=x;⟨o,k o e,r⟩
def ZIn (b:Bool)(h:Heap)(a:Addr)(xs:Array Value):Prop:=cond b (h.IsTuple a xs) (h.IsList a xs)
def Gj (b:Bool)(K:Ph)(H:Hp)(a:Addr)(xs:List V):Prop:=cond b (SqT K H a xs) (SqL K H a xs)
theorem ZIn.lt (x:ZIn b h a xs):a<h.objs.size:=by
 cases b <;> exact let ⟨_,e,_⟩:=id x;Pt e
theorem ZIn.push (x:ZIn b h a xs)(o:Obj):ZIn b (h.push o) a xs:=by
 cases b
 ·exact Heap.IsList.push x _
 ·obtain⟨o,e,r⟩:=id x;exact⟨o,Px _ e,r⟩
theorem Same.sqZ {b:Bool}{K:Ph}{H H':Hp}{a:Addr}{xs:List V}(m:Same H H')(x:Gj b K H a xs):Gj b K H' a xs:=by
 cases b
 ·exact m.seq x
 ·exact m.tup x
theorem Inv.zin (I:Inv X pins σ H s)(x:Gj b X.K H a xs):∃its,Vals xs its/\ZIn b s.heap a its.toArray:=by
 cases b
 ·obtain⟨its,F,pl,O⟩:=I.list x;exact⟨its,F,pl.isList⟩
 ·obtain⟨its,F,pl,O⟩:=I.tuple x;exact⟨its,F,pl⟩
theorem Inv.zsz (I:Inv X pins σ H s)(x:Gj b X.K H a xs):xs.length<=sizeLine:=by
 cases b
 ·obtain⟨F,O,pl,U⟩:=I.list x;have:=O.length;lia
 ·obtain⟨F,O,pl,U⟩:=I.tuple x;have:=O.length;lia
theorem Mp (b:Bool)(hh:A.handled=none)(it l:Addr)(hne:l≠it)(items:Array Value) :
  Draws prog w A it [it,l] items.size (λi v=>items[i]?=some v) (λi h=>ZIt b h it l i/\ZIn b h l items):=by
 cases b
 ·exact Ss hh it l hne items
 ·exact Zbv hh it l hne items
theorem Zhs (q:ZIn b s.heap a xs)(h:Q (.ref s.heap.objs.size) { s with heap:=s.heap.push (itZ b a) }):wpAny (model prog w) A (pyIter (.ref a)) Q E s:=by
 cases b
 ·exact wpAny_pyIter_list q h
 ·exact Ud q h
noncomputable abbrev zl1 (b:Bool)(h:Heap)(l1:Addr):Heap:=h.push (itZ b l1)
noncomputable abbrev zl2 (b gg:Bool)(h:Heap)(l1 l2:Addr):Heap:=(zl1 b h l1).push (itZ gg l2)
noncomputable abbrev zl3 (b gg:Bool)(h:Heap)(l1 l2:Addr):Heap:=(zl2 b gg h l1 l2).push { cls:=.type "tuple",data:=.seq #[.ref h.objs.size,.ref (zl1 b h l1).objs.size] }
noncomputable abbrev zl4 (b gg:Bool)(h:Heap)(l1 l2:Addr):Heap:=(zl3 b gg h l1 l2).push { cls:=.type "tuple",data:=.seq #[.none,.none] }
noncomputable abbrev Hz (b gg:Bool)(h:Heap)(l1 l2:Addr):Heap:=(zl4 b gg h l1 l2).push { cls:=.type "zip",data:=.fields #[.none,.bool false,.bool false,.ref (zl2 b gg h l1 l2).objs.size,.ref (zl3 b gg h l1 l2).objs.size] }
theorem Zl1 (b gg:Bool)(l1 l2:Addr)(xs ys:Array Value) :
  Meets (Builtin.«zip.__new__» ⟨[.type "zip",.ref l1,.ref l2],[]⟩) (λ_ R s=>ZIn b s.heap l1 xs/\ZIn gg s.heap l2 ys/\R (.ok (.ret (.ref (zl4 b gg s.heap l1 l2).objs.size))) { s with heap:=Hz b gg s.heap l1 l2 }) :=
 .of_wp λprog w A R s h=>by
  obtain⟨O,g,d,tk,os⟩:=s;obtain⟨F,I,h⟩:=h;have U:=sub_zip;have Z:ZIn b (Shared.heap ⟨O,g,d,tk,os⟩) l1 xs:=F;have Y:ZIn gg (Shared.heap ⟨O.push (itZ b l1),g,d,tk,os⟩) l2 ys:=I.push _
  wp_walk using Zhs Z,Zhs Y
  exact⟨_,rfl,h⟩
theorem Zem (hl1:ZIn b s.heap l1 xs)(hl2:ZIn gg s.heap l2 ys)(h:∀h',IsZip h' (s.heap.objs.size+4) (s.heap.objs.size+2) (s.heap.objs.size+3) .none->IsPair h' (s.heap.objs.size+2) (.ref s.heap.objs.size) (.ref (s.heap.objs.size+1)) ->
   IsPair h' (s.heap.objs.size+3) .none .none->ZIt b h' s.heap.objs.size l1 0->ZIt gg h' (s.heap.objs.size+1) l2 0->h'.objs.size=s.heap.objs.size+5 ->
   (∀c o,s.heap.get? c=some o->h'.get? c=some o)->Q (.ref (s.heap.objs.size+4)) { s with heap:=h' }) :
  wpAny (model prog w) A (call (.type "zip") [.ref l1,.ref l2]) Q E s:=by
 refine callType_new PySem.F.called_zip (by decide) (PySem.F.typeCall_zip_2 _ _) (PySem.F.newCall_zip_2 _ _) (λobj=>PySem.F.args_object_init_3 obj _ _) PySem.F.entry_zip_new (Zl1 b gg l1 l2 xs ys) ⟨hl1,hl2,?_⟩;have y1:(zl1 b s.heap l1).objs.size=s.heap.objs.size+1:=Q6 ..;have y2:(zl2 b gg s.heap l1 l2).objs.size=s.heap.objs.size+2:=by rw[Q6,y1]
 have y3:(zl3 b gg s.heap l1 l2).objs.size=s.heap.objs.size+3:=by rw[Q6,y2]
 have y4:(zl4 b gg s.heap l1 l2).objs.size=s.heap.objs.size+4:=by rw[Q6,y3]
 have y5:(Hz b gg s.heap l1 l2).objs.size=s.heap.objs.size+5:=by rw[Q6,y4]
 have I:(Hz b gg s.heap l1 l2).get? (zl4 b gg s.heap l1 l2).objs.size=some _:=Qe _ rfl;have Y:(Hz b gg s.heap l1 l2).get? (zl3 b gg s.heap l1 l2).objs.size=some _:=Px _ (Qe _ rfl);have U:(Hz b gg s.heap l1 l2).get? (zl2 b gg s.heap l1 l2).objs.size=some _:=Px _ (Px _ (Qe _ rfl));have O:(Hz b gg s.heap l1 l2).get? (zl1 b s.heap l1).objs.size=some _:=Px _ (Px _ (Px _ (Qe _ rfl)));have u1:(Hz b gg s.heap l1 l2).get? s.heap.objs.size=some _:=Px _ (Px _ (Px _ (Px _ (Qe _ rfl))));show _/\_;rw[y2,y3,y4]at I;rw[y1,y2]at U;rw[y3]at Y;rw[y1]at O;rw[y4];exact⟨⟨_,I,rfl⟩,h _ I U Y ⟨_,u1,rfl,rfl⟩ ⟨_,O,rfl,rfl⟩ y5 λc o x=>Px _ (Px _ (Px _ (Px _ (Px _ x))))⟩
def O2 (H:Hp)(xs ys zs:List V):Prop:=∀(j:Nat)(z:V),zs[j]?=some z->eX3 λ(t:Addr)(x y:V)=>z=V.ref t/\xs[j]?=some x/\ys[j]?=some y/\H t=some (.tup [x,y])
def JZp (f gg:Bool)(K:Ph)(H0:Hp)(z TI TO i1 i2 a b:Addr)(xs ys:List V):Nat->List V->Hp->Heap->Prop:=λi zs H h =>
 ZpSt h z TI TO i1 i2 i/\(IsPair h TI (.ref i1) (.ref i2)/\∃o,h.get? TO=some o)/\ZIt f h i1 a i/\ZIt gg h i2 b i/\(∀c∈[z,TI,TO,i1,i2],H c=none)/\zs.length=i/\O2 H xs ys zs/\Same H0 H
theorem Zng:typeLookup (.type "zip") "__len__"=pure none:=by rw[Tj,Ta];kernel_rfl
theorem Zr5:typeLookup (.type "zip") "__length_hint__"=pure none:=by rw[Tj,Ta];kernel_rfl
theorem Zrh {f gg:Bool}{X:Cx}{pins:List (Addr×Obj)}{σ:St}{H0:Hp}{z TI TO i1 i2 a b:Addr}{xs ys:List V}(fp:∀c∈[z,TI,TO,i1,i2],FpOk X pins H0 c)(D:ZB z TI TO i1 i2 a b)(ha:Gj f X.K H0 a xs)(hb:Gj gg X.K H0 b ys) :
  Src X pins σ z "zip" (min xs.length ys.length) H0 (JZp f gg X.K H0 z TI TO i1 i2 a b xs ys) where
 ty:=λi zs H h j=>by
  obtain⟨vs,e⟩:=j.1.obj;exact⟨_,e,rfl⟩
 nl:=by decide
 hint:=⟨_,λA s Q E hT h=>Zfp hT Zng Zr5 h⟩
 self:=λA s zs H Q E j q=>by
  rcases j.1 with⟨_,e,_⟩|⟨z,_⟩
  ·exact Wv e q
  ·exact absurd z (Q2 _)
 keep:=λi zs H h h' S us an h0 hS j k al=>by
  obtain⟨j1,⟨j2,jT⟩,j3,j4,j5,j6,j7,Z⟩:=j;have ne:∀c∈[z,TI,TO,i1,i2],c≠S:=λc hc e=>by
   have:=j5 c hc;rw[e,hS]at this;cases this
  refine⟨?_,⟨k _ _ (ne TI (by simp)) j2,let ⟨o,e⟩:=jT;⟨o,k _ _ (ne TO (by simp)) e⟩⟩,j3.at λo e=>k _ _ (ne i1 (by simp)) e,j4.at λo e=>k _ _ (ne i2 (by simp)) e,λc hc=>by rw[Ai (ne c hc)];exact j5 c hc,j6,λm y U=>?_,Z.over h0⟩
  ·rcases j1 with⟨z0,e,u,v,e2⟩|⟨z0,a0,oa,f1,e,ea,x1,x2,x3⟩
   ·exact .inl ⟨z0,k _ _ (ne z (by simp)) e,u,v,k _ _ (ne TO (by simp)) e2⟩
   ·by_cases hs:a0=S
    ·subst hs;obtain⟨o,eo⟩:=al;exact .inr ⟨z0,a0,o,f1,k _ _ (ne z (by simp)) e,eo,x1,x2,x3⟩
    ·exact .inr ⟨z0,a0,oa,f1,k _ _ (ne z (by simp)) e,k _ _ hs ea,x1,x2,x3⟩
  ·obtain⟨t,x,y',e1,e2,e3,e4⟩:=j7 m y U;exact⟨t,x,y',e1,e2,e3,by rw[Ai (Fs e4 hS (by intro z;cases z))];exact e4⟩
 fresh:=λi zs H h j=>j.2.2.2.2.1 z (by simp)
 item:=λA i s H zs E hh hi I j=>by
  obtain⟨j1,⟨j2,jT⟩,j3,j4,j5,j6,j7,Z⟩:=j;obtain⟨O,rv,p⟩:=I.zin (Z.sqZ ha);obtain⟨F,Y,p2⟩:=I.zin (Z.sqZ hb);have g1:=rv.length;have g2:=Y.length;have l1:i<xs.length:=by lia
  have l2:i<ys.length:=by lia
  have D1:=Mp (prog:=X.prog) (w:=X.w) (A:=A.in1) f hh i1 a D.a1 O.toArray;have D2:=Mp (prog:=X.prog) (w:=X.w) (A:=A.in1) gg hh i2 b D.b2 F.toArray;refine Zos D1 D2 D.za j1 j2 jT ⟨j3,p⟩ ⟨j4,p2⟩ (by rw[Po];lia) (by rw[Po];lia) λx y h' tk px py a1 aT a2 a3 a4 a5 a6=>?_;have ak:O[i]?=some x:=by simpa using px
  have aj:F[i]?=some y:=by simpa using py
  obtain⟨u1,ae,ai⟩:=rv.get (Pj l1);obtain⟨u2,ah,am⟩:=Y.get (Pj l2);rw[ak]at ae;cases ae;rw[aj]at ah;cases ah;have hf:H s.heap.objs.size=none:=I.hok.fresh (Pk _);have aa:∀c∈[z,TI,TO,i1,i2],FpOk X pins H c:=λc hc=>(fp c hc).of (j5 c hc);have kk:∀c o,c ∉ [z,TI,TO,i1,i2]->s.heap.get? c=some o->h'.get? c=some o:=λc o hc e=>by
   simp only[Pm,P6,or_false,not_or]at hc;exact a6 c o hc.1 hc.2.2.1 hc.2.2.2.1 hc.2.2.2.2 e
  have I2:=I.pairL (tk:=tk) (T:=s.heap.objs.size) (xs:=[xs[i],ys[i]]) (its:=[x,y]) aa kk (Pk _) (.cons ai (.cons am .nil)) (by show 2<=sizeLine;decide) ⟨_,a4,rfl,_,rfl⟩;have sm:Same H (upd H s.heap.objs.size (.tup [xs[i],ys[i]])):=Same.upd hf;have lt:∀{c o},s.heap.get? c=some o->c≠s.heap.objs.size:=λe=>P4 (Pt e);have nw:∀c∈[z,TI,TO,i1,i2],c≠s.heap.objs.size:=λc hc=>by
   simp only[Pm,P6,or_false]at hc;rcases hc with rfl|rfl|rfl|rfl|rfl
   ·obtain⟨_,e⟩:=j1.obj;exact lt e
   ·exact lt j2
   ·obtain⟨_,e⟩:=jT;exact lt e
   ·obtain⟨_,e,_⟩:=j3;exact lt e
   ·obtain⟨_,e,_⟩:=j4;exact lt e
  refine⟨_,.ref s.heap.objs.size,_,rfl,rfl,I2,⟨a1,⟨a6 _ _ D.TIz D.TITO D.TI1 D.TI2 j2,aT⟩,a2.1,a3.1,λc hc=>by rw[Ai (nw c hc)];exact j5 c hc,by simp[j6],λm y U=>?_,Z.trans sm⟩,λS us e=>sm S _ e⟩;by_cases hm:m<i
  ·rw[Qh (by lia)]at U;obtain⟨t,x,y',e1,e2,e3,e4⟩:=j7 m y U;exact⟨t,x,y',e1,e2,e3,sm _ _ e4⟩
  ·have ag:=(Pq.mp U).1;rw[Pr,Qg]at ag;have:m=i:=by lia
   subst this;rw[Qk (by lia),j6,Sf]at U;have U:V.ref s.heap.objs.size=y:=by simpa using U
   exact⟨_,xs[m],ys[m],U.symm,Pj l1,Pj l2,Ac⟩
 done:=λA s H zs E hh I j=>by
  obtain⟨j1,⟨j2,jT⟩,j3,j4,j5,j6,j7,Z⟩:=j;obtain⟨O,rv,p⟩:=I.zin (Z.sqZ ha);obtain⟨F,Y,p2⟩:=I.zin (Z.sqZ hb);have g1:=rv.length;have g2:=Y.length;have D1:=Mp (prog:=X.prog) (w:=X.w) (A:=A.in1) f hh i1 a D.a1 O.toArray;have D2:=Mp (prog:=X.prog) (w:=X.w) (A:=A.in1) gg hh i2 b D.b2 F.toArray;have aa:∀c∈[z,TI,TO,i1,i2],FpOk X pins H c:=λc hc=>(fp c hc).of (j5 c hc);refine Zm0 D1 D2 D.za j1 j2 ⟨j3,p⟩ ⟨j4,p2⟩ (by simp only[Po];lia) λh' tk kk=>⟨rfl,I.turnedL (λc o hc e=>?_) aa⟩;simp only[Pm,P6,or_false,not_or]at hc;exact kk c o hc.1 hc.2.2.1 hc.2.2.2.1 hc.2.2.2.2 e
section
variable {X:Cx}
def Zdo (f gg:Bool)(K:Ph)(ta:TA):TE:=λσ H Q=>ta σ H λvs H1=>eX4 λa b xs ys=>vs=[.ref a,.ref b]/\Gj f K H1 a xs/\Gj gg K H1 b ys /\
 ∀(S:Addr)(zs:List V)(H2:Hp),H1 S=none->Same H1 H2->zs.length=min xs.length ys.length->O2 H2 xs ys zs->H2 S=some (.lst zs)->Q (.ref S) H2
theorem Ztp (f gg:Bool)(K:Ph)(hg:Gl X "list")(hm:X.mg "list"=none)(hg2:Gl X "zip")(hm2:X.mg "zip"=none)(ha:QA X [e,e2] ta)(hK:autoParam (X.K=K) zX)(hc:autoParam (X.calm=true) zX)(hs:autoParam (starEach [.Call (.Name "zip" p2) [e,e2] [] pos2] X.env=[(false,eval (.Call (.Name "zip" p2) [e,e2] [] pos2) X.env)]) zX)(hs2:autoParam (starEach [e,e2] X.env=[(false,eval e X.env),(false,eval e2 X.env)]) zX)(hs3:autoParam (starEach [e2] X.env=[(false,eval e2 X.env)]) zX) :
  QE X (.Call (.Name "list" p) [.Call (.Name "zip" p2) [e,e2] [] pos2] [] pos) (Zdo f gg K ta):=by
 subst hK;refine⟨λpins s σ H Q I h=>?_⟩;refine Call_ (Ef I hg hm Zaw (Rg ?_ hs rfl));rw[hs];show wpAny _ _ (spliced ((false,eval (.Call (.Name "zip" p2) [e,e2] [] pos2) X.env)::[])) _ _ s;refine Sk ?_;refine Call_ (Ef I hg2 hm2 PyProof.Rows.boot_zip (Rg (Ap (ha.run pos2 pins s σ H _ I h) λus F ⟨vs,H1,Y,r1,q1⟩=>?_) (by rw[hs2,hs3]) (by rw[hs3];rfl)));obtain⟨a,b,xs,ys,e1,hq,O,q⟩:=q1;subst e1;obtain⟨u,v,rfl,ru,rv⟩:=r1.two;cases ru;cases rv;obtain⟨aj,rv,pl⟩:=Y.zin hq;obtain⟨ai,al,Z⟩:=Y.zin O;have ak:=Y.zsz O;have ag:a<F.heap.objs.size:=pl.lt;have ah:b<F.heap.objs.size:=Z.lt;refine Zem pl Z λh' a1 a2 a3 a4 a5 a6 hk=>?_;refine Te ?_;have fr:∀k,FpOk X pins H1 (F.heap.objs.size+k):=λk=>Y.fpOk (Th _ _) (Y.hok.fresh (Th _ _));have fp:∀c∈[F.heap.objs.size+4,F.heap.objs.size+2,F.heap.objs.size+3,F.heap.objs.size,F.heap.objs.size+1],FpOk X pins H1 c:=λc hc=>by
  simp only[Pm,P6,or_false]at hc;rcases hc with rfl|rfl|rfl|rfl|rfl
  ·exact fr 4
  ·exact fr 2
  ·exact fr 3
  ·exact fr 0
  ·exact fr 1
 have C:=Zrh (X:=X) (pins:=pins) (σ:=σ) (H0:=H1) fp (Zje ag ah) hq O;have I2:Inv X pins σ H1 { F with heap:=h' }:=Y.kept (t':=F.toks) hk;refine Zad C (by lia) (Y.ok.hd hc) I2 ⟨.inl ⟨rfl,a1,_,_,a3⟩,⟨a2,_,a3⟩,a4,a5,λc hc=>(fp c hc).1,rfl,λj y hy=>by simp at hy,Same.refl _⟩ (λS U hS h2 k2=>?_) λS H' zs hS ae aa hj=>?_
 ·have sm:Same H1 (upd H1 S (.lst [])):=Same.upd hS;refine⟨.inl ⟨rfl,k2 _ _ a1,_,_,k2 _ _ a3⟩,⟨k2 _ _ a2,_,k2 _ _ a3⟩,a4.at λo e=>k2 _ _ e,a5.at λo e=>k2 _ _ e,λc hc=>?_,rfl,λj y hy=>by simp at hy,sm⟩;have U:h'.objs.size<=S:=U;rw[Ai (show c≠S from λz=>?_)]
  ·exact(fp c hc).1
  ·simp only[Pm,P6,or_false]at hc;rcases hc with rfl|rfl|rfl|rfl|rfl <;> exact absurd z (P4 (Qa (by lia) U))
 ·obtain⟨h,j⟩:=hj;exact q S zs H' hS j.2.2.2.2.2.2.2 aa j.2.2.2.2.2.2.1 ae
end
theorem Zmx:∀(xs ys:List Int),((Pn (min xs.length ys.length)).all (λj=>xs.getD j 0 == ys.getD j 0) && xs.length == ys.length)=decide (xs=ys):=by
 intro xs ys;rw[So,R3,Sa,beq_iff_eq,decide_eq_true_iff];constructor
 ·rintro⟨h1,h2⟩;apply Ww h2;intro i F I;have:=h1 i (Q0.mpr (by lia));rw[beq_iff_eq,Qm,Qm,Pj F,Pj I]at this;exact this
 ·rintro rfl;exact⟨λj _=>by simp,rfl⟩
section
variable {X:Cx}
end
section
variable {X:Cx}
end
section
variable {X:Cx}{pins:List (Addr×Obj)}{σ:St}{H:Hp}{s:Shared}
end
section
variable {P:Program}{w:World}{K:Ph}{mg:Str->Option Value}{base:Heap}{N:List Str}{qual:Str}{scope:Scope}{f:Addr}{cd:Value}{A:Around}{outer:List Env}{s0:Shared}{H0:Hp}{E:XK}
end
section
variable {P:Program}{w:World}{K:Ph}{mg:Str->Option Value}{base:Heap}
end
section
variable {X:Cx}{k:Nat}{x:Str}{ps:List Str}{sp:Sp}{p pos np cpos:Pos}{e:Expr}{es:List Expr}{t:TA}{E:XK}
end
section
variable {X:Cx}{pins:List (Addr×Obj)}{σ:St}{H:Hp}{s:Shared}
end
section
variable {X:Cx}{k:Nat}{x:Str}{ps:List Str}{sp:Sp}{p pos np cpos:Pos}{e:Expr}{es:List Expr}{t:TA}
end
section
variable {X:Cx}{pins:List (Addr×Obj)}{σ:St}{H:Hp}{s:Shared}
end
section
variable {X:Cx}{c n:Str}{np hpos pos:Pos}{body hbody:List Stmt}{b₀:Stmt}{tb:TXS}{th:TS}{i:Nat}{C:Addr}
end
section
open PySem.W PySem.Builtin PySem.Builtin.ObjectAttr
variable {prog:Program}{w:World}{A:Around}{E:Value->Shared->Prop}{s:Shared}{K:Frag}{x C:Addr}{ox:Obj}{od:Option Obj}{name:Str}{R:Result->Shared->Prop}
end
section
variable {X:Cx}{pins:List (Addr×Obj)}{σ:St}{H:Hp}{s:Shared}
end
section
variable {X:Cx}{pins:List (Addr×Obj)}{σ:St}{H:Hp}{s:Shared}{a C:Addr}{f:Str}{A:Around}{E:Value->Shared->Prop}
open PySem.W PySem.Builtin PySem.Builtin.ObjectAttr
end
section
variable {X:Cx}{o e value:Expr}{f:Str}{pos pos':Pos}{ta tv:TE}
end
section
open PySem.W
end
section
variable {prog:Program}{w:World}{A:Around}{E:Value->Shared->Prop}{h:Heap}{g:Array GenState}{d:Drawn}{t:Nat}{os:OsState}
variable {nm q:Str}{C N:Addr}{bs bm bmB:List Value}{hdct:Bool}{sn:List Str}{sub:List Value}{ab:Bool}{col:Option Bool}{dd:Option Addr}{k0 k1 k2 k3 k5:Option Value}{B Bn newId nid initId inN:String}{bmN:List Value}
end
section
variable {X:Cx}{k:Nat}{x:Str}{sp:Sp}{ps:List Str}{C f:Addr}{fd:FuncData}{np cpos pos:Pos}{a:Expr}{t:TA}{E:XK}
end
section
variable {P:Program}{w:World}{K:Ph}{mg:Str->Option Value}{base:Heap}
end
section
variable {X:Cx}{k:Nat}{x:Str}{ps:List Str}{sp:Sp}{p pos:Pos}{e:Expr}{es:List Expr}{t:TA}
end
section
open PySem.W PySem.Builtin PySem.Builtin.ObjectAttr
variable {prog:Program}{w:World}{A:Around}{E:Value->Shared->Prop}{s:Shared}{K:Frag}{x D:Addr}{ox:Obj}{od:Option Obj}
end
section
variable {X:Cx}{pins:List (Addr×Obj)}{σ:St}{H:Hp}{s:Shared}{a C':Addr}{od:Option Addr}
end
section
variable {X:Cx}
def rEqI (K:Ph):R2:=λx y H Q=>eX4 λ(a c:Addr)(xs ys:List Int)=>x=.ref a/\y=.ref c/\SqT K H a (xs.map V.int)/\SqT K H c (ys.map V.int)/\Q (.bl (decide (xs=ys))) H
theorem Zrd (hu:X.A.units+200<cLine):OpR X (compareOp .Eq) (rEqI X.K):=by
 intro pins s σ H x y v u Q I rx ry h;obtain⟨a,c,xs,ys,rfl,rfl,hx,hy,q⟩:=h;cases rx;cases ry;obtain⟨O,r1,p1,_⟩:=I.tuple hx;obtain⟨F,r2,p2,_⟩:=I.tuple hy;obtain⟨U,Y,f1⟩:=Zbf r1;obtain⟨vs,Z,f2⟩:=Zbf r2;have l1:U.length=xs.length:=by rw[<- f1,Pp]
 have l2:vs.length=ys.length:=by rw[<- f2,Pp]
 refine SeqAt.eq_tupleAt (e:=λj=>xs.getD j 0 == ys.getD j 0) (show s.heap.IsTuple a O.toArray from p1) (show s.heap.IsTuple c F.toArray from p2) (by lia) (λj h1 h2=>?_) ?_
 ·subst Y Z;simp only[Po,Pp]at h1 h2;have g1:xs.getD j 0=U[j].1:=by rw[<- f1,Qm,Qf,Pj h1];rfl
  have g2:ys.getD j 0=vs[j].1:=by rw[<- f2,Qm,Qf,Pj h2];rfl
  rw[g1,g2];simp only[List.getElem_toArray,Vk];exact Ve _ _ _ _
 ·have e:((Pn (min O.toArray.size F.toArray.size)).all (λj=>xs.getD j 0 == ys.getD j 0) && O.toArray.size == F.toArray.size)=decide (xs=ys):=by
   have z1:O.toArray.size=xs.length:=by rw[Po,Y,Pp,l1]
   have z2:F.toArray.size=ys.length:=by rw[Po,Z,Pp,l2]
   rw[z1,z2,Zmx]
  rw[e];exact⟨.bl _,H,I,rfl,q⟩
def rEqB (K:Ph):R2:=λx y H Q=>Mr K x y H Q\/rEqI K x y H Q
theorem Zoy (K:Ph)(hu:X.A.units+200<cLine)(hK:autoParam (X.K=K) zX):OpR X (compareOp .Eq) (rEqB K):=by subst hK;exact(Zgy hu).or (Zrd hu)
theorem Zum {K:Ph}{a c:Addr}{xs ys:List Int}{H:Hp}{Q:VK}(hx:SqT K H a (xs.map V.int))(hy:SqT K H c (ys.map V.int))(h:Q (.bl (decide (xs=ys))) H):rEqB K (.ref a) (.ref c) H Q:=.inr ⟨a,c,xs,ys,rfl,rfl,hx,hy,h⟩
end
end L2
namespace L2
open PySem
inductive Fe:Dt->Prop where
 |flat (v:V):Fe (.flat v)
 |tup {ds:List Dt} (l:ds.length<=5000) (h:∀d∈ds,Fe d):Fe (.tup ds)
 |lst {ds:List Dt} (l:ds.length<=5000) (h:∀d∈ds,Fe d):Fe (.lst ds)
theorem Zk7 {K:Ph}{H:Hp}{n:Nat}{p:Addr}{pl:List Int}(q:SqT K H p (pl.map V.int)):IsD K H (n+1) (.ref p) (.tup (pl.map λi=>.flat (.int i))):=by
 refine .tup q (by simp) λj v d h1 h2=>?_;rw[Qf]at h1 h2;obtain⟨k,F,rfl⟩:=Option.map_eq_some_iff.mp h1;rw[F]at h2;cases h2;exact .flat rfl
section
variable {g:TG}{tt:TT}{te:TE}{σ0:St}{H1:Hp}{D:Addr}{Q:VK}
end
end L2
namespace L2
open PySem PySem.Spec PyProof.Rows
section
variable {X:Cx}
end
section
variable {prog:Program}{w:World}{A:Around}{E:Value->Shared->Prop}{s:Shared}
end
section
variable {X:Cx}
end
section
variable {g:TG}{tt:TT}{te:TE}{σ0:St}{H1:Hp}{D:Addr}{Q:VK}
end
section
variable {X:Cx}
open PySem.Builtin PySem.Builtin.Str in
end
section
variable {prog:Program}{w:World}{A:Around}{E:Value->Shared->Prop}{s:Shared}
end
section
variable {X:Cx}
end
section
variable {X:Cx}{k:Nat}{x:Str}{ps:List Str}{sp:Sp}{p pos:Pos}
end
section
variable {X:Cx}{k:Nat}{x m:Str}{ps:List Str}{sp:Sp}{E:XK}{C:Addr}{p pos apos:Pos}{e o:Expr}{es:List Expr}{ta:TE}{t:TA}{CX:Eb}{P:Program}{w:World}{mg:Str->Option Value}{base:Heap}
end
section
variable {X:Cx}{e o value:Expr}{f:Str}{pos pos':Pos}{ta tv:TE}{pins:List (Addr×Obj)}{σ:St}{H:Hp}{s:Shared}
end
section
variable {X:Cx}{pins:List (Addr×Obj)}{σ:St}{H:Hp}{s:Shared}
end
section
variable {P:Program}{w:World}{K:Ph}{mg:Str->Option Value}{base:Heap}
end
section
variable {X:Cx}{k:Nat}{x:Str}{ps ks:List Str}{gV:List V->List V->List V}{sp:Sp}{E:XK}{C:Addr}{p pos kpos:Pos}{e:Expr}{es:List Expr}{kws:List Keyword}{te:TE}{t tk:TA}{CX:Eb}{nm:Option Str}{f:Addr}{fd:FuncData}{g:List Value->List Value->List Value}
end
section
variable {X:Cx}{pins:List (Addr×Obj)}{σ:St}{H:Hp}{s:Shared}
end
section
variable {κ:Type}[DecidableEq κ]
noncomputable def Bw (kvs:List (κ×V))(k:κ):Option V:=(kvs.find? λF=>decide (F.1=k)).map (·.2)
noncomputable def Bp (kvs:List (κ×V))(k:κ)(v:V):List (κ×V) :=
 if (kvs.any λF=>decide (F.1=k))=true then kvs.map (λF=>if F.1=k then (F.1,v) else F) else kvs++[(k,v)]
theorem E9 {p:κ×V}{r:List (κ×V)}{k:κ}(e:p.1=k):Bw (p::r) k=some p.2:=by simp[Bw,Tk,e]
theorem E8 {p:κ×V}{r:List (κ×V)}{k:κ}(e:¬p.1=k):Bw (p::r) k=Bw r k:=by simp[Bw,Tk,e]
theorem Ni (k:κ):∀kvs:List (κ×V),(kvs.any λkv=>decide (kv.1=k))=(Bw kvs k).isSome
 |[]=>rfl
 |p::r=>by
  rw[Ut];by_cases e:p.1=k
  ·simp only[E9 e,decide_eq_true e,Bool.true_or,Option.isSome_some]
  ·rw[E8 e,decide_eq_false e,Bool.false_or];exact Ni k r
theorem Zhw (k j:κ)(y:V):∀kvs:List (κ×V),Bw (kvs.map λkv=>if kv.1=k then (kv.1,y) else kv) j=(Bw kvs j).map λx=>if j=k then y else x
 |[]=>rfl
 |p::r=>by
  have F:=Zhw k j y r;rw[Q3];by_cases h:p.1=k
  ·rw[if_pos h];by_cases e:p.1=j
   ·rw[E9 (p:=(p.1,y)) e,E9 e,Vp,if_pos (e.symm.trans h)]
   ·rw[E8 (p:=(p.1,y)) e,E8 e,F]
  ·rw[if_neg h];by_cases e:p.1=j
   ·rw[E9 (p:=p) e,E9 e,Vp,if_neg (λz=>h (e.trans z))]
   ·rw[E8 (p:=p) e,E8 e,F]
theorem Zho (k j:κ)(y:V):∀kvs:List (κ×V),Bw kvs k=none->Bw (kvs++[(k,y)]) j=if j=k then some y else Bw kvs j
 |[],_=>by
  by_cases e:k=j
  ·rw[if_pos e.symm];exact E9 (p:=(k,y)) e
  ·rw[if_neg (λz=>e z.symm)];exact E8 (p:=(k,y)) e
 |p::r,F=>by
  rw[Ru];have I:¬p.1=k:=λz=>by rw[E9 z]at F;cases F
  rw[E8 I]at F;have O:=Zho k j y r F;by_cases e:p.1=j
  ·rw[E9 e,E9 e,if_neg (λz=>I (e.trans z))]
  ·rw[E8 e,E8 e,O]
theorem Li (kvs:List (κ×V))(k j:κ)(y:V):Bw (Bp kvs k y) j=if j=k then some y else Bw kvs j:=by
 unfold Bp;by_cases a:(kvs.any λF=>decide (F.1=k))=true
 ·rw[if_pos a,Zhw];rw[Ni]at a;by_cases e:j=k
  ·obtain⟨x,I⟩:=Rz.mp a;rw[if_pos e,e,I,Vp,if_pos rfl]
  ·rw[if_neg e];cases Bw kvs j with
   |none=>rfl
   |some x=>rw[Vp,if_neg e]
 ·rw[if_neg a];refine Zho k j y kvs ?_;rw[Ni]at a;cases q:Bw kvs k with
  |none=>rfl
  |some x=>rw[q]at a;exact(a rfl).elim
theorem Et (kvs:List (κ×V))(k:κ)(v:V):(Bp kvs k v).length<=kvs.length+1:=by
 unfold Bp;split
 ·rw[Pp];lia
 ·rw[Pr,Pw,W1];lia
theorem RelO.isSome_eq (r:RelO o u):o.isSome=u.isSome:=by
 cases o with
 |none=>cases u with
  |none=>rfl
  |some _=>exact(show False from r).elim
 |some _=>cases u with
  |none=>exact(show False from r).elim
  |some _=>rfl
theorem RelO.getD (r:RelO o u)(rd:RelV d d'):RelV (o.getD d) (u.getD d'):=by
 cases o with
 |none=>cases u with
  |none=>exact rd
  |some _=>exact(show False from r).elim
 |some _=>cases u with
  |none=>exact(show False from r).elim
  |some _=>exact r
theorem KV.val (r:KV kvs vs)(k:κ):RelO (Bw kvs k) (valueAt vs k):=by
 unfold KV at r
 induction r with
 |nil=>exact True.intro
 | @cons p q ps I h t O =>
  obtain⟨h1,h2⟩:=h;by_cases e:p.1=k
  ·have F:q.1=k:=h1.symm.trans e;have b:valueAt (q::I) k=some q.2:=by simp[valueAt,Tk,F]
   rw[E9 e,b];exact h2
  ·have F:¬q.1=k:=λz=>e (h1.trans z);have b:valueAt (q::I) k=valueAt I k:=by simp[valueAt,Tk,F]
   rw[E8 e,b];exact O
theorem KV.any (r:KV kvs vs)(k:κ):(kvs.any λkv=>decide (kv.1=k))=vs.any λkv=>decide (kv.1=k):=by
 unfold KV at r
 induction r with
 |nil=>rfl
 |cons h t F=>rw[Ut,Ut,F,h.1]
theorem KV.repl (r:KV kvs vs)(k:κ)(ry:RelV y u) :
  KV (kvs.map λkv=>if kv.1=k then (kv.1,y) else kv) (vs.map λkv=>if kv.1=k then (kv.1,u) else kv):=by
 unfold KV at r ⊢
 induction r with
 |nil=>exact .nil
 | @cons p q ps I h t F =>
  rw[Q3,Q3];refine .cons ?_ F;obtain⟨h1,h2⟩:=h;by_cases e:p.1=k
  ·rw[if_pos e,if_pos (h1.symm.trans e)];exact⟨h1,ry⟩
  ·rw[if_neg e,if_neg (λz=>e (h1.trans z))];exact⟨h1,h2⟩
theorem KV.put (r:KV kvs vs)(k:κ)(ry:RelV y u):KV (Bp kvs k y) (stored vs k u):=by
 unfold Bp stored;rw[r.any k];by_cases e:(vs.any λF=>decide (F.1=k))=true
 ·rw[if_pos e,if_pos e];exact r.repl k ry
 ·rw[if_neg e,if_neg e];exact Paired.snoc r ⟨rfl,ry⟩
theorem KV.length (r:KV kvs vs):kvs.length=vs.length:=Ur r
end
theorem Hm (r:RelV (kV k) u):(C3 P w).is k u=true:=by
 cases k with
 |inl i=>obtain⟨t,e⟩:=(show ∃t,u=Value.int i t from r);subst e;exact Zmr P w i t
 |inr x=>obtain⟨t,e⟩:=(show ∃t,u=Value.str x t from r);subst e;exact Ztq P w x t
theorem Zd7:∀{ks:List Av}{us:List Value},Vals (ks.map kV) us->ItemsAre (C3 P w) ks us
 |[],_,r=>by rw[List.map_nil]at r;cases r;exact .nil
 |k::ks,_,r=>by
  rw[Q3]at r;cases r with
  |cons h t=>exact .cons (Hm h) (Zd7 t)
noncomputable abbrev KT (H:Hp):List (List Av×V)->List (List Av×Addr×Value)->Prop:=Paired λp q=>p.1=q.1/\H q.2.1=some (.tup (p.1.map kV))/\RelV p.2 q.2.2
theorem KT.val (r:KT H kvs xs)(k:List Av):RelO (Bw kvs k) ((atKey xs k).map (·.2)):=by
 induction r with
 |nil=>exact True.intro
 | @cons p q ps I h t O =>
  obtain⟨h1,_,h2⟩:=h;by_cases e:p.1=k
  ·have F:q.1=k:=h1.symm.trans e;have b:atKey (q::I) k=some q.2:=by simp[atKey,Tk,F]
   rw[E9 e,b];exact h2
  ·have F:¬q.1=k:=λz=>e (h1.trans z);have b:atKey (q::I) k=atKey I k:=by simp[atKey,Tk,F]
   rw[E8 e,b];exact O
theorem KT.repl (r:KT H kvs xs)(k:List Av)(ry:RelV y u) :
  KT H (kvs.map λkv=>if kv.1=k then (kv.1,y) else kv) (xs.map (putAt k u)):=by
 induction r with
 |nil=>exact .nil
 | @cons p q ps O h t F =>
  rw[Q3,Q3];refine .cons ?_ F;obtain⟨h1,h2,I⟩:=h;unfold putAt;by_cases e:p.1=k
  ·rw[if_pos e,if_pos (h1.symm.trans e)];exact⟨h1,h2,ry⟩
  ·rw[if_neg e,if_neg (λz=>e (h1.trans z))];exact⟨h1,h2,I⟩
theorem KT.put (r:KT H kvs xs)(k:List Av)(hb:H b=some (.tup (k.map kV)))(ry:RelV y u) :
  KT H (Bp kvs k y) (storedH xs k b u):=by
 have e:(kvs.any λF=>decide (F.1=k))=(atKey xs k).isSome:=by
  rw[Ni,(r.val k).isSome_eq,Wt]
 unfold Bp storedH;rw[e];by_cases q:(atKey xs k).isSome=true
 ·rw[if_pos q,if_pos q];exact r.repl k ry
 ·rw[if_neg q,if_neg q];exact Paired.snoc r ⟨rfl,hb,ry⟩
theorem KT.keeps (r:KT H kvs xs)(ht:∀b ys,H b=some (.tup ys)->H' b=some (.tup ys)):KT H' kvs xs :=
 Paired.mapP r λ_ _ z=>⟨z.1,ht _ _ z.2.1,z.2.2⟩
section
variable {P:Program}{w:World}{H:Hp}{h:Heap}{a:Addr}
theorem Zff (ok:HOk P w H h)(e:Rd H a u):ObjOk P w H h a u:=e.ok ok
theorem F3 (ok:HOk P w H h)(e:Rd H a (.dK kvs)):kvs.length<=sizeLine/\(a == sysModules)=false/\∃vs,KV kvs vs/\h.DictOf (C3 P w) a vs :=
 show ObjOk P w H h a (.dK kvs) from Zff ok e
theorem Zd0 (ok:HOk P w H h)(e:H a=some (.dK kvs)):kvs.length<=sizeLine/\(a == sysModules)=false/\∃vs,KV kvs vs/\h.DictOf (C3 P w) a vs:=F3 ok (.inl e)
theorem Hl (ok:HOk P w H h)(e:H a=some (.tup (ks.map kV))):(tupleKind (C3 P w)).is h ks a:=by
 obtain⟨_,F,r,o,h1,h2,n,I⟩:=(show ObjOk P w H h a (.tup (ks.map kV)) from ok a _ e);exact⟨o,F.toArray,n,h1,h2,I,by simpa using Zd7 r⟩
theorem Gz (ok:HOk P w H h)(e:Rd H a (.dT kvs)):kvs.length<=sizeLine/\(a == sysModules)=false /\
  ∃xs,KT H kvs xs/\h.DictOfH (tupleKind (C3 P w)) a xs:=by
 obtain⟨z,y,xs,r,o,es,Y,h1,h2,h3,Z,U⟩:=(show ObjOk P w H h a (.dT kvs) from Zff ok e);refine⟨z,y,xs,r,o,es,Y,h1,h2,h3,Z,λx F=>?_,U⟩;have all:∀{l:List (List Av×V)}{m:List (List Av×Addr×Value)},KT H l m->∀x∈m,(tupleKind (C3 P w)).is h x.1 x.2.1:=by
  intro l m q
  induction q with
  |nil=>intro x F;exact nomatch F
  | @cons p q ps qs I t O =>
   intro x F;rcases Pm.mp F with e|F
   ·subst e;exact Hl ok (by rw[<- I.1];exact I.2.1)
   ·exact O x F
 exact all r x F
theorem Zfk (ok:HOk P w H h)(e:H a=some (.dT kvs)):kvs.length<=sizeLine/\(a == sysModules)=false /\
  ∃xs,KT H kvs xs/\h.DictOfH (tupleKind (C3 P w)) a xs:=Gz ok (.inl e)
end
def DGet (H:Hp)(a:Addr)(y:V)(r:Option V):Prop :=
 (∃kvs k,Rd H a (.dK kvs)/\y=kV k/\r=Bw kvs k)\/eX3 λkvs k b=>Rd H a (.dT kvs)/\y=.ref b/\H b=some (.tup (k.map kV))/\r=Bw kvs k
def DPut (H:Hp)(a:Addr)(y v:V)(H':Hp):Prop :=
 (∃kvs k,H a=some (.dK kvs)/\y=kV k/\kvs.length<sizeLine/\H'=upd H a (.dK (Bp kvs k v))) \/
 eX3 λkvs k b=>H a=some (.dT kvs)/\y=.ref b/\H b=some (.tup (k.map kV))/\kvs.length<sizeLine/\H'=upd H a (.dT (Bp kvs k v))
theorem DGet.k {H:Hp}{a:Addr}{kvs:List (Av×V)}{k:Av}(e:H a=some (.dK kvs)):DGet H a (kV k) (Bw kvs k):=.inl ⟨kvs,k,.inl e,rfl,rfl⟩
theorem DGet.t {H:Hp}{a b:Addr}{kvs:List (List Av×V)}{k:List Av}(e:H a=some (.dT kvs))(eb:H b=some (.tup (k.map kV))):DGet H a (.ref b) (Bw kvs k):=.inr ⟨kvs,k,b,.inl e,rfl,eb,rfl⟩
theorem DPut.k {H:Hp}{a:Addr}{kvs:List (Av×V)}{k:Av}{v:V}(e:H a=some (.dK kvs))(hl:kvs.length<sizeLine):DPut H a (kV k) v (upd H a (.dK (Bp kvs k v))):=.inl ⟨kvs,k,e,rfl,hl,rfl⟩
theorem DPut.t {H:Hp}{a b:Addr}{kvs:List (List Av×V)}{k:List Av}{v:V}(e:H a=some (.dT kvs))(eb:H b=some (.tup (k.map kV)))(hl:kvs.length<sizeLine) :
  DPut H a (.ref b) v (upd H a (.dT (Bp kvs k v))):=.inr ⟨kvs,k,b,e,rfl,eb,hl,rfl⟩
section
variable {X:Cx}{pins:List (Addr×Obj)}{σ:St}{H:Hp}{s:Shared}{a:Addr}{y v:V}{u r:Value}{o:Option V}{A:Around}{E:Value->Shared->Prop}
theorem Inv.big (I:Inv X pins σ H s):sysModules<s.heap.objs.size:=by
 have h:mainGlobals<s.heap.objs.size:=(I.mod.glob.keeps I.bk).lt;exact Nat.lt_trans (by decide) h
theorem Zrn (hu:A.units+1<cLine)(I:Inv X pins σ H s)(g:DGet H a y (some v))(ry:RelV y u)(h:∀w' s',Inv X pins σ H s'->RelV v w'->Q w' s') :
  wpAny (model X.prog X.w) A (getItem (.ref a) u) Q E s:=by
 rcases g with⟨kvs,k,e,U,l⟩|⟨kvs,k,b,e,U,eb,l⟩
 ·subst U;obtain⟨z,hd,vs,O,dd⟩:=F3 I.hok e;obtain⟨w',Z,F⟩:=RelO.some_of (v:=v) (o:=valueAt vs k) (by rw[l];exact O.val k);exact wpAny_getItem_of (Hm ry) dd.mapOf Z (h w' _ (I.tok _) F)
 ·subst U;cases (show u=Value.ref b from ry);obtain⟨z,hd,xs,O,dd⟩:=Gz I.hok e;obtain⟨w',Z,F⟩:=RelO.some_of (v:=v) (o:=(atKey xs k).map (·.2)) (by rw[l];exact O.val k);obtain⟨p,hp,Y⟩:=Option.map_eq_some_iff.mp Z;refine wpAny_getItem_heap (Tc hu) (Hl I.hok eb) dd hp ?_;rw[Y];exact h w' _ (I.tok _) F
theorem d_in (hu:A.units+1<cLine)(I:Inv X pins σ H s)(g:DGet H a y o)(ry:RelV y u)(h:∀s',Inv X pins σ H s'->Q (.bool o.isSome) s') :
  wpAny (model X.prog X.w) A (compareOp .In u (.ref a)) Q E s:=by
 rcases g with⟨kvs,k,e,O,l⟩|⟨kvs,k,b,e,O,U,l⟩
 ·subst O;obtain⟨z,hd,vs,F,dd⟩:=F3 I.hok e;refine wpAny_in_of (Hm ry) hd dd.mapOf ?_;rw[<- (F.val k).isSome_eq,<- l];exact h _ (I.tok _)
 ·subst O;cases (show u=Value.ref b from ry);obtain⟨z,hd,xs,F,dd⟩:=Gz I.hok e;refine wpAny_in_heap (Tc hu) (Hl I.hok U) hd dd ?_;have q:=(F.val k).isSome_eq;rw[Wt]at q;rw[<- q,<- l];exact h _ (I.tok _)
theorem Zj2 (hu:A.units+1<cLine)(I:Inv X pins σ H s)(g:DGet H a y o)(ry:RelV y u)(h:∀s',Inv X pins σ H s'->Q (.bool (!o.isSome)) s') :
  wpAny (model X.prog X.w) A (compareOp .NotIn u (.ref a)) Q E s:=by
 rcases g with⟨kvs,k,e,O,l⟩|⟨kvs,k,b,e,O,U,l⟩
 ·subst O;obtain⟨z,hd,vs,F,dd⟩:=F3 I.hok e;refine wpAny_notIn_of (Hm ry) hd dd.mapOf ?_;rw[<- (F.val k).isSome_eq,<- l];exact h _ (I.tok _)
 ·subst O;cases (show u=Value.ref b from ry);obtain⟨z,hd,xs,F,dd⟩:=Gz I.hok e;refine wpAny_notIn_heap (Tc hu) (Hl I.hok U) hd dd ?_;have q:=(F.val k).isSome_eq;rw[Wt]at q;rw[<- q,<- l];exact h _ (I.tok _)
theorem My (I:Inv X pins σ H s)(mu:Mut (H a))(hs:P7 a s.heap h')(he:∃q,h'.get? a=some q)(new:ObjOk X.prog X.w (upd H a ob) h' a ob) :
  Inv X pins σ (upd H a ob) { s with heap:=h',toks:=t' } :=
 I.write (x:=a) (e:=a) mu (.inl rfl) (λb q hb z=>(hs.2 b hb).trans z) he new
theorem Zbq (z:kvs.length<=sizeLine)(hd:(a == sysModules)=false)(rel:KV kvs vs)(dd:h'.DictOf (C3 P w) a vs) :
  ObjOk P w H' h' a (.dK kvs):=⟨z,hd,vs,rel,dd⟩
theorem Zr2 (hu:A.units+1<cLine)(I:Inv X pins σ H s)(g:DPut H a y v H')(ry:RelV y u)(rv:RelV v r)(h:∀s',Inv X pins σ H' s'->Q () s') :
  wpAny (model X.prog X.w) A (setItem (.ref a) u r) Q E s:=by
 rcases g with⟨kvs,k,e,Y,l,Z⟩|⟨kvs,k,b,e,Y,eb,l,Z⟩
 ·subst Y Z;obtain⟨z,hd,vs,F,dd⟩:=Zd0 I.hok e;have hz:vs.length<=sizeLine:=by rw[<- F.length];exact z
  have hl:(Bp kvs k v).length<=sizeLine:=by have:=Et kvs k v;lia
  refine wpAny_setItem_pairs (hsz:=hz) (Hm ry) dd λh' O hs=>h _ ?_;have he:∃q,h'.get? a=some q:=let ⟨q,_,_,U,_⟩:=O;⟨q,U⟩;exact My I (by rw[e];exact True.intro) hs he (Zbq hl hd (F.put k rv) O)
 ·subst Y Z;cases (show u=Value.ref b from ry);obtain⟨z,hd,xs,F,dd⟩:=Zfk I.hok e;have hz:xs.length<=sizeLine:=by rw[<- Ur F];exact z
  have hl:(Bp kvs k v).length<=sizeLine:=by have:=Et kvs k v;lia
  refine wpAny_setItem_heap (hsz:=hz) (Tc hu) (Hl I.hok eb) dd λh' O hs=>h _ ?_;obtain⟨q,es,ep,U,h2,h3,h4,_,h5⟩:=O;refine My I (by rw[e];exact True.intro) hs ⟨q,U⟩ ⟨hl,hd,_,(F.put k eb rv).keeps λc ys ec=>?_,q,es,ep,U,h2,h3,h4,h5⟩;rw[Ai (Fs ec e (λz=>nomatch z))];exact ec
end
section
variable {X:Cx}{pins:List (Addr×Obj)}{σ:St}{H:Hp}{s:Shared}{a:Addr}{kvs:List (Av×V)}{k:Av}{u:Value}{A:Around}{E:Value->Shared->Prop}
end
def Zc3 (i:Expr):Prop:=∀ov iv,subscripted i false ov iv=operate [ov,iv] (getItem ov iv)
theorem Zle {prog:Program}{w:World}{A:Around}{E:Value->Shared->Prop}{s:Shared}{env:Env}{value slice:Expr}{pos:Pos}{T id:String}{Q:Value->Shared->Prop}
  (hl:typeLookup (.type T) "__getitem__"=pure (some (.builtin id))) (hs:Zc3 slice)
  (h:wpAny (model prog w) A (eval value env) (λo s₁=>wpAny (model prog w) A (eval slice env) (λi s₂=>s₂.TypeIs o T/\wpAny (model prog w) A (getItem o i) Q E s₂) E s₁) E s) :
  wpAny (model prog w) A (eval (.Subscript value slice pos) env) Q E s:=by
 refine Subscript_ (Ts h (λo s₁ O=>Ts O (λi s₂ F=>?_) λ_ _ x=>x) λ_ _ x=>x);obtain⟨Y,F⟩:=F;unfold subscriptTail;refine Pi ?_;rw[getitemInPython_of_ne Y.not_modules];refine Pi (Uk Y hl ?_);have fin:wpAny (model prog w) A (subscripted slice false o i) (λr I=>wpAny (model prog w) A (letTemporaryGo value o r >>= λ_=>pure r) Q E I) E s₂:=by
  rw[hs o i];exact wpAny_operating (Ts F (λr I U=>Pi (wpAny_letTemporaryGo (Pl U))) λ_ _ x=>x)
 first
  |exact Pl (Pi fin)
  |exact Pi (Pl (Pi fin))
  |exact Pi fin
theorem Zj9 (I:Inv X pins σ H s)(g:DGet H a y o):s.TypeIs (.ref a) "dict":=by
 rcases g with⟨kvs,k,e,_,_⟩|⟨kvs,k,b,e,_,_,_⟩
 ·obtain⟨_,_,vs,_,dd⟩:=F3 I.hok e;exact dd.typeIs
 ·obtain⟨_,_,xs,_,dd⟩:=Gz I.hok e;exact dd.typeIs
def Zcv (td ty:TE):TE:=λσ H Q=>td σ H λx H1=>ty σ H1 λy H2=>∃a v,x=.ref a/\DGet H2 a y (some v)/\Q v H2
def Zap (ty td:TE):TE:=λσ H Q=>ty σ H λy H1=>td σ H1 λx H2=>∃a o,x=.ref a/\DGet H2 a y o/\Q (.bl o.isSome) H2
def Zco (ty td:TE):TE:=λσ H Q=>ty σ H λy H1=>td σ H1 λx H2=>∃a o,x=.ref a/\DGet H2 a y o/\Q (.bl (!o.isSome)) H2
def Zat (td ty tv:TE):TS:=λD σ H=>tv σ H λv H1=>td σ H1 λx H2=>ty σ H2 λy F=>∃a H4,x=.ref a/\DPut F a y v H4/\D.nx σ H4
section
variable {X:Cx}{o i e value:Expr}{pos pos' tpos:Pos}{td ty tv:TE}
end
theorem Zkt (h:Heap)(hb:sysModules<h.objs.size):ObjOk P w H (h.push { cls:=.type "dict",data:=.dict #[] }) h.objs.size (.dK []) :=
 ⟨P8 _,beq_eq_false_iff_ne.mpr (Ql (P4 hb)),[],.nil,Heap.DictOf.new h⟩
theorem Ze3 (h:Heap)(hb:sysModules<h.objs.size):ObjOk P w H (h.push { cls:=.type "dict",data:=.dict #[] }) h.objs.size (.dT []) :=
 ⟨P8 _,beq_eq_false_iff_ne.mpr (Ql (P4 hb)),[],.nil,_,#[],0,Qe _ rfl,⟨rfl,rfl,rfl⟩,rfl,rfl,Vq⟩
def Zd9:TE:=λ_ H Q=>∀p,H p=none->Q (.ref p) (upd H p (.dK []))
def Zgr:TE:=λ_ H Q=>∀p,H p=none->Q (.ref p) (upd H p (.dT []))
section
variable {X:Cx}{pos:Pos}
end
structure M1 (X:Cx)(o:Expr)(m:Str)(apos:Pos)(e:Expr)(cpos:Pos):Prop where
 base:attributeBase o m X.env (eval o X.env)=eval o X.env
 few:((backTo cpos (starEach [e] X.env)).all (λx=>!x.1) && (backToKw cpos (keywordEach [] X.env)).all (λx=>x.1.isSome)
  && decide (([e]:List Expr).length+([]:List Keyword).length+(if ([]:List Keyword).isEmpty then 0 else 1)<30))=true
 line:(apos.endLine == cpos.line)=true
 trees:backTo cpos (starEach [e] X.env)=[(false,eval e X.env)]
structure M2 (X:Cx)(o:Expr)(m:Str)(apos:Pos)(e f:Expr)(cpos:Pos):Prop where
 base:attributeBase o m X.env (eval o X.env)=eval o X.env
 few:((backTo cpos (starEach [e,f] X.env)).all (λx=>!x.1) && (backToKw cpos (keywordEach [] X.env)).all (λx=>x.1.isSome)
  && decide (([e,f]:List Expr).length+([]:List Keyword).length+(if ([]:List Keyword).isEmpty then 0 else 1)<30))=true
 line:(apos.endLine == cpos.line)=true
 trees:backTo cpos (starEach [e,f] X.env)=[(false,eval e X.env),(false,eval f X.env)]
def DcD (H:Hp)(a:Addr):Prop:=(∃kvs,Rd H a (.dK kvs))\/∃kvs,Rd H a (.dT kvs)
theorem Zic (I:Inv X pins σ H s)(d:DcD H a) :
  s.TypeIs (.ref a) "dict"/\(∀b,Value.ref a=.ref b->∃ob,s.heap.get? b=some ob/\ob.dict=none)/\(a == sysModules)=false:=by
 rcases d with⟨kvs,e⟩|⟨kvs,e⟩
 ·obtain⟨_,hd,vs,_,dd⟩:=F3 I.hok e;refine⟨dd.typeIs,λb q=>?_,hd⟩;cases q;obtain⟨ob,_,_,h1,h2,_⟩:=dd;exact⟨ob,h1,h2.2.1⟩
 ·obtain⟨_,hd,xs,_,dd⟩:=Gz I.hok e;refine⟨dd.typeIs,λb q=>?_,hd⟩;cases q;obtain⟨ob,_,_,h1,h2,_⟩:=dd;exact⟨ob,h1,h2.2.1⟩
section
variable {X:Cx}{pins:List (Addr×Obj)}{σ:St}{H:Hp}{s:Shared}{a:Addr}{y d:V}{u r:Value}{o:Option V}{A:Around}{E:Value->Shared->Prop}
theorem Zkh (hu:A.units+1<cLine)(I:Inv X pins σ H s)(g:DGet H a y o)(ry:RelV y u)(h:∀w' s',Inv X pins σ H s'->RelV (o.getD .non) w'->Q w' s') :
  wpAny (model X.prog X.w) A (call (.builtin "dict.get") [.ref a,u]) Q E s:=by
 rcases g with⟨kvs,k,e,U,l⟩|⟨kvs,k,b,e,U,Y,l⟩
 ·subst U;obtain⟨z,hd,vs,O,dd⟩:=F3 I.hok e;refine V1 Tb dd.typeIs Va (PySem.F.args_dict_get_2 _ _) (meets_dict_get (C3 X.prog X.w) a (Hm ry) hd) ⟨_,dd.mapOf,h _ _ (I.tok _) ?_⟩;rw[l];exact(O.val k).getD rfl
 ·subst U;cases (show u=Value.ref b from ry);obtain⟨z,hd,xs,O,dd⟩:=Gz I.hok e;refine V1 Tb dd.typeIs Va (PySem.F.args_dict_get_2 _ _) (meetsH_dict_get (tupleKind (C3 X.prog X.w)) a b hd) ⟨Tc hu,k,xs,Hl I.hok Y,dd,h _ _ (I.tok _) ?_⟩;rw[l];exact(O.val k).getD rfl
theorem Zju (hu:A.units+1<cLine)(I:Inv X pins σ H s)(g:DGet H a y o)(ry:RelV y u)(rd:RelV d r)(h:∀w' s',Inv X pins σ H s'->RelV (o.getD d) w'->Q w' s') :
  wpAny (model X.prog X.w) A (call (.builtin "dict.get") [.ref a,u,r]) Q E s:=by
 rcases g with⟨kvs,k,e,U,l⟩|⟨kvs,k,b,e,U,Y,l⟩
 ·subst U;obtain⟨z,hd,vs,O,dd⟩:=F3 I.hok e;refine V1 Tb dd.typeIs Va (PySem.F.args_dict_get_3 _ _ _) (meets_dict_get_default (C3 X.prog X.w) a (Hm ry) hd r) ⟨_,dd.mapOf,h _ _ (I.tok _) ?_⟩;rw[l];exact(O.val k).getD rd
 ·subst U;cases (show u=Value.ref b from ry);obtain⟨z,hd,xs,O,dd⟩:=Gz I.hok e;refine V1 Tb dd.typeIs Va (PySem.F.args_dict_get_3 _ _ _) (meetsH_dict_get_default (tupleKind (C3 X.prog X.w)) a b hd r) ⟨Tc hu,k,xs,Hl I.hok Y,dd,h _ _ (I.tok _) ?_⟩;rw[l];exact(O.val k).getD rd
end
def Zbz (td ty:TE):TE:=λσ H Q=>td σ H λx H1=>∃a,x=.ref a/\DcD H1 a/\ty σ H1 λy H2=>∃o,DGet H2 a y o/\Q (o.getD .non) H2
def Zb5 (td ty tx:TE):TE:=λσ H Q=>td σ H λx H1=>∃a,x=.ref a/\DcD H1 a/\ty σ H1 λy H2=>tx σ H2 λz F=>∃o,DGet F a y o/\Q (o.getD z) F
section
variable {X:Cx}{o e f:Expr}{apos cpos:Pos}{td ty tx:TE}
theorem Znf (hu:X.A.units+1<cLine)(ho:PE X o td)(he:PE X e ty)(m:M1 X o "get" apos e cpos):PE X (.Call (.Attribute o "get" apos) [e] [] cpos) (Zbz td ty):=by
 intro pins s σ H Q I h;refine wpAny_Call_method m.base m.few m.line PySem.F.plainAttrs_dict Tb PySem.F.type_dict_get (Ap (ho pins s σ H _ I h) λu s1 O=>?_);obtain⟨x,H1,Y,rx,a,ex,d,q1⟩:=O;subst ex;obtain rfl:u=Value.ref a:=rx;obtain⟨t1,Z,_⟩:=Zic Y d;refine⟨t1,Z,?_⟩;rw[m.trees];refine U8 rfl (Wb (Sk (Ap (he pins s1 σ H1 _ Y q1) λiv s2 O=>?_)));obtain⟨y,H2,I2,ry,ov,g,q2⟩:=O;refine Te ?_;exact Zkh hu I2 g ry λw' s3 I3 U=>⟨_,H2,I3,U,q2⟩
theorem Zpa (hu:X.A.units+1<cLine)(ho:PE X o td)(he:PE X e ty)(hf:PE X f tx)(m:M2 X o "get" apos e f cpos):PE X (.Call (.Attribute o "get" apos) [e,f] [] cpos) (Zb5 td ty tx):=by
 intro pins s σ H Q I h;refine wpAny_Call_method m.base m.few m.line PySem.F.plainAttrs_dict Tb PySem.F.type_dict_get (Ap (ho pins s σ H _ I h) λu s1 zq=>?_);obtain⟨x,H1,U,rx,a,ex,d,q1⟩:=zq;subst ex;obtain rfl:u=Value.ref a:=rx;obtain⟨t1,Z,_⟩:=Zic U d;refine⟨t1,Z,?_⟩;rw[m.trees];refine U8 rfl (Wb (Sk (Ap (he pins s1 σ H1 _ U q1) λiv s2 ⟨y,H2,I2,ry,q2⟩ =>
  Sk (Ap (hf pins s2 σ H2 _ I2 q2) λfv s3 ⟨z,H3,I3,Y,ov,g,q3⟩=>Te ?_))))
 exact Zju hu I3 g ry Y λw' s4 I4 O=>⟨_,H3,I4,O,q3⟩
end
section
variable {X:Cx}{pins:List (Addr×Obj)}{σ:St}{H:Hp}{s:Shared}{a:Addr}{kvs:List (Av×V)}{A:Around}{E:Value->Shared->Prop}
theorem Zjk (I:Inv X pins σ H s)(e:Rd H a (.dK kvs))(h:∀p s',H p=none->Inv X pins σ (upd H p (.dK kvs)) s'->Q (.ref p) s'):wpAny (model X.prog X.w) A (call (.type "dict") [.ref a]) Q E s:=by
 obtain⟨z,hd,vs,F,dd⟩:=F3 I.hok e;refine kt_call_dict hd dd (by rw[<- F.length];exact z) λh' O Y=>?_;refine h _ _ (I.hok.fresh (Pk _)) (I.laid (a:=s.heap.objs.size) (o:=.dK kvs) (t':=s.toks) (λb q U=>?_) (Pk _) (Zbq z (beq_eq_false_iff_ne.mpr (Ql (P4 I.big))) F O));exact(Y.2 b (P4 (Pt U))).trans (Px _ U)
end
section
variable {X:Cx}{pins:List (Addr×Obj)}{σ:St}{H:Hp}{s:Shared}{a:Addr}{y:V}{u:Value}{A:Around}{E:Value->Shared->Prop}
end
end L2
namespace PySem
namespace F
end F
end PySem
namespace L2
open PySem PySem.Spec PyProof.Rows
section
variable {X:Cx}{pins:List (Addr×Obj)}{σ:St}{H:Hp}{s:Shared}{a:Addr}{y v:V}{u r:Value}{A:Around}{E:Value->Shared->Prop}
theorem Zki (hu:A.units<cLine)(I:Inv X pins σ H s)(g:DPut H a y v H')(ry:RelV y u)(rv:RelV v r)(h:∀s',Inv X pins σ H' s'->P7 a s.heap s'.heap->Q () s') :
  wpAny (model X.prog X.w) A (dictSet a u r) Q E s:=by
 rcases g with⟨kvs,k,e,Z,l,eH⟩|⟨kvs,k,b,e,Z,eb,l,eH⟩
 ·subst Z eH;obtain⟨z,hd,vs,F,dd⟩:=Zd0 I.hok e;have hz:vs.length<=sizeLine:=by rw[<- F.length];exact z
  have hl:(Bp kvs k v).length<=sizeLine:=by have:=Et kvs k v;lia
  refine wpAny_dictSet_pairs (hsz:=hz) (Hm ry) dd λh' O U=>h _ ?_ U;have he:∃q,h'.get? a=some q:=let ⟨q,_,_,Y,_⟩:=O;⟨q,Y⟩;exact My I (by rw[e];exact True.intro) U he (Zbq hl hd (F.put k rv) O)
 ·subst Z eH;cases (show u=Value.ref b from ry);obtain⟨z,hd,xs,F,dd⟩:=Zfk I.hok e;have hz:xs.length<=sizeLine:=by rw[<- Ur F];exact z
  have hl:(Bp kvs k v).length<=sizeLine:=by have:=Et kvs k v;lia
  refine wpAny_dictSet_heap (hsz:=hz) hu (Hl I.hok eb) dd λh' O U=>h _ ?_ U;obtain⟨q,es,ep,Y,h2,h3,h4,_,h5⟩:=O;refine My I (by rw[e];exact True.intro) U ⟨q,Y⟩ ⟨hl,hd,_,(F.put k eb rv).keeps λc ys ec=>?_,q,es,ep,Y,h2,h3,h4,h5⟩;rw[Ai (Fs ec e (λz=>nomatch z))];exact ec
end
theorem Room.u1 (r:Room k A):A.units+1<cLine:=by have:=r.u200;lia
section
variable {X:Cx}{k:Nat}{x m f:Str}{ps:List Str}{sp:Sp}{E:XK}{C:Addr}{p pos pos' tpos apos:Pos}{e o i value:Expr}{es:List Expr}{ta tv td ty:TE}{t:TA}{CX:Eb}{P:Program}{w:World}{mg:Str->Option Value}{base:Heap}{K:Ph}
theorem Lv (hu:X.A.units+1<cLine)(ho:QE X o td)(hi:QE X i ty)(hs:Zc3 i):QE X (.Subscript o i pos) (Zcv td ty):=by
 refine⟨?_⟩;have ho:=ho.run;have hi:=hi.run
 intro pins s σ H Q I h;refine Zle PySem.F.slot_dict_getitem.lookup hs (Ap (ho pins s σ H _ I h) λu s1 O=>?_);obtain⟨x,H1,I1,rx,Z⟩:=O;refine Ap (hi pins s1 σ H1 _ I1 Z) λiv s2 O=>?_;obtain⟨y,H2,Y,ry,a,v,ex,g,q2⟩:=O;subst ex;obtain rfl:u=Value.ref a:=rx;exact⟨Zj9 Y g,Zrn hu Y g ry λw' s3 I3 U=>⟨v,H2,I3,U,q2⟩⟩
theorem Zbs (hu:X.A.units+1<cLine)(hi:QE X i ty)(ho:QE X o td):QC X .In i o (Zap ty td):=by
 refine⟨?_⟩;have hi:=hi.run;have ho:=ho.run
 intro pins s σ H Q I h;refine Ap (hi pins s σ H _ I h) λiv s1 F=>?_;obtain⟨y,H1,I1,Z,Y⟩:=F;refine Ap (ho pins s1 σ H1 _ I1 Y) λu s2 F=>?_;obtain⟨x,H2,U,rx,a,O,ex,g,q2⟩:=F;subst ex;obtain rfl:u=Value.ref a:=rx;exact d_in hu U g Z λs3 I3=>⟨.bl O.isSome,H2,I3,rfl,q2⟩
def Zbp (K:Ph):R2:=λx y H Q=>Ig K x y H Q\/eX4 λ(a b:Addr)(xs ys:List V)=>x=.ref a/\y=.ref b/\H a=some (.tup xs)/\H b=some (.tup ys)/\xs.length+ys.length<=sizeLine/\∀p H',Same H H'->H' p=some (.tup (xs++ys))->Q (.ref p) H'
theorem Zsg:OpR X (binaryOp .Add) (Zbp X.K):=by
 refine op_addA.or ?_;intro pins s σ H x y v u Q I rx ry h;obtain⟨a,b,xs,ys,rfl,rfl,ha,hb,hz,q⟩:=h;have U:SqT X.K H a xs:=SqT.of ha;have F:SqT X.K H b ys:=SqT.of hb;by_cases hx:xs=[]
 ·subst hx;cases rx;cases ry;obtain⟨ak,r1,p1,_⟩:=I.tuple U;obtain⟨ah,r2,p2,_⟩:=I.tuple F;cases r1;obtain⟨⟨al,dd,ai,sl⟩,ho,hc,n,hd⟩:=id p1;obtain⟨⟨aj,ag,aa,ae⟩,Y,Z,n2,O⟩:=id p2;simp only at hc hd Z O;subst hc hd Z O;exact Vw ⟨_,ho,rfl⟩ ⟨_,Y,rfl⟩ Vi Vr U7 U4 (U2 _ _)
   (tuple_addW0 a b _ _ n n2 dd ag sl ae (by simp)) ⟨ho,Y,⟨.ref b,H,I,rfl,q b H (Same.refl H) hb⟩⟩
 ·refine Zjb pins s σ H _ _ v u Q I rx ry ⟨a,b,xs,ys,rfl,rfl,U,F,hx,hz,λe=>?_,λ_ p hp=>q p _ (λc o e=>by rw[Ai (A6 e hp)];exact e) Ac⟩;subst e;exact q a H (Same.refl H) (by rw[Qj];exact ha)
theorem Ou (K:Ph)(hK:autoParam (X.K=K) zX):OpR X (binaryOp .Add) (Zbp K):=by subst hK;exact Zsg
theorem Zmm (ha:H a=some (.tup xs))(hb:H b=some (.tup ys))(hz:xs.length+ys.length<=sizeLine)(h:∀p H',Same H H'->H' p=some (.tup (xs++ys))->Q (.ref p) H'):Zbp K (.ref a) (.ref b) H Q:=.inr ⟨a,b,xs,ys,rfl,rfl,ha,hb,hz,h⟩
theorem s_dget (h:td σ H λx H1=>ty σ H1 λy H2=>∃a v,x=.ref a/\DGet H2 a y (some v)/\Q v H2):Zcv td ty σ H Q:=h
theorem s_din (h:ty σ H λy H1=>td σ H1 λx H2=>∃a o,x=.ref a/\DGet H2 a y o/\Q (.bl o.isSome) H2):Zap ty td σ H Q:=h
end
end L2
namespace L2
open PySem
def RowT (K:Ph)(H:Hp)(v:V)(x:List Nat×Tr):Prop:=eX3 λ(a p:Addr)(u:V)=>v=.ref a/\SqT K H a [.ref p,u]/\H p=some (.tup (Bv x.1))/\TrAt K H u x.2
theorem RowT.same (e:SameT H H')(v:V)(x:List Nat×Tr)(h:RowT K H v x):RowT K H' v x:=by
 obtain⟨a,p,u,r,q,F,t⟩:=h;exact⟨a,p,u,r,e.tup q,(e p).1 _ F,t.sameT e⟩
noncomputable def B4 (pl:List Nat):List Av:=pl.map λi:Nat=>Sum.inl ((i:Nat):Int)
theorem Pf (pl:List Nat):(B4 pl).map kV=Bv pl:=by unfold B4 Bv;rw[V2];rfl
section
variable {K:Ph}{HB H H':Hp}{C:Addr}{kvs:List (List Av×V)}{L:Ml}{S:MS}
end
section
variable {g:TG}{tt:TT}{te:TE}{σ0:St}{H1:Hp}{D:Addr}{Q:VK}
theorem Zmq (Pv:Nat->List V->St->Hp->Prop)(h0:Pv 0 [] σ0 (upd H1 D (.lst [])))(hl:∀i ys σ H,i<=xs.length->Pv i ys σ H->SqT K H a xs)(hs:∀i x ys σ H,xs[i]?=some x->H D=some (.lst ys)->Pv i ys σ H->M0 g tt te D (Pv (i+1)) x σ H)(hd:∀ys σ H,H D=some (.lst ys)->Pv xs.length ys σ H->Q (.ref D) H):K2 (Ic K a) g tt te σ0 H1 D Q:=by
 refine⟨λi m σ H=>m=xs.length-i/\i<=xs.length/\∃ys,H D=some (.lst ys)/\Pv i ys σ H,⟨xs.length,by simp,P8 _,[],Ac,h0⟩,?_⟩;rintro i m σ H ⟨rfl,hi,ys,O,p⟩;have q:=hl i ys σ H hi p;by_cases F:i<xs.length
 ·refine .inr ⟨⟨xs,xs[i],q,by simp[F]⟩,λI H2=>∃zs,H2 D=some (.lst zs)/\Pv (i+1) zs I H2,λU H' Y=>⟨xs.length-(i+1),by lia,rfl,F,Y⟩,λx H' y=>?_⟩;obtain⟨e,y⟩:=y;subst e;exact hs i x ys σ _ (y xs q) O p
 ·have e:i=xs.length:=by lia
  subst e;exact .inl ⟨⟨xs,q,Pk _⟩,hd ys σ H O p⟩
end
theorem Zmo (h:B4 a=B4 b):a=b:=by
 unfold B4 at h
 induction a generalizing b with
 |nil=>cases b with
  |nil=>rfl
  |cons y r=>simp at h
 |cons x l F=>cases b with
  |nil=>simp at h
  |cons y r =>
   simp only[Q3,List.cons.injEq]at h;have h1:x=y:=by have:=V4 h.1;lia
   rw[h1,F h.2]
end L2
namespace L2
open PySem PySem.Spec PyProof.Rows
section
variable {X:Cx}
end
end L2
namespace L2
open PySem PySem.Spec PySem.Calls PySem.W PyProof.Rows
section
variable {X:Cx}
end
end L2
namespace L2
open PySem PySem.Spec PyProof.Rows
section
variable {X:Cx}{c n:Str}{np hpos pos:Pos}{body hbody:List Stmt}{b₀:Stmt}{tb:TXS}{th:TS}{i:Nat}{C:Addr}
end
def Zgm (tk tv:TE):TE:=λσ H Q=>∀p,H p=none->tk σ (upd H p (.dT [])) λx H1=>tv σ H1 λy H2=>∃H3,DPut H2 p x y H3/\Q (.ref p) H3
section
variable {X:Cx}{o i e f k v value:Expr}{pos pos' apos cpos:Pos}{td ty tx tk tv:TE}
theorem Zsv (hu:X.A.units+1<cLine)(hk:QE X k tk)(hv:QE X v tv):QE X (.Dict [some k] [v] pos) (Zgm tk tv):=by
 refine⟨?_⟩;have hk:=hk.run;have hv:=hv.run
 intro pins s σ H Q I q;have hn:=I.hok.fresh (Pk s.heap.objs.size);have I1:=I.laid (a:=s.heap.objs.size) (o:=.dT []) (h':=s.heap.push { cls:=.type "dict",data:=.dict #[] }) (t':=s.toks) (λ_ _ q=>Px _ q) (Pk _) (Ze3 s.heap I.big);show wpAny _ _ (eval (.Dict [some k] [v] pos) X.env) _ _ s;rw[arm_eval_Dict,zip_pairTrees [some k] [v] X.env pos rfl rfl,dictDisplay_pairs _ (by simp[pairTrees]) (by simp[pairTrees])];refine Pi (Us (Pi ?_));unfold subDict;refine Pi (wpAny_alloc ?_);refine Pi (Ra ?_);rw[if_pos (by simp[pairTrees])];refine Pi (pairTrees_cons_walk (Ap (hk pins _ σ _ _ I1 (q _ hn)) λkv s1 F=>?_));obtain⟨x,H1,O,rx,U⟩:=F;refine Ap (hv pins s1 σ H1 _ O U) λvv s2 F=>?_;obtain⟨y,H2,I3,ry,Y,g,Z⟩:=F;refine pairTrees_nil_walk ?_;refine Ra ?_;rw[Ti];refine Pi (Pi (Pi (Zki (by lia) I3 g rx ry λs4 I4 _=>Pl ?_)));dsimp only;rw[Up];exact Pl (Pl (Pl (Pl ⟨.ref s.heap.objs.size,Y,I4,rfl,Z⟩)))
theorem Np:QE X (.Dict [] [] pos) Zd9:=⟨λpins s σ H Q I h =>
 wpAny_Dict_empty ⟨.ref s.heap.objs.size,_,I.laid (a:=s.heap.objs.size) (o:=.dK []) (t':=s.toks) (λ_ _ q=>Px _ q) (Pk _) (Zkt s.heap I.big),rfl,h _ (I.hok.fresh (Pk _))⟩⟩
theorem Zsd:QE X (.Dict [] [] pos) Zgr:=⟨λpins s σ H Q I h =>
 wpAny_Dict_empty ⟨.ref s.heap.objs.size,_,I.laid (a:=s.heap.objs.size) (o:=.dT []) (t':=s.toks) (λ_ _ q=>Px _ q) (Pk _) (Ze3 s.heap I.big),rfl,h _ (I.hok.fresh (Pk _))⟩⟩
theorem Zug (hu:X.A.units+1<cLine)(hi:QE X i ty)(ho:QE X o td):QC X .NotIn i o (Zco ty td):=by
 refine⟨?_⟩;have hi:=hi.run;have ho:=ho.run
 intro pins s σ H Q I h;refine Ap (hi pins s σ H _ I h) λiv s1 F=>?_;obtain⟨y,H1,I1,Z,Y⟩:=F;refine Ap (ho pins s1 σ H1 _ I1 Y) λu s2 F=>?_;obtain⟨x,H2,U,rx,a,O,ex,g,q2⟩:=F;subst ex;obtain rfl:u=Value.ref a:=rx;exact Zj2 hu U g Z λs3 I3=>⟨.bl (!O.isSome),H2,I3,rfl,q2⟩
theorem Gh (hu:X.A.units+1<cLine)(ho:QE X o td)(hi:QE X i ty)(hv:QE X value tv)(hs:autoParam (swapsWith value (some (.Subscript o i pos')) pos.line X.env=pure false) zX):QS X (.Assign [.Subscript o i pos'] value pos) (Zat td ty tv):=by
 refine⟨?_⟩;have ho:=ho.run;have hi:=hi.run;have hv:=hv.run
 intro pins s σ H D I h;refine wpAny_Assign_Subscript (Ap (hv pins s σ H _ I h) λr s1 F=>?_) hs;obtain⟨v,H1,I1,rv,Z⟩:=F;refine Ap (ho pins s1 σ H1 _ I1 Z) λu s2 F=>?_;obtain⟨x,H2,Y,rx,q2⟩:=F;refine Ap (hi pins s2 σ H2 _ Y q2) λiv s3 F=>?_;obtain⟨y,H3,I3,ry,a,O,ex,g,U⟩:=F;subst ex;obtain rfl:u=Value.ref a:=rx;exact Zr2 hu I3 g ry rv λs4 I4=>⟨σ,O,I4,U⟩
theorem Zor (hu:X.A.units+1<cLine)(ho:QE X o td)(he:QE X e ty)(h1:autoParam (attributeBase o "get" X.env (eval o X.env)=eval o X.env) zX)(h2:autoParam (((backTo cpos (starEach [e] X.env)).all (λx=>!x.1) && (backToKw cpos (keywordEach [] X.env)).all (λx=>x.1.isSome) && decide (([e]:List Expr).length+([]:List Keyword).length+(if ([]:List Keyword).isEmpty then 0 else 1)<30))=true) zX)(h3:autoParam ((apos.endLine == cpos.line)=true) zX)(h4:autoParam (backTo cpos (starEach [e] X.env)=[(false,eval e X.env)]) zX):QE X (.Call (.Attribute o "get" apos) [e] [] cpos) (Zbz td ty):=⟨Znf hu ho.run he.run ⟨h1,h2,h3,h4⟩⟩
theorem Zgh (hu:X.A.units+1<cLine)(ho:QE X o td)(he:QE X e ty)(hf:QE X f tx)(h1:autoParam (attributeBase o "get" X.env (eval o X.env)=eval o X.env) zX)(h2:autoParam (((backTo cpos (starEach [e,f] X.env)).all (λx=>!x.1) && (backToKw cpos (keywordEach [] X.env)).all (λx=>x.1.isSome) && decide (([e,f]:List Expr).length+([]:List Keyword).length+(if ([]:List Keyword).isEmpty then 0 else 1)<30))=true) zX)(h3:autoParam ((apos.endLine == cpos.line)=true) zX)(h4:autoParam (backTo cpos (starEach [e,f] X.env)=[(false,eval e X.env),(false,eval f X.env)]) zX):QE X (.Call (.Attribute o "get" apos) [e,f] [] cpos) (Zb5 td ty tx):=⟨Zpa hu ho.run he.run hf.run ⟨h1,h2,h3,h4⟩⟩
end
def Zou:List V->Hp->VK->Prop:=λxs H Q=>∃a kvs,xs=[.ref a]/\H a=some (.dK kvs)/\∀p,H p=none->Q (.ref p) (upd H p (.dK kvs))
theorem Zil:Dk X (.type "dict") Zou:=by
 intro pins s σ H xs Y Q I r h;obtain⟨a,kvs,rfl,e,q⟩:=h;obtain⟨u,rfl,O⟩:=r.one;obtain rfl:u=Value.ref a:=O;exact Zjk I (.inl e) λp s' U F=>⟨.ref p,_,F,rfl,q p U⟩
theorem Zik {kt k2 pt2}(hc:X.calm=true)(hN:X.N.Nodup)(hi:X.N[i]?=some x)(hj:X.N[j]?=some y)(hij:i≠j)(hx:X.env.scope.names.lookup x=some .local)(hy:X.env.scope.names.lookup y=some .local)(ha:QA X [a,b] ta)(hw:autoParam (swappedStores [.Tuple [.Name x px,.Name y py] kt pt] (.Tuple [a,b] k2 pt2) X.env=pure (some [x,y])) zX)(hs:autoParam (swapsWithSole [.Tuple [.Name x px,.Name y py] kt pt] (.Tuple [a,b] k2 pt2) pos.line X.env=pure false) zX) :
  QS X (.Assign [.Tuple [.Name x px,.Name y py] kt pt] (.Tuple [a,b] k2 pt2) pos) (Zby i j ta):=by
 refine⟨?_⟩;have ha:=ha.run
 intro pins s σ H D I h;rw[exec_Assign_arm];refine Pi (Us ?_);rw[hs];refine Pi (Pl ?_);rw[if_neg (by decide)];refine Pi (Tuple_ (Ap (ha _ pins s σ H _ I h) λus U zq=>?_));obtain⟨vs,H1,I1,r1,Y⟩:=zq;obtain⟨v,w,e1,Y⟩:=Y;subst e1;obtain⟨u1,O,rfl,rv,aa⟩:∃u1 O,us=[u1,O]/\RelV v u1/\RelV w O:=by
  cases r1 with
  |cons p q =>
   cases q with
   |cons p' q' =>
    cases q';exact⟨_,_,rfl,p,p'⟩
 refine R7 ?_ (by show 2<=sizeLine;decide);have I2:Inv X pins σ H1 { U with heap:=U.heap.push { cls:=.type "tuple",data:=.seq [u1,O].toArray } }:=I1.kept (t':=U.toks) λb o e=>Px _ e;rw[hw];refine Pi (Pl ?_);show wpAny (model X.prog X.w) X.A (do rule "assign.swapped-stores";let F <- unpackItems (.ref U.heap.objs.size) 2 none;assignInOrder [λv=>bindName X.env y v,λv=>bindName X.env x v] F.reverse;pure Flow.next) _ _ _;refine Pi (Tt (Pi (unpackItems_tuple (items:=#[u1,O]) (I.ok.hd hc) (IsTup.new U.heap _) λh' Z=>?_)));have I3:=I2.kept (h':=h') (t':=U.toks) λb o e=>Z b o (P4 (Pt e)) e;show wpAny _ _ (assignInOrder [λv=>bindName X.env y v,λv=>bindName X.env x v] [O,u1] >>= λ_=>pure Flow.next) _ _ _;refine Pi (Wj (wpAny_bindName (Ll I3 hN hj (.inl hy) aa (λs2 I4=>?_) (.inr hy))));refine Wj (wpAny_bindName (Ll I4 hN hi (.inl hx) rv (λs3 I5=>assignInOrder_nil (Pl ?_)) (.inr hx)));rw[List.set_comm _ _ (Ql hij)]at I5;exact⟨_,H1,I5,Y⟩
theorem s_par (h:ta σ H λvs H1=>∃v w,vs=[v,w]/\D.nx ((σ.set i (some v)).set j (some w)) H1):Zby i j ta D σ H:=h
theorem s_ifE (h:c σ H λb H1=>if b=true then ta σ H1 Q else tb σ H1 Q):tIf c ta tb σ H Q:=h
theorem Zpb {P Q:Prop}(hb:b=false)(h:Q):if b=true then P else Q:=by rw[if_neg (by rw[hb];decide)];exact h
theorem s_dput (h:tv σ H λv H1=>td σ H1 λx H2=>ty σ H2 λy H3=>∃a H4,x=.ref a/\DPut H3 a y v H4/\D.nx σ H4):Zat td ty tv D σ H:=h
theorem s_dget2 (h:td σ H λx H1=>∃a,x=.ref a/\DcD H1 a/\ty σ H1 λy H2=>tx σ H2 λz H3=>∃o,DGet H3 a y o/\Q (o.getD z) H3):Zb5 td ty tx σ H Q:=h
theorem Ds {t:TS}{X:St->Hp->Prop}{rt:VK}{bk ct:St->Hp->Prop}{σ:St}{H:Hp}(R:St->Hp->Prop)(h1:∀Y:St->Hp->Prop,(∀σ' H',R σ' H'->Y σ' H')->t ⟨Y,rt,bk,ct⟩ σ H)(h2:∀σ' H',R σ' H'->X σ' H'):t ⟨X,rt,bk,ct⟩ σ H:=h1 X h2
theorem viaE {t:TE}{Q:VK}{σ:St}{H:Hp}(R:V->Hp->Prop)(h1:∀Y:VK,(∀v H',R v H'->Y v H')->t σ H Y)(h2:∀v H',R v H'->Q v H'):t σ H Q:=h1 Q h2
section
variable {X:Cx}
end
section
variable {X:Cx}
end
section
variable {g:TG}{tt:TT}{te:TE}{σ0:St}{H1:Hp}{D:Addr}{Q:VK}
end
noncomputable def Jm (K:Ph)(a b:Addr):It :=
 ⟨λi H=>∃xs ys,SqL K H a xs/\SqL K H b ys/\i<xs.length/\i<ys.length,
   λi H x H'=>eX3 λ(t:Addr)(y z:V)=>H t=none/\(∀xs,SqL K H a xs->xs[i]?=some y)/\(∀ys,SqL K H b ys->ys[i]?=some z)/\x=.ref t/\H'=upd H t (.tup [y,z]),
   λi H=>∃xs ys,SqL K H a xs/\SqL K H b ys/\i=min xs.length ys.length⟩
theorem Zmf {P:Program}{w:World}{K:Ph}{elts:List Expr}{kt:Nat}{pt:Pos}(a b z TI TO i1 i2:Addr)(D:ZB z TI TO i1 i2 a b) :
  Gi P w K (.Tuple elts kt pt) (Jm K a b) [z,TI,TO,i1,i2] z (λi h=>IsZip h z TI TO .none/\IsPair h TI (.ref i1) (.ref i2)/\(∃u v,IsPair h TO u v)/\h.IsListIter i1 a i/\h.IsListIter i2 b i) where
 mem:=by simp
 obj:=λi h st c hc=>by
  obtain⟨U,O,⟨u,v,q3⟩,q4,q5⟩:=st;simp only[Pm,P6,or_false]at hc;rcases hc with rfl|rfl|rfl|rfl|rfl
  ·exact⟨_,U,λv z=>by cases z⟩
  ·exact⟨_,O,λv z=>by cases z⟩
  ·exact⟨_,q3,λv z=>by cases z⟩
  ·obtain⟨o,e,c,d⟩:=q4;exact⟨o,e,λv z=>by rw[d]at z;cases z⟩
  ·obtain⟨o,e,c,d⟩:=q5;exact⟨o,e,λv z=>by rw[d]at z;cases z⟩
 keep:=λi h h' st k=>by
  obtain⟨U,O,⟨u,v,q3⟩,q4,q5⟩:=st;exact⟨k z (by simp) _ U,k TI (by simp) _ O,⟨u,v,k TO (by simp) _ q3⟩,q4.at λo e=>k i1 (by simp) o e,q5.at λo e=>k i2 (by simp) o e⟩
 item:=by
  intro X hP hw hK hc i pins s σ H E I hf st hg;subst hP hw hK;obtain⟨xs,ys,hx,hy,l1,l2⟩:=hg;obtain⟨Y,rv,p,hz⟩:=I.list hx;obtain⟨F,Z,p2,ak⟩:=I.list hy;have g1:=rv.length;have g2:=Z.length;obtain⟨U,O,⟨u,v,q3⟩,q4,q5⟩:=st;have hh:X.A.in1.handled=none:=I.ok.hd hc;have D1:=Ss (prog:=X.prog) (w:=X.w) (A:=X.A.in1) hh i1 a D.a1 Y.toArray;have D2:=Ss (prog:=X.prog) (w:=X.w) (A:=X.A.in1) hh i2 b D.b2 F.toArray;refine Zg9 D1 D2 D.za U O q3 ⟨q4,p.isList⟩ ⟨q5,p2.isList⟩ (by rw[Po];lia) (by rw[Po];lia) λx y h1 tk px py a1 a2 a3 a4 a5 a6 a7=>?_;refine⟨_,rfl,wpAny_letOwnedTupleGo_zip a1 λh2 a8 a9=>?_⟩;replace a9:P7 z h1 h2:=a9;have aj:Y[i]?=some x:=by simpa using px
  have ah:F[i]?=some y:=by simpa using py
  obtain⟨u1,aa,ag⟩:=rv.get (Pj l1);obtain⟨u2,ae,am⟩:=Z.get (Pj l2);rw[aj]at aa;cases aa;rw[ah]at ae;cases ae;have lt:∀{c o},s.heap.get? c=some o->s.heap.objs.size≠c:=λe=>Rb (Pt e);have nz:s.heap.objs.size≠z:=lt U;have al:h2.IsTuple s.heap.objs.size ([x,y]:List Value).toArray:=⟨_,a9.extBut _ _ nz a5,rfl,_,rfl⟩;have kk:∀b o,b ∉ [z,TI,TO,i1,i2]->s.heap.get? b=some o->h2.get? b=some o:=λb o hb e=>by
   simp only[Pm,P6,or_false,not_or]at hb;exact a9.extBut _ _ hb.1 (a7 b o hb.1 hb.2.2.1 hb.2.2.2.1 hb.2.2.2.2 e)
  have I2:=I.pairL (tk:=tk) (T:=s.heap.objs.size) (xs:=[xs[i],ys[i]]) hf kk (Pk _) (.cons ag (.cons am .nil)) (by show 2<=sizeLine;decide) al;refine⟨.ref s.heap.objs.size,_,I2,rfl,⟨_,xs[i],ys[i],I.hok.fresh (Pk _),λzs hz=>by rw[I.list_inj hz hx];exact Pj l1,λzs hz=>by rw[I.list_inj hz hy];exact Pj l2,rfl,rfl⟩,
   ⟨a8,a9.extBut _ _ D.TIz (a7 _ _ D.TIz D.TITO D.TI1 D.TI2 O),⟨_,_,a9.extBut _ _ D.TOz a2⟩,a3.1.at λo e=>a9.extBut _ _ D.i1z e,a4.1.at λo e=>a9.extBut _ _ D.i2z e⟩,λc hc=>?_⟩
  have ai:c≠s.heap.objs.size:=by
   simp only[Pm,P6,or_false]at hc;rcases hc with rfl|rfl|rfl|rfl|rfl
   ·exact(lt U).symm
   ·exact(lt O).symm
   ·exact(lt q3).symm
   ·obtain⟨_,e,_⟩:=q4;exact(lt e).symm
   ·obtain⟨_,e,_⟩:=q5;exact(lt e).symm
  rw[Ai ai];exact(hf c hc).1
 done:=by
  intro X hP hw hK hc i pins s σ H E I hf st hg;subst hP hw hK;obtain⟨xs,ys,hx,hy,rfl⟩:=hg;obtain⟨Y,rv,p,hz⟩:=I.list hx;obtain⟨F,Z,p2,ak⟩:=I.list hy;have g1:=rv.length;have g2:=Z.length;obtain⟨U,O,⟨u,v,q3⟩,q4,q5⟩:=st;have hh:X.A.in1.handled=none:=I.ok.hd hc;have D1:=Ss (prog:=X.prog) (w:=X.w) (A:=X.A.in1) hh i1 a D.a1 Y.toArray;have D2:=Ss (prog:=X.prog) (w:=X.w) (A:=X.A.in1) hh i2 b D.b2 F.toArray;refine Zgv D1 D2 D.za U O q3 ⟨q4,p.isList⟩ ⟨q5,p2.isList⟩ (by simp only[Po];lia) λh' tk kk=>⟨rfl,I.turnedL (λb o hb e=>?_) hf⟩;simp only[Pm,P6,or_false,not_or]at hb;exact kk b o hb.1 hb.2.2.1 hb.2.2.2.1 hb.2.2.2.2 e
 self:=λA i s Q E st h=>Wv st.1 h
section
variable {X:Cx}
def Zei (K:Ph)(ta:TA):TI:=λσ H R=>ta σ H λvs H1=>eX4 λa b xs ys=>vs=[.ref a,.ref b]/\SqL K H1 a xs/\SqL K H1 b ys/\R (Jm K a b) H1
theorem Ztf (K:Ph)(hg:Gl X "zip")(hm:X.mg "zip"=none)(ha:QA X [e,e2] ta)(hK:autoParam (X.K=K) zX)(hs:autoParam (starEach [e,e2] X.env=[(false,eval e X.env),(false,eval e2 X.env)]) zX)(hs2:autoParam (starEach [e2] X.env=[(false,eval e2 X.env)]) zX):QI X (.Tuple elts kt pt) (.Call (.Name "zip" p) [e,e2] [] pos) (Zei K ta):=by
 subst hK;refine⟨λpins s σ H R I h=>?_⟩;refine Call_ (Ef I hg hm PyProof.Rows.boot_zip (Rg (Ap (ha.run pos pins s σ H _ I h) λus F ⟨vs,H1,Y,r1,q1⟩=>?_) (by rw[hs,hs2]) (by rw[hs2];rfl)));obtain⟨a,b,xs,ys,e1,hq,aa,q⟩:=q1;subst e1;obtain⟨u,v,rfl,ru,rv⟩:=r1.two;cases ru;cases rv;obtain⟨ae,rv,pl,hz⟩:=Y.list hq;obtain⟨O,ai,U,ah⟩:=Y.list aa;have Z:a<F.heap.objs.size:=by obtain⟨o,e,_⟩:=id pl.isList;exact Pt e
 have ag:b<F.heap.objs.size:=by obtain⟨o,e,_⟩:=id U.isList;exact Pt e
 refine Zem (b:=false) (gg:=false) (show ZIn false F.heap a ae.toArray from pl.isList) (show ZIn false F.heap b O.toArray from U.isList) λh' a1 a2 a3 a4 a5 a6 hk=>?_;refine Wv a1 ?_;have fr:∀k,FpOk X pins H1 (F.heap.objs.size+k):=λk=>Y.fpOk (Th _ _) (Y.hok.fresh (Th _ _));refine⟨_,[F.heap.objs.size+4,F.heap.objs.size+2,F.heap.objs.size+3,F.heap.objs.size,F.heap.objs.size+1],_,_,H1,rfl,Y.kept (t':=F.toks) hk,Zmf a b _ _ _ _ _ (Zje Z ag),⟨a1,a2,⟨_,_,a3⟩,a4,a5⟩,λc hc=>?_,q⟩;simp only[Pm,P6,or_false]at hc;rcases hc with rfl|rfl|rfl|rfl|rfl
 ·exact fr 4
 ·exact fr 2
 ·exact fr 3
 ·exact fr 0
 ·exact fr 1
theorem s_izipm {K:Ph}{ta:TA}{σ:St}{H:Hp}{R:It->Hp->Prop}(h:ta σ H λvs H1=>eX4 λa b xs ys=>vs=[.ref a,.ref b]/\SqL K H1 a xs/\SqL K H1 b ys/\R (Jm K a b) H1):Zei K ta σ H R:=h
theorem Zuk {K:Ph}{a b:Addr}{xs ys:List V}{g:TG}{tb:TS}{D:Dj}{σ:St}{H:Hp}(Pv:Nat->St->Hp->Prop)(h0:Pv 0 σ H)(hl:∀i σ H,i<=min xs.length ys.length->Pv i σ H->SqL K H a xs/\SqL K H b ys)
  (hs:∀i x y t σ H,xs[i]?=some x->ys[i]?=some y->H t=none->Pv i σ H->g (.ref t) σ (upd H t (.tup [x,y])) λσ2 H2=>tb { D with nx:=Pv (i+1),ct:=Pv (i+1),bk:=D.nx } σ2 H2) (hd:∀σ H,Pv (min xs.length ys.length) σ H->D.nx σ H) :
  ∃W:Nat->Nat->St->Hp->Prop,(∃m,W 0 m σ H)/\∀i m σ H,W i m σ H ->
   ((Jm K a b).stop i H/\D.nx σ H)\/((Jm K a b).go i H/\∃N:St->Hp->Prop,(∀σ' H',N σ' H'->∃m',m'<m/\W (i+1) m' σ' H')/\∀x H',(Jm K a b).yld i H x H'->g x σ H' λσ2 H2=>tb { D with nx:=N,ct:=N,bk:=D.nx } σ2 H2):=by
 refine⟨λi m σ H=>m=min xs.length ys.length-i/\i<=min xs.length ys.length/\Pv i σ H,⟨min xs.length ys.length,by simp,P8 _,h0⟩,?_⟩;rintro i m σ H ⟨rfl,hi,p⟩;obtain⟨q,F⟩:=hl i σ H hi p;by_cases I:i<min xs.length ys.length
 ·refine .inr ⟨⟨xs,ys,q,F,by lia,by lia⟩,Pv (i+1),λσ' H' Y=>⟨min xs.length ys.length-(i+1),by lia,rfl,I,Y⟩,λx H' y=>?_⟩;obtain⟨t,y,z,Z,U,O,rfl,rfl⟩:=y;exact hs i y z t σ _ (U xs q) (O ys F) Z p
 ·have e:i=min xs.length ys.length:=by lia
  subst e;exact .inl ⟨⟨xs,ys,q,F,rfl⟩,hd σ H p⟩
end
theorem s_dget1 (h:td σ H λx H1=>∃a,x=.ref a/\DcD H1 a/\ty σ H1 λy H2=>∃o,DGet H2 a y o/\Q (o.getD .non) H2):Zbz td ty σ H Q:=h
theorem s_isB (h:Q (.bl (decide (x=.bl b))) H):rIsB x (.bl b) H Q:=⟨b,rfl,h⟩
theorem s_dnotin (h:ty σ H λy H1=>td σ H1 λx H2=>∃a o,x=.ref a/\DGet H2 a y o/\Q (.bl (!o.isSome)) H2):Zco ty td σ H Q:=h
section
variable {X:Cx}
noncomputable abbrev Zdy (f:Bool):=Zdo f true
theorem Zrc (f:Bool)(K:Ph)(hg:Gl X "list")(hm:X.mg "list"=none)(hg2:Gl X "zip")(hm2:X.mg "zip"=none)(ha:QA X [e,e2] ta)(hK:autoParam (X.K=K) zX)(hc:autoParam (X.calm=true) zX)(hs:autoParam (starEach [.Call (.Name "zip" p2) [e,e2] [] pos2] X.env=[(false,eval (.Call (.Name "zip" p2) [e,e2] [] pos2) X.env)]) zX)(hs2:autoParam (starEach [e,e2] X.env=[(false,eval e X.env),(false,eval e2 X.env)]) zX)(hs3:autoParam (starEach [e2] X.env=[(false,eval e2 X.env)]) zX) :
  QE X (.Call (.Name "list" p) [.Call (.Name "zip" p2) [e,e2] [] pos2] [] pos) (Zdy f K ta):=Ztp f true K hg hm hg2 hm2 ha hK hc hs hs2 hs3
theorem s_listzt {f:Bool}{K:Ph}{ta:TA}{σ:St}{H:Hp}{Q:VK}(h:ta σ H λvs H1=>eX4 λa b xs ys=>vs=[.ref a,.ref b]/\Gj f K H1 a xs/\SqT K H1 b ys /\
 ∀(S:Addr)(zs:List V)(H2:Hp),H1 S=none->Same H1 H2->zs.length=min xs.length ys.length->O2 H2 xs ys zs->H2 S=some (.lst zs)->Q (.ref S) H2):Zdy f K ta σ H Q:=h
end
section
variable {prog:Program}{w:World}{A:Around}{E:Value->Shared->Prop}{s:Shared}
end
section
variable {X:Cx}{tg:Expr}
end
section
variable {X:Cx}{c n:Str}{np hpos pos:Pos}{body hbody:List Stmt}{b₀:Stmt}{tb:TXS}{th:Addr->TS}{i:Nat}{C:Addr}
end
section
variable {P:Program}{w:World}{K:Ph}{mg:Str->Option Value}{base:Heap}
end
section
variable {X:Cx}{k:Nat}{x:Str}{ps:List Str}{sp:Addr->Sp}{p pos:Pos}{e:Expr}{es:List Expr}{t:TA}
end
section
variable {X:Cx}{tg:Expr}
end
section
variable {X:Cx}
end
section
variable {X:Cx}
end
section
variable {X:Cx}{pins:List (Addr×Obj)}{σ:St}{H:Hp}{s:Shared}
end
section
variable {X:Cx}
open Classical in
end
inductive Pu:Dt->Prop where
 |str (t:Str):Pu (.flat (.str t))
 |int (i:Int):Pu (.flat (.int i))
 |tup {ds:List Dt} (h:∀d∈ds,Pu d):Pu (.tup ds)
section
variable {X:Cx}{pins:List (Addr×Obj)}{σ:St}{H:Hp}{s:Shared}
theorem Zig:∀{xs ys:List V}{us:List Value},Vals xs us->Vals ys us->xs=ys
 |_,_,_,.nil,.nil=>rfl
 |_,_,_,.cons r I,.cons q F=>by rw[RelV.inj r q,Zig I F]
theorem Zny (I:Inv X pins σ H s)(hx:SqT X.K H a xs)(hy:SqT X.K H a ys):xs=ys:=by
 obtain⟨O,r1,p1,_⟩:=I.tuple hx;obtain⟨F,Z,p2,_⟩:=I.tuple hy;have Y:O=F:=by
  have q1:s.heap.IsTuple a O.toArray:=p1;have q2:s.heap.IsTuple a F.toArray:=p2;obtain⟨o,g1,c1,n1,d1⟩:=q1;obtain⟨o2,U,c2,n2,d2⟩:=q2;rw[g1]at U;cases U;rw[d1]at d2;injection d2 with d3;exact congrArg Array.toList d3
 subst Y;exact Zig r1 Z
theorem Zno (I:Inv X pins σ H s):∀{n m:Nat}{x:V}{d d':Dt},IsD X.K H n x d->IsD X.K H m x d'->Pu d->Pu d'->d=d':=by
 intro n
 induction n with
 |zero =>
  intro m x d d' h h' p F;cases h with
  |flat f=>cases h' with
   |flat _=>rfl
   |tup _ _ _=>cases f
   |lst _ _ _=>cases f
 |succ n O =>
  intro m x d d' h h' p F;cases h with
  |flat f=>cases h' with
   |flat _=>rfl
   |tup _ _ _=>cases f
   |lst _ _ _=>cases f
  |tup q l g =>
   cases p with
   |tup p =>
   cases h' with
   |flat f=>cases f
   |lst _ _ _=>cases F
   |tup Y Z U =>
    cases F with
    |tup F =>
    have e:=Zny I q Y;subst e
    congr 1
    refine Ww (by lia) λj h1 h2=>?_;exact O (g j _ _ (Pj (by lia)) (Pj h1)) (U j _ _ (Pj (by lia)) (Pj h2)) (p _ (Q4 h1)) (F _ (Q4 h2))
  |lst q l g=>cases p
theorem Zmz (I:Inv X pins σ H s):∀{n:Nat}{x y:V}{d d':Dt},IsD X.K H n x d->IsD X.K H n y d'->Pu d->Pu d'->∀{A:Around}{u v:Value},RelV x u->RelV y v->A.units+n<cLine->∃b:Bool,(b=true↔d=d')/\P0 A s u v b:=by
 have Z:∀{x y:V}{A:Around}{u v:Value},Pu (.flat x)->Pu (.flat y)->RelV x u->RelV y v->∃b:Bool,(b=true↔Dt.flat x=Dt.flat y)/\P0 A s u v b:=by
  intro x y A u v p U rx Y;cases p with
  |str t =>
   obtain⟨t1,rfl⟩:=rx;cases U with
   |str t'=>obtain⟨t2,rfl⟩:=Y;exact⟨t == t',by rw[beq_iff_eq];exact⟨λh=>by rw[h],λh=>by injection h with h;injection h⟩,P0.str_str _ _ _ _⟩
   |int i=>obtain⟨t2,rfl⟩:=Y;exact⟨false,⟨λh=>(by cases h),λh=>(by injection h with h;cases h)⟩,Wi _ _ _ _⟩
  |int i =>
   obtain⟨t1,rfl⟩:=rx;cases U with
   |str t'=>obtain⟨t2,rfl⟩:=Y;exact⟨false,⟨λh=>(by cases h),λh=>(by injection h with h;cases h)⟩,Wh _ _ _ _⟩
   |int j=>obtain⟨t2,rfl⟩:=Y;exact⟨i == j,by rw[beq_iff_eq];exact⟨λh=>by rw[h],λh=>by injection h with h;injection h⟩,Ve _ _ _ _⟩
 intro n
 induction n with
 |zero =>
  intro x y d d' hx hy p U A u v rx Y hu;cases hx with
  |flat fx =>
   cases hy with
   |flat fy=>exact Z p U rx Y
 |succ n ih =>
  intro x y d d' hx hy p U A u v rx Y hu;cases hx with
  |lst _ _ _=>cases p
  |flat fx =>
   cases hy with
   |flat fy=>exact Z p U rx Y
   |lst _ _ _=>cases U
   |tup q l g =>
    cases Y;obtain⟨O,r,pl,_⟩:=I.tuple q;cases p with
    |str t=>obtain⟨t1,rfl⟩:=rx;exact⟨false,⟨λh=>(by cases h),λh=>(by cases h)⟩,P0.str_tuple _ _ pl (by lia)⟩
    |int i=>obtain⟨t1,rfl⟩:=rx;exact⟨false,⟨λh=>(by cases h),λh=>(by cases h)⟩,P0.int_tuple _ _ pl (by lia)⟩
  | @tup _ a vs ds q l g =>
   cases rx;obtain⟨O,r,pl,_⟩:=I.tuple q;cases hy with
   |lst _ _ _=>cases U
   |flat fy =>
    cases U with
    |str t=>obtain⟨t1,rfl⟩:=Y;exact⟨false,⟨λh=>(by cases h),λh=>(by cases h)⟩,P0.tuple_str _ _ pl (by lia)⟩
    |int i=>obtain⟨t1,rfl⟩:=Y;exact⟨false,⟨λh=>(by cases h),λh=>(by cases h)⟩,P0.tuple_int _ _ pl (by lia)⟩
   | @tup _ c ah aa q' l' g' =>
    cases Y;by_cases z:a=c
    ·subst z;refine⟨true,⟨λ_=>Zno I (.tup q l g) (.tup q' l' g') p U,λ_=>rfl⟩,Vm _⟩
    ·obtain⟨F,r',ak,_⟩:=I.tuple q';cases p with
     |tup p =>
     cases U with
     |tup U =>
     have hi:∀j:Nat,∃b:Bool,∀(h1:j<O.length)(h2:j<F.length),(b=true↔ds[j]?=aa[j]?)/\P0 A.in1 s O[j] F[j] b:=λj=>by
      by_cases h1:j<O.length
      ·by_cases h2:j<F.length
       ·have k1:=r.length;have k2:=r'.length;have ev:vs[j]?=some (vs[j]'(by lia)):=Pj _;have ag:ah[j]?=some (ah[j]'(by lia)):=Pj _;have ed:ds[j]?=some (ds[j]'(by lia)):=Pj _;have ae:aa[j]?=some (aa[j]'(by lia)):=Pj _;obtain⟨w,hw,aj⟩:=r.get ev;obtain⟨w',ai,al⟩:=r'.get ag;rw[Pj h1]at hw;rw[Pj h2]at ai;cases hw;cases ai;obtain⟨b,b1,b2⟩:=ih (g j _ _ ev ed) (g' j _ _ ag ae) (p _ (Q4 _)) (U _ (Q4 _)) (A:=A.in1) aj al (by show A.units+1+n<cLine;lia);refine⟨b,λ_ _=>⟨?_,b2⟩⟩;rw[b1,ed,ae];exact⟨λh=>by rw[h],λh=>Pz h⟩
       ·exact⟨false,λ_ h=>absurd h h2⟩
      ·exact⟨false,λh=>absurd h h1⟩
     have T:=Wr (A:=A) (e:=λj=>Uh (hi j)) (show s.heap.IsTuple a O.toArray from pl) (show s.heap.IsTuple c F.toArray from ak) (by lia) (λj h1 h2=>by
      have:=(Ri (hi j) (by simpa using h1) (by simpa using h2)).2;simpa using this)
     refine⟨_,?_,Wl z T⟩;have k1:=r.length;have k2:=r'.length;simp only[Po,R3,Sa,Q0,beq_iff_eq];constructor
     ·rintro⟨h1,h2⟩
      congr 1
      refine Wu λj=>?_;by_cases hj:j<O.length
      ·exact((Ri (hi j) hj (by lia)).1).mp (h1 j (by lia))
      ·rw[Rq (by lia),Rq (by lia)]
     ·intro h;injection h with h;have hl:O.length=F.length:=by
       have:=congrArg Qx h;lia
      refine⟨λj hj=>((Ri (hi j) (by lia) (by lia)).1).mpr (by rw[h]),hl⟩
theorem Zn1 (I:Inv X pins σ H s){n:Nat}{a c:Addr}{vs vs':List V}{ds ds':List Dt}{A:Around}(q:SqT X.K H a vs)(l:vs.length=ds.length)(g:∀(j:Nat)(v:V)(d:Dt),vs[j]?=some v->ds[j]?=some d->IsD X.K H n v d)(q':SqT X.K H c vs')(l':vs'.length=ds'.length)(g':∀(j:Nat)(v:V)(d:Dt),vs'[j]?=some v->ds'[j]?=some d->IsD X.K H n v d)(p:∀d∈ds,Pu d)(p':∀d∈ds',Pu d)(hu:A.units+(n+1)<cLine):∃b:Bool,(b=true↔ds=ds')/\Uw A s (.ref a) (.ref c) b:=by
 obtain⟨O,r,pl,_⟩:=I.tuple q;obtain⟨F,r',ag,_⟩:=I.tuple q';have hi:∀j:Nat,∃b:Bool,∀(h1:j<O.length)(h2:j<F.length),(b=true↔ds[j]?=ds'[j]?)/\P0 A.in1 s O[j] F[j] b:=λj=>by
  by_cases h1:j<O.length
  ·by_cases h2:j<F.length
   ·have k1:=r.length;have k2:=r'.length;have ev:vs[j]?=some (vs[j]'(by lia)):=Pj _;have Z:vs'[j]?=some (vs'[j]'(by lia)):=Pj _;have ed:ds[j]?=some (ds[j]'(by lia)):=Pj _;have U:ds'[j]?=some (ds'[j]'(by lia)):=Pj _;obtain⟨w,hw,aa⟩:=r.get ev;obtain⟨w',Y,ae⟩:=r'.get Z;rw[Pj h1]at hw;rw[Pj h2]at Y;cases hw;cases Y;obtain⟨b,b1,b2⟩:=Zmz I (g j _ _ ev ed) (g' j _ _ Z U) (p _ (Q4 _)) (p' _ (Q4 _)) (A:=A.in1) aa ae (by show A.units+1+n<cLine;lia);refine⟨b,λ_ _=>⟨?_,b2⟩⟩;rw[b1,ed,U];exact⟨λh=>by rw[h],λh=>Pz h⟩
   ·exact⟨false,λ_ h=>absurd h h2⟩
  ·exact⟨false,λh=>absurd h h1⟩
 have T:=Wr (A:=A) (e:=λj=>Uh (hi j)) (show s.heap.IsTuple a O.toArray from pl) (show s.heap.IsTuple c F.toArray from ag) (by lia) (λj h1 h2=>by
  have:=(Ri (hi j) (by simpa using h1) (by simpa using h2)).2;simpa using this)
 refine⟨_,?_,T⟩;have k1:=r.length;have k2:=r'.length;simp only[Po,R3,Sa,Q0,beq_iff_eq];constructor
 ·rintro⟨h1,h2⟩;refine Wu λj=>?_;by_cases hj:j<O.length
  ·exact((Ri (hi j) hj (by lia)).1).mp (h1 j (by lia))
  ·rw[Rq (by lia),Rq (by lia)]
 ·intro h;have hl:O.length=F.length:=by
   have:=congrArg Qx h;lia
  refine⟨λj hj=>((Ri (hi j) (by lia) (by lia)).1).mpr (by rw[h]),hl⟩
end
section
variable {X:Cx}
def N4 (K:Ph):R2:=λx y H Q=>(Iw x y=true/\Q (.bl (decide (x=y))) H)\/eX5 λ(a c:Addr)(n:Nat)(d d':Dt)=>x=.ref a/\y=.ref c/\n<=190/\IsD K H n (.ref a) d/\IsD K H n (.ref c) d'/\Pu d/\Pu d'/\∀b:Bool,(b=true↔d=d')->Q (.bl b) H
theorem Zro (hu:X.A.units+200<cLine):OpR X (compareOp .Eq) (λx y H Q=>eX5 λ(a c:Addr)(n:Nat)(d d':Dt)=>x=.ref a/\y=.ref c/\n<=190/\IsD X.K H n (.ref a) d/\IsD X.K H n (.ref c) d'/\Pu d/\Pu d'/\∀b:Bool,(b=true↔d=d')->Q (.bl b) H):=by
 intro pins s σ H x y v u Q I rx ry h;obtain⟨a,c,n,d,d',rfl,rfl,hn,hx,hy,p,F,q⟩:=h;cases rx;cases ry;cases hx with
 |flat U=>cases U
 |lst _ _ _=>cases p
 |tup Z O g1 =>
  cases hy with
  |flat Y=>cases Y
  |lst _ _ _=>cases F
  |tup q2 l2 g2 =>
   cases p with
   |tup p =>
   cases F with
   |tup F =>
   obtain⟨b,b1,b2⟩:=Zn1 I (A:=X.A) Z O g1 q2 l2 g2 p F (by lia);exact b2 _ _ _ _ ⟨.bl b,H,I,rfl,q b (by rw[b1];exact⟨λh=>by rw[h],λh=>by injection h⟩)⟩
theorem s_eqk {K:Ph}{x y:V}{H:Hp}{Q:VK}(hs:Iw x y=true)(h:Q (.bl (decide (x=y))) H):N4 K x y H Q:=.inl ⟨hs,h⟩
theorem Zrj {K:Ph}{a c:Addr}{H:Hp}{Q:VK}{n:Nat}{d d':Dt}(hn:n<=190)(hx:IsD K H n (.ref a) d)(hy:IsD K H n (.ref c) d')(p:Pu d)(p':Pu d')(h:∀b:Bool,(b=true↔d=d')->Q (.bl b) H):N4 K (.ref a) (.ref c) H Q:=.inr ⟨a,c,n,d,d',rfl,rfl,hn,hx,hy,p,p',h⟩
theorem Fz (K:Ph)(hu:X.A.units+200<cLine)(hK:autoParam (X.K=K) zX):OpR X (compareOp .Eq) (N4 K):=by subst hK;exact op_eq.or (Zro hu)
noncomputable def Zr8 (z:Int):Value->Bool
 |.int a _=>a == z
 |_=>false
theorem Zeh:∀{ws:List Int}{us:List Value}{j:Nat}{u:Value},Vals (ws.map V.int) us->us[j]?=some u->∃a t,u=.int a t/\ws[j]?=some a
 |[],_,j,u,.nil,h=>by simp at h
 |a::r,_,0,u,.cons I _,h=>by
  obtain⟨t,rfl⟩:=I;have h:u=.int a t:=by simpa using h.symm
  exact⟨a,t,h,rfl⟩
 |a::r,_,j+1,u,.cons _ F,h=>by
  obtain⟨b,t,O,U⟩:=Zeh (j:=j) F (by simpa using h);exact⟨b,t,O,by simpa using U⟩
def Zl7 (K:Ph):V->List V->Hp->VK->Prop:=λx vs H Q=>eX4 λ(l:Addr)(z:Int)(ws:List Int)(j:Nat)=>x=.ref l/\vs=[.int z]/\SqL K H l (ws.map V.int)/\ws[j]?=some z/\(∀m<j,ws[m]?≠some z)/\ws.length<=1000/\Q (.int (j:Nat)) H
theorem Zqn (K:Ph)(hK:autoParam (X.K=K) zX):Ht X "list.index" (Zl7 K):=by
 subst hK;intro pins s σ H x vs v us Q I rx rv h;obtain⟨l,z,ws,j,rfl,rfl,hl,hj,ag,hz,q⟩:=h;cases rx;obtain⟨u,rfl,ru⟩:=rv.one;obtain⟨t,rfl⟩:=ru;obtain⟨O,r,p,_⟩:=I.list hl;have aa:=r.length;rw[Pp]at aa;have ak:=(Pq.mp hj).1;obtain⟨⟨aj,dd,ai,sl⟩,ho,hc,n,hd⟩:=id p.isList;simp only at hc hd;subst hc hd;have U:∀m (Y:m<O.toArray.size),∃a t,O.toArray[m]=.int a t/\ws[m]?=some a:=λm Y=>by
  have ah:m<O.length:=by simpa using Y
  have:=Zeh r (Pj ah);simpa using this
 refine Sr PySem.F.slot_list_index ⟨_,ho,rfl⟩ PySem.F.entry_list_index (PySem.F.args_list_index_2 _ _) (SeqAt.list_indexAt l O.toArray n dd sl (.int z t) (Zr8 z) j (by rw[Po];lia) (by lia) ?_ ?_) ⟨ho,λy hy=>?_,?_⟩
 ·obtain⟨a,t',Z,e2⟩:=U j (by rw[Po];lia);rw[hj]at e2;cases e2;rw[Z];show(z == z)=true;simp
 ·intro m Y ae;obtain⟨a,t',Z,e2⟩:=U m Y;rw[Z];show(a == z)=false;have:a≠z:=λe=>ag m ae (by rw[e2,e]);simpa using this
 ·obtain⟨m,Y,rfl⟩:=Array.mem_iff_getElem.mp hy;obtain⟨a,t',Z,e2⟩:=U m Y;rw[Z];exact Ve a t' z t
 ·exact⟨.int (j:Nat),H,I.tok _,⟨_,rfl⟩,q⟩
end
end L2
local macro_rules | `(tactic| walk_at "sc")=>`(tactic| exact⟨rfl,rfl,rfl,by decide +kernel,rfl,by decide +kernel,by decide +kernel⟩)
namespace L2
open PySem PySem.Spec PyProof.Rows
theorem Bo:0<=sizeLine:=by decide
theorem B5:1<=sizeLine:=by decide
theorem sz13:13<=sizeLine:=by decide
theorem Bq:2<=sizeLine:=by decide
theorem Bg:3<=sizeLine:=by decide
theorem Jy:4<=sizeLine:=by decide
theorem sz5:5<=sizeLine:=by decide
theorem sz8:8<=sizeLine:=by decide
theorem sz9:9<=sizeLine:=by decide
theorem Room.m (r:Room k A)(h:autoParam (j<=k) zW):Room j A:=r.mono h
section
variable {X:Cx}{a b:Expr}{ta tb:TE}{pos:Pos}{K:Ph}
theorem As (i:Nat)(S:Bm X.N ps sc)(he:QE X e te)(hi:autoParam (X.N[i]?=some x) zX)(hx:Fg X.env.scope x:=by exact Or.inl rfl)(hs:autoParam (swapsWith e (some (.Name x pos')) pos.line X.env=pure false) zX)(hf:autoParam (X.fn x=true\/X.env.scope.names.lookup x=some .local) zQ):QS X (.Assign [.Name x pos'] e pos) (G7 te (He i)):=Lp S.nd hi hx he hs hf
theorem Ah (K:Ph)(ha:QE X a ta)(hb:QE X b tb)(hs:Zce b:=by exact λ_ _=>rfl)(hK:autoParam (X.K=K) zX):QE X (.Subscript a b pos) (Fv (Jk K) ta tb):=Zu1 (k_ix K hK) ha hb hs
end
end L2
namespace K38
theorem lz1 {α:Type}{vs:List α}(h:vs.length=1):∃u,vs=[u]:=by
 cases vs with
 |nil=>cases h
 |cons u r=>cases Re (Nat.succ.inj h);exact⟨u,rfl⟩
theorem lz2 {α:Type}{vs:List α}(h:vs.length=2):∃u v,vs=[u,v]:=by
 cases vs with
 |nil=>cases h
 |cons u r=>obtain⟨v,rfl⟩:=lz1 (Nat.succ.inj h);exact⟨u,v,rfl⟩
end K38
namespace K38
open PySem L2
noncomputable def top (i:Nat):Stmt:=Sv.main.body.getD i (.Pass ⟨0,0,0,0⟩)
noncomputable abbrev Ln:Stmt:=top 5
noncomputable abbrev L4:Stmt:=top 7
noncomputable abbrev Lg:Stmt:=top 8
noncomputable abbrev Mh:Stmt:=top 9
noncomputable abbrev Lr:Stmt:=top 11
noncomputable abbrev Ka:Stmt:=top 12
noncomputable abbrev K4:Stmt:=top 13
noncomputable abbrev L7:Stmt:=top 14
noncomputable abbrev Mf:Stmt:=top 19
noncomputable abbrev Lo:Stmt:=top 20
noncomputable abbrev Kv:Stmt:=top 21
noncomputable abbrev Me:Stmt:=top 22
noncomputable abbrev Mj:Stmt:=top 23
noncomputable abbrev Kc:Stmt:=top 24
noncomputable abbrev Mb:Stmt:=top 25
noncomputable abbrev L9:Stmt:=top 26
noncomputable abbrev L3:Stmt:=top 27
noncomputable abbrev Kb:Stmt:=top 30
noncomputable abbrev Lz:Stmt:=top 31
noncomputable abbrev Mi:Stmt:=top 33
noncomputable abbrev Kt:Stmt:=top 34
noncomputable abbrev Ir:Stmt:=top 35
noncomputable abbrev K8:Stmt:=top 36
noncomputable abbrev Mc:Stmt:=top 37
noncomputable abbrev Ju:Stmt:=top 38
noncomputable abbrev Km:Stmt:=top 39
noncomputable abbrev L1:Stmt:=top 40
noncomputable abbrev Ma:Stmt:=top 41
noncomputable abbrev K6:Stmt:=top 42
noncomputable abbrev Lh:Stmt:=top 43
noncomputable abbrev Kp:Stmt:=top 44
noncomputable abbrev L6:Stmt:=top 45
noncomputable abbrev Mm:Stmt:=top 46
noncomputable abbrev J2:Stmt:=top 47
noncomputable abbrev Jl:Stmt:=top 48
noncomputable abbrev Js:Stmt:=top 49
noncomputable abbrev Jb:Stmt:=top 50
noncomputable abbrev Kf:Stmt:=top 51
structure Txt (K:Ph)(mg:Str->Option Value):Prop where
 isinstance:mg "isinstance"=none
 int:mg "int"=none
 bool:mg "bool"=none
 reversed:mg "reversed"=none
 list:mg "list"=none
 enumerate:mg "enumerate"=none
 len:mg "len"=none
 dict:mg "dict"=none
 zip:mg "zip"=none
 tuple:mg "tuple"=none
 range:mg "range"=none
 str:mg "str"=none
structure Script (K:Ph)(H:Hp)(a:Addr):Prop where
 ex:∃ns:List Int,SqL K H a (ns.map V.int)/\ns.length<=63
theorem Script.same (S:Script K H a)(h:Same H H'):Script K H' a:=by
 obtain⟨ns,q,l⟩:=S.ex;exact⟨ns,h.seq q,l⟩
theorem big:100000<=sizeLine:=by decide
inductive Sh where
 |num|truth|any|to (a b:Nat)|same (k:Nat)
 deriving DecidableEq
noncomputable def shV:Sh->List V
 |.num=>[.str "num"]
 |.truth=>[.str "truth"]
 |.any=>[.str "any"]
 |.to a b=>[.str "to",.int (a:Nat),.int (b:Nat)]
 |.same k=>[.str "same",.int (k:Nat)]
noncomputable def Sh.parts:Sh->List Nat
 |.to a b=>[a,b]
 |.same k=>[k]
 |_=>[]
noncomputable def Sh.wd:Sh->Str
 |.num => "num"
 |.truth => "truth"
 |.any => "any"
 |.to _ _ => "to"
 |.same _ => "same"
theorem Zus (s:Sh):shV s=.str s.wd::s.parts.map λn=>V.int ((n:Nat):Int):=by cases s <;> rfl
noncomputable def Sh.isSame:Sh->Bool
 |.same _=>true
 |_=>false
noncomputable abbrev Af:=List Sh
inductive LastN (sh:Af):Nat->Nat->Nat->Prop where
 |root {i:Nat} {s:Sh} (h:sh[i]?=some s) (hs:s.isSame=false):LastN sh 0 i i
 |step {n i k r:Nat} (h:sh[i]?=some (.same k)) (t:LastN sh n k r):LastN sh (n+1) i r
def Last (sh:Af)(i r:Nat):Prop:=∃n,LastN sh n i r
theorem LastN.at (h:LastN sh n i r):∃s,sh[r]?=some s/\s.isSame=false:=by
 induction h with
 |root h I=>exact⟨_,h,I⟩
 |step _ _ F=>exact F
theorem Last.at (h:Last sh i r):∃s,sh[r]?=some s/\s.isSame=false:=let ⟨_,h⟩:=h;h.at
theorem LastN.uniq (h:LastN sh n i r)(h':LastN sh m i r'):r=r':=by
 induction h generalizing m r' with
 |root h F =>
  cases h' with
  |root=>rfl
  |step h2 _=>rw[h]at h2;cases h2;cases F
 |step h _ I =>
  cases h' with
  |root h2 F=>rw[h]at h2;cases h2;cases F
  |step h2 t=>rw[h]at h2;cases h2;exact I t
theorem Last.uniq (h:Last sh i r)(h':Last sh i r'):r=r':=let ⟨_,h⟩:=h;let ⟨_,h'⟩:=h';h.uniq h'
noncomputable abbrev Ps:=Nat->Option Bool
noncomputable def Bl (ps:Ps)(i:Nat)(b:Bool):Ps:=λj=>if j=i then some b else ps j
inductive Eu (sh:Af)(ps:Ps):List Nat->List Nat->Option (List Nat)->Prop where
 |nil {w:List Nat}:Eu sh ps [] w (some w)
 |hit {p r:Nat} {rest w:List Nat} (h:Last sh p r) (h2:ps r=some false):Eu sh ps (p::rest) w none
 |go {p r:Nat} {rest w:List Nat} {o:Option (List Nat)} (h:Last sh p r) (h2:ps r≠some false) (t:Eu sh ps rest (w++[r]) o):Eu sh ps (p::rest) w o
inductive HoldsN (sh:Af):Nat->Ps->List Nat->Bool->Prop where
 |nil {ps:Ps}:HoldsN sh 0 ps [] false
 |seen {n:Nat} {ps:Ps} {w:List Nat} {top:Nat} {x b:Bool} (h:ps top=some x) (t:HoldsN sh n (Bl ps top true) w b):HoldsN sh (n+1) ps (w++[top]) b
 |hit {ps:Ps} {w:List Nat} {top:Nat} {s:Sh} (h:ps top=none) (hs:sh[top]?=some s) (hp:Eu sh (Bl ps top false) s.parts (w++[top]) none):HoldsN sh 1 ps (w++[top]) true
 |go {n:Nat} {ps:Ps} {w w':List Nat} {top:Nat} {s:Sh} {b:Bool} (h:ps top=none) (hs:sh[top]?=some s) (hp:Eu sh (Bl ps top false) s.parts (w++[top]) (some w')) (t:HoldsN sh n (Bl ps top false) w' b):HoldsN sh (n+1) ps (w++[top]) b
inductive JoinN:Nat->Af->List (Nat×Nat)->Option Af->Prop where
 |nil {m:Af}:JoinN 0 m [] (some m)
 |eq {n:Nat} {m:Af} {w:List (Nat×Nat)} {p:Nat×Nat} {l:Nat} {o:Option Af} (h1:Last m p.1 l) (h2:Last m p.2 l) (t:JoinN n m w o):JoinN (n+1) m (w++[p]) o
 |anyR {n:Nat} {m:Af} {w:List (Nat×Nat)} {p:Nat×Nat} {l r:Nat} {o:Option Af} (h1:Last m p.1 l) (h2:Last m p.2 r) (ne:l≠r) (hr:m[r]?=some .any) (t:JoinN n (m.set r (.same l)) w o):JoinN (n+1) m (w++[p]) o
 |anyL {n:Nat} {m:Af} {w:List (Nat×Nat)} {p:Nat×Nat} {l r:Nat} {sr:Sh} {o:Option Af} (h1:Last m p.1 l) (h2:Last m p.2 r) (ne:l≠r) (hr:m[r]?=some sr) (hn:sr≠.any) (hl:m[l]?=some .any) (t:JoinN n (m.set l (.same r)) w o):JoinN (n+1) m (w++[p]) o
 |to {n:Nat} {m:Af} {w:List (Nat×Nat)} {p:Nat×Nat} {l r a b c d:Nat} {o:Option Af} (h1:Last m p.1 l) (h2:Last m p.2 r) (ne:l≠r) (hl:m[l]?=some (.to a b)) (hr:m[r]?=some (.to c d)) (t:JoinN n (m.set l (.same r)) (w++[(a,c),(b,d)]) o):JoinN (n+1) m (w++[p]) o
 |clash {m:Af} {w:List (Nat×Nat)} {p:Nat×Nat} {l r:Nat} {sl sr:Sh} (h1:Last m p.1 l) (h2:Last m p.2 r) (ne:l≠r) (hl:m[l]?=some sl) (hr:m[r]?=some sr) (nl:sl≠.any) (nr:sr≠.any) (nt:sl.wd≠"to"\/sr.wd≠"to"):JoinN 1 m (w++[p]) none
inductive FitG:List (Nat×Nat)->Af->List Bool->Af->Prop where
 |nil {m:Af}:FitG [] m [] m
 |ok {g a n k r:Nat} {m m1 m':Af} {ps:List (Nat×Nat)} {fs:List Bool} (j:JoinN n m [(g,a)] (some m1)) (hn:n<=1000) (l:Last m1 g r) (h:HoldsN m1 k (λ_=>none) [r] false) (hk:k<=1000) (t:FitG ps m1 fs m'):FitG ((g,a)::ps) m (true::fs) m'
 |clash {g a n:Nat} {m m':Af} {ps:List (Nat×Nat)} {fs:List Bool} (j:JoinN n m [(g,a)] none) (hn:n<=1000) (t:FitG ps m fs m'):FitG ((g,a)::ps) m (false::fs) m'
 |loop {g a n k r:Nat} {m m1 m':Af} {ps:List (Nat×Nat)} {fs:List Bool} (j:JoinN n m [(g,a)] (some m1)) (hn:n<=1000) (l:Last m1 g r) (h:HoldsN m1 k (λ_=>none) [r] true) (hk:k<=1000) (t:FitG ps m fs m'):FitG ((g,a)::ps) m (false::fs) m'
end K38
local macro_rules | `(tactic| walk_at "r1")=>do
  let t0:=(("s_seq s_asg s_ret s_ifS s_ifE s_dget s_din s_dput s_dget2 s_izipm s_dnotin s_listzt s_listr s_dget1 s_isB s_par s_test s_op s_c s_cons s_nil s_call s_cb s_gname s_ex s_exi s_drop s_next s_un s_tB s_not s_and s_or s_andV s_orV s_notV s_vals s_tup s_lst s_bm s_bm0 s_sl s_po s_po0 s_gcons s_gnil s_gsub s_isN s_notN s_rI0 s_rU s_add_int s_lt s_le iteT iteF s_comp s_for s_rng1 s_rng3 s_exr s_iany s_irev s_ienum s_listen s_listrev s_izip s_ienumT s_listzp s_ipI s_yes s_turn s_int_b s_intb s_truth s_chain s_nt s_nf".splitOn " ").map λs=>Lean.mkIdent (.str `L2 s)).toArray
  let t1:=(("s_var s_aug s_eq s_ne s_neb s_eqy s_eqk".splitOn " ").map λs=>Lean.mkIdent (.str `L2 s)).toArray
  `(tactic| (first|(with_reducible first $[|refine $t0 ?_]*)|(first $[|((with_reducible refine' $t1 ?e ?_); (case e=>exact rfl))]*)|((with_reducible refine' L2.s_rI ?c ?_); (case c=>first|decide|exact⟨by decide,by decide⟩|exact⟨by decide,by decide,by decide⟩))|((with_reducible refine' L2.s_mul_r ?a ?b ?_); (case a=>decide); (case b=>decide))|((with_reducible refine' L2.s_mul_l ?a ?b ?_); (case a=>decide); (case b=>decide))|((with_reducible refine' L2.s_exr3 ?e ?_); (case e=>decide))))
local macro_rules | `(tactic| walk_at "r")=>`(tactic| (repeat walk_at "r1"))
local macro_rules | `(tactic| left)=>`(tactic| walk_at "r")
local macro_rules | `(tactic| walk_at "q")=>do
  let t0:=(("s_gcons s_gname s_gnil s_seq s_asg s_c s_lst s_tup s_cons s_nil".splitOn " ").map λs=>Lean.mkIdent (.str `L2 s)).toArray
  `(tactic| (repeat (first|(with_reducible first $[|refine $t0 ?_]*)|((with_reducible refine' L2.s_var ?e ?_); (case e=>exact rfl)))))
namespace K38
open PySem L2
section
variable {P:Program}{w:World}{K:Ph}{mg:Str->Option Value}{base:Heap}
def ShE (K:Ph)(H:Hp)(u:V)(s:Sh):Prop:=∃p,u=.ref p/\SqT K H p (shV s)
structure ShG (K:Ph)(H:Hp)(a:Addr)(sh:Af):Prop where
 ex:∃us:List V,H a=some (.lst us)/\Al (ShE K H) us sh
theorem ShE.same (e:SameT H H')(u:V)(s:Sh)(h:ShE K H u s):ShE K H' u s:=let ⟨p,e1,q⟩:=h;⟨p,e1,e.tup q⟩
theorem ShG.same (h:ShG K H a sh)(s:Same H H'):ShG K H' a sh:=let ⟨us,e,al⟩:=h.ex;⟨us,s _ _ e,al.mono (ShE.same s.t)⟩
theorem ShG.at (h:ShG K H a sh)(hi:sh[i]?=some s):∃us p,H a=some (.lst us)/\B8 us ((i:Nat):Int)=some (.ref p)/\SqT K H p (.str s.wd::s.parts.map λn=>V.int ((n:Nat):Int)):=by
 obtain⟨us,e,I⟩:=h.ex;obtain⟨u,F,p,rfl,q⟩:=I.get' hi;rw[Zus]at q;exact⟨us,p,e,C2 F,q⟩
theorem Zfm (s:Sh):decide (V.str s.wd=V.str "same")=s.isSame:=by
 cases s with
 |to a b=>exact(by decide:decide (V.str "to"=V.str "same")=false)
 |same k=>exact(by decide:decide (V.str "same"=V.str "same")=true)
 |_=>decide
theorem Ei:B8 (x::xs) 0=some x:=by
 have h:B8 (x::xs) ((0:Nat):Int)=some x:=C2 rfl;exact h
inductive Zqj (K:Ph)(vs:List V)(H:Hp)(Q:VK)(e9:XK):Prop
 |mk (a:Addr) (sh:Af) (i r:Nat) (_:vs=[.ref a,.int (i:Nat)]) (_:ShG K H a sh) (_:Last sh i r) (_:Q (.int (r:Nat)) H)
def Nv (K:Ph):Sp:=Zqj K
theorem Zcc:Bm ["shapes","kind","last"] ["shapes","kind"] (Bh Mj):=by walk_at "sc"
theorem Zqu (F:Fun K "last_same" "last_same" Mj f fd)(T:Txt K mg):A8 P w K mg base A9 1 f fd ["shapes","kind"] (Nv K):=by
 refine F.okq Zcc (λvs H Q E h=>?_) (λZ A outer s H vs Q E hr h=>?_)
 ·obtain⟨a,sh,i,r,rfl,_⟩:=h;rfl
 ·obtain⟨a,sh,i,r,rfl,S,⟨n0,L⟩,q⟩:=h;refine⟨_,Ae (As 2 Zcc (qv 1))
   (Ae (Iv Qc (Aw (Bf K hr.u200) (Ah K (Ah K (qv 0) (qv 2)) Ad) Aj (A0 _)) (Ag (As 2 Zcc (Ah K (Ah K (qv 0) (qv 2)) Ad))))
   (Ag (Ar (qv 2)))),?_⟩
  left;refine⟨λn I H'=>H'=H/\∃j:Nat,I=[some (.ref a),some (.int (i:Nat)),some (.int (j:Nat))]/\LastN sh n j r,⟨n0,rfl,i,rfl,L⟩,?_⟩;rintro n I H' ⟨rfl,j,rfl,L⟩;left;cases L with
  | @root _ s h hs =>
   obtain⟨us,p,e,U,O⟩:=S.at h;refine Ba (SqL.of e) U ?_;left;refine Ao O Ei ?_;left;rw[Zfm,hs];left;exact q
  | @step n _ k _ h t =>
   obtain⟨us,p,e,U,O⟩:=S.at h;refine Ba (SqL.of e) U ?_;left;refine Ao O Ei ?_;left;rw[Zfm,show(Sh.same k).isSame=true from rfl];refine iteT ?_;refine⟨λY H2=>∃m',m'<n+1/\H2=H'/\∃j':Nat,Y=[some (.ref a),some (.int (i:Nat)),some (.int (j':Nat))]/\LastN sh m' j' r,λ_ _ h=>h,?_⟩;left;refine Ba (SqL.of e) U ?_;left;refine Ao O rfl ?_;left;exact⟨n,by lia,rfl,k,rfl,t⟩
noncomputable def Aq (ns:List Nat):List V:=ns.map λn=>V.int ((n:Nat):Int)
theorem Gm (a b:List Nat):Aq (a++b)=Aq a++Aq b:=by unfold Aq;exact Qv ..
def DcN {α:Type}(kvs:List (Av×V))(ps:Nat->Option α)(g:α->V):Prop:=∀i:Nat,Bw kvs (.inl ((i:Nat):Int))=(ps i).map g
theorem Zim (h:(Sum.inl ((i:Nat):Int):Av)=.inl ((j:Nat):Int)):i=j:=by have:=V4 h;lia
theorem DcN.put {α:Type}{kvs:List (Av×V)}{ps:Nat->Option α}{g:α->V}(h:DcN kvs ps g)(i:Nat)(x:α):DcN (Bp kvs (.inl ((i:Nat):Int)) (g x)) (λj=>if j=i then some x else ps j) g:=λj=>by
 rw[Li];show _=Option.map g (if j=i then some x else ps j);by_cases F:j=i
 ·rw[if_pos (by rw[F]),if_pos F];rfl
 ·rw[if_neg λz=>F (Zim z),if_neg F];exact h j
theorem Nt {s:Sh}:Cb (V.str s.wd::s.parts.map λn=>V.int ((n:Nat):Int)) (some 1) none=Aq s.parts:=by
 cases s <;> rfl
theorem Mq {s:Sh}:¬(HT.sIx (V.str s.wd::s.parts.map λn=>V.int ((n:Nat):Int)).length 0 (some 1)=0/\HT.sIx (V.str s.wd::s.parts.map λn=>V.int ((n:Nat):Int)).length (V.str s.wd::s.parts.map λn=>V.int ((n:Nat):Int)).length none=(V.str s.wd::s.parts.map λn=>V.int ((n:Nat):Int)).length):=by
 rintro⟨h,_⟩;rw[show(1:Int)=((1:Nat):Int) from rfl,HT.sIx_nat,Pw]at h;lia
theorem Zaz (s:Sh):s.parts.length<=2:=by cases s <;> simp[Sh.parts]
theorem HoldsN.inv {sh:Af}{n:Nat}{ps:Ps}{w:List Nat}{b:Bool}(h:HoldsN sh n ps w b):(w=[]/\b=false)\/(eX4 λw1 top x n'=>w=w1++[top]/\n=n'+1/\ps top=some x/\HoldsN sh n' (Bl ps top true) w1 b) \/
  eX5 λw1 top s o n'=>w=w1++[top]/\n=n'+1/\ps top=none/\sh[top]?=some s/\Eu sh (Bl ps top false) s.parts (w1++[top]) o/\(o=none->b=true)/\∀w',o=some w'->HoldsN sh n' (Bl ps top false) w' b:=by
 cases h with
 |nil=>exact .inl ⟨rfl,rfl⟩
 |seen h t=>exact .inr (.inl ⟨_,_,_,_,rfl,rfl,h,t⟩)
 |hit h F I=>exact .inr (.inr ⟨_,_,_,_,0,rfl,rfl,h,F,I,λ_=>rfl,λ_ e=>by cases e⟩)
 |go h F I t=>exact .inr (.inr ⟨_,_,_,_,_,rfl,rfl,h,F,I,λe=>(by cases e),λ_ e=>by cases e;exact t⟩)
theorem Zfl {H:Hp}{x y:Addr}{us vs:List V}(h:H x=some (.lst us))(h':H y=some (.tup vs)):y≠x:=λz=>by rw[z,h]at h';cases h'
inductive Zme (K:Ph)(vs:List V)(H:Hp)(Q:VK)(e9:XK):Prop
 |mk (a:Addr) (sh:Af) (i r N:Nat) (b:Bool) (_:vs=[.ref a,.int (i:Nat)]) (_:ShG K H a sh) (_:Last sh i r) (_:HoldsN sh N (λ_=>none) [r] b) (_:N<=1000) (_:∀H',Same H H'->Q (.bl b) H')
def Ziy (K:Ph):Sp:=Zme K
structure HoJ (K:Ph)(H:Hp)(pd pw:Addr)(N n:Nat)(ps:Ps)(w:List Nat)(H':Hp):Prop where
 ed:∃kvs,H' pd=some (.dK kvs)/\DcN kvs ps V.bl/\kvs.length+n<=N
 ew:H' pw=some (.lst (Aq w))
 wl:w.length+2*n<=1+2*N
 sm:Same H H'
theorem sc_holds_itself:Bm ["shapes","kind","passed","waiting","top","part","inner"] ["shapes","kind"] (Bh Kc):=by walk_at "sc"
theorem Zm9 (F:Fun K "holds_itself" "holds_itself" Kc f fd)(T:Txt K mg)(C_last_same:A7 P w K mg base 1 "last_same" ["shapes","kind"] (Nv K)):A8 P w K mg base A9 2 f fd ["shapes","kind"] (Ziy K):=by
 refine F.okq sc_holds_itself (λvs H Q E h=>?_) (λa4 A outer s H vs Q E hr h=>?_)
 ·obtain⟨a,sh,i,r,N,b,rfl,_⟩:=h;rfl
 ·obtain⟨a,sh,i,r,N,b,rfl,S,L,HN,hN,q⟩:=h;refine⟨_,Ae (As 2 sc_holds_itself (Np))
   (Ae (As 3 sc_holds_itself (Bc (Aa (A5 C_last_same hr.m (Aa (qv 0) (Aa (qv 1) Ab))) Ab)))
   (Ae (Iv Qc (Je K (qv 3) (by intro _;rfl)) (Ae (As 4 sc_holds_itself (Ah K (qv 3) (Mg Ke Ad)))
   (Ae (Au (E6 (Zbs hr.u1 (qv 4) (qv 2))) (Ae (Gh hr.u1 (qv 2) (qv 4) Dz)
   (Ae (Cr (Ky K Qd Tz T0 Ki (qv 3)))
   (Ag (Zeo)))) Ay)
   (Ae (Gh hr.u1 (qv 2) (qv 4) Dz)
   (Ag (Cw Qc rfl (D6 K (Er (Fm K) (Ah K (qv 0) (qv 4)) (Dm Ad) (Go))) (Bb (i:=5) sc_holds_itself.nd rfl (Or.inl rfl)) (Ae (As 6 sc_holds_itself (A5 C_last_same hr.m (Aa (qv 0) (Aa (qv 5) Ab))))
   (Ae (Au (Aw Zmg (Zor hr.u1 (qv 2) (qv 6)) Dz (A0 _)) (Ag (Ar Dz)) Ay)
   (Ag (Cr (Cu K Qd Qs Qt C9 (qv 3) (Aa (qv 6) Ab))))))))))))
   (Ag (Ar Dz)))),?_⟩
  have bg:=big;left;refine λI ao=>?_;have s1:=Same.upd (o:=.dK []) ao;left;refine⟨a,sh,i,r,rfl,S.same s1,L,?_⟩;left;refine⟨B5,λpw al=>?_⟩;have s2:=Same.upd (o:=.lst [.int (r:Nat)]) al;have nd:I≠pw:=A6 Ac al;have aj:=s1.free al;left;refine⟨λn O H'=>eX5 λv4 v5 v6 ps w=>O=[some (.ref a),some (.int (i:Nat)),some (.ref I),some (.ref pw),v4,v5,v6]/\HoJ K H I pw N n ps w H'/\HoldsN sh n ps w b,
   ⟨N,none,none,none,λ_=>none,[r],rfl,⟨⟨[],s2 _ _ Ac,λ_=>rfl,by simp⟩,Ac,by simp,s1.trans s2⟩,HN⟩,?_⟩
  rintro n O H1 ⟨v4,v5,v6,ps,w0,rfl,J,hh⟩;obtain⟨kvs,ed,dc,kl⟩:=J.ed;have ew:=J.ew;have wl:=J.wl;have sm:=J.sm;left;refine Ho (SqL.of ew) ?_;have ai:∀(w':List Nat)(top:Nat),w0=w'++[top]->(!(Aq w0).isEmpty)=true/\Aq w0=Aq w'++[.int (top:Nat)]:=λw' top e=>by
   have:Aq w0=Aq w'++[.int (top:Nat)]:=by rw[e,Gm];rfl
   exact⟨by rw[this];simp,this⟩
  rcases hh.inv with⟨rfl,rfl⟩|⟨w1,top,x,n,rfl,rfl,h,t⟩|⟨w1,top,s,o,n,rfl,rfl,h,hs,hp,ho,ay⟩
  ·refine iteF ?_;left;exact q _ sm
  ·obtain⟨e1,e2⟩:=ai w1 top rfl;rw[e1];rw[e2]at ew;refine iteT ?_;refine⟨λap H2=>∃m',m'<n+1/\eX5 λv4 v5 v6 ps w=>ap=[some (.ref a),some (.int (i:Nat)),some (.ref I),some (.ref pw),v4,v5,v6]/\HoJ K H I pw N m' ps w H2/\HoldsN sh m' ps w b,λ_ _ h=>h,?_⟩;left;refine Ba (SqL.of ew) (Ls _ _) ?_;left;refine⟨I,_,rfl,DGet.k (k:=.inl ((top:Nat):Int)) ed,?_⟩;rw[dc top,h];refine⟨true,rfl,?_⟩;left;refine⟨I,_,rfl,DPut.k (k:=.inl ((top:Nat):Int)) ed (by lia),?_⟩;left;have U:upd H1 I (.dK (Bp kvs (.inl ((top:Nat):Int)) (.bl true))) pw=some (.lst (Aq w1++[.int (top:Nat)])):=by rw[Ai nd.symm];exact ew
   refine B9 (SqL.of U) ?_;refine Md U ?_;have hl:=Et kvs (.inl ((top:Nat):Int)) (.bl true);rw[Pr,Qg]at wl;exact⟨n,by lia,_,_,_,Bl ps top true,w1,rfl,⟨⟨_,by rw[Ai nd];exact Ac,dc.put top true,by lia⟩,Ac,by lia,(sm.over ao).over aj⟩,t⟩
  ·obtain⟨e1,e2⟩:=ai w1 top rfl;rw[e1];have as:=ew;rw[e2]at ew;refine iteT ?_;refine⟨λap H2=>∃m',m'<n+1/\eX5 λv4 v5 v6 ps w=>ap=[some (.ref a),some (.int (i:Nat)),some (.ref I),some (.ref pw),v4,v5,v6]/\HoJ K H I pw N m' ps w H2/\HoldsN sh m' ps w b,λ_ _ h=>h,?_⟩;left;refine Ba (SqL.of ew) (Ls _ _) ?_;left;refine⟨I,_,rfl,DGet.k (k:=.inl ((top:Nat):Int)) ed,?_⟩;rw[dc top,h];refine⟨false,rfl,?_⟩;left;refine⟨I,_,rfl,DPut.k (k:=.inl ((top:Nat):Int)) ed (by lia),?_⟩;have hl:=Et kvs (.inl ((top:Nat):Int)) (.bl false);have ak:DcN (Bp kvs (.inl ((top:Nat):Int)) (.bl false)) (Bl ps top false) V.bl:=dc.put top false;have an:upd H1 I (.dK (Bp kvs (.inl ((top:Nat):Int)) (.bl false))) I=some (.dK (Bp kvs (.inl ((top:Nat):Int)) (.bl false))):=Ac;have U:upd H1 I (.dK (Bp kvs (.inl ((top:Nat):Int)) (.bl false))) pw=some (.lst (Aq (w1++[top]))):=by rw[Ai nd.symm];exact as
   have ah:Same H (upd H1 I (.dK (Bp kvs (.inl ((top:Nat):Int)) (.bl false)))):=sm.over ao;revert an U ah;generalize upd H1 I (.dK (Bp kvs (.inl ((top:Nat):Int)) (.bl false)))=H2;generalize Bp kvs (.inl ((top:Nat):Int)) (.bl false)=aq at hl ak;intro an U ah;obtain⟨us,p,e,eu,qp⟩:=(S.same ah).at hs;left;refine Ba (SqL.of e) eu ?_;left;refine .inr (.inr ⟨p,_,rfl,qp,Mq,λp3 h3=>?_⟩);rw[Nt];have s3:=Same.upd (o:=.tup (Aq s.parts)) h3;refine .inr (.inl ⟨p3,rfl,⟨_,SqT.of Ac⟩,?_⟩);have a5:=Zaz s;rw[Pr,Qg]at wl;refine Zh4 (K:=K) (a:=p3) (xs:=Aq s.parts) (λj O H'=>eX3 λv5 v6 wj=>O=[some (.ref a),some (.int (i:Nat)),some (.ref I),some (.ref pw),some (.int (top:Nat)),v5,v6]/\H' I=some (.dK aq)/\H' pw=some (.lst (Aq wj))/\wj.length=w1.length+1+j/\Same H H'/\H' p3=some (.tup (Aq s.parts))/\Eu sh (Bl ps top false) (s.parts.drop j) wj o)
    ⟨_,_,w1++[top],rfl,s3 _ _ an,s3 _ _ U,by simp,ah.trans s3,Ac,hp⟩ ?_ ?_ ?_
   ·rintro j O H' _ ⟨_,_,_,_,_,_,_,_,e,_⟩;exact SqT.of e
   ·rintro j x O H3 hx ⟨au,a3,wj,rfl,ag,Y,lw,ae,am,aa⟩;have hj:j<s.parts.length:=by have:=(Pq.mp hx).1;unfold Aq at this;rwa[Pp]at this
    have ax:x=.int ((s.parts[j]:Nat):Int):=by unfold Aq at hx;rw[Qf,Pj hj]at hx;exact(Pz hx).symm
    subst ax;rw[Rn hj]at aa;have ar:∃Z,Last sh s.parts[j] Z/\((Bl ps top false Z=some false/\o=none)\/(Bl ps top false Z≠some false/\Eu sh (Bl ps top false) (s.parts.drop (j+1)) (wj++[Z]) o)):=by
     cases aa with
     |hit h1 h2=>exact⟨_,h1,.inl ⟨h2,rfl⟩⟩
     |go h1 h2 t=>exact⟨_,h1,.inr ⟨h2,t⟩⟩
    obtain⟨Z,av,hc⟩:=ar;left;refine⟨a,sh,s.parts[j],Z,rfl,S.same ae,av,?_⟩;left;refine⟨I,rfl,.inl ⟨_,.inl ag⟩,?_⟩;left;refine⟨_,DGet.k (k:=.inl ((Z:Nat):Int)) ag,?_⟩;rw[ak Z];rcases hc with⟨h1,h2⟩|⟨h1,h2⟩
    ·rw[h1];left;rw[show(decide ((Option.map V.bl (some false)).getD V.non=V.bl false))=true from rfl];left;have:=ho h2;subst this;exact q _ ae
    ·have hd:decide (((Bl ps top false Z).map V.bl).getD .non=V.bl false)=false:=by
      generalize Bl ps top false Z=z at h1
      match z,h1 with
      |none,_=>rfl
      |some true,_=>rfl
      |some false,h=>exact absurd rfl h
     left;rw[hd];left;refine B9 (SqL.of Y) ?_;left;have a0:(Aq wj).length<sizeLine:=by unfold Aq;rw[Pp];lia
     refine Cy Y a0 ?_;refine⟨_,_,wj++[Z],rfl,by rw[Ai nd];exact ag,by rw[Ac,Gm];rfl,by simp[lw];lia,ae.over aj,by rw[Ai (Zfl Y am)];exact am,h2⟩
   ·rintro O H3 ⟨au,a3,wj,rfl,ag,Y,lw,ae,am,aa⟩;have e9:(Aq s.parts).length=s.parts.length:=by unfold Aq;exact Pp ..
    rw[e9,Wx]at aa;cases aa;refine⟨n,by lia,_,_,_,Bl ps top false,wj,rfl,⟨⟨aq,ag,ak,by lia⟩,Y,by lia,ae⟩,ay wj rfl⟩
theorem ShG.off (h:ShG K H a sh)(n:a≠x)(e:H x=some (.lst zs)):ShG K (upd H x o) a sh:=by
 obtain⟨I,F,O⟩:=h.ex;exact⟨I,by rw[Ai n];exact F,O.mono (ShE.same (SameT.set e))⟩
theorem ShG.set (e:H a=some (.lst us))(al:Al (ShE K H) us sh)(hp:SqT K H p (shV s)):ShG K (upd H a (.lst (us.set i (.ref p)))) a (sh.set i s):=by
 have st:SameT H (upd H a (.lst (us.set i (.ref p)))):=SameT.set e;refine⟨us.set i (.ref p),Ac,by rw[Qp,Qp];exact al.1,λk u x F I=>?_⟩;by_cases O:k=i
 ·subst O;have U:=(Pq.mp F).1;rw[Qp]at U;rw[R4 U]at F;rw[R4 (by rw[<- al.1];exact U)]at I;have F:V.ref p=u:=by simpa using F
  have I:s=x:=by simpa using I
  subst I;exact⟨p,F.symm,st.tup hp⟩
 ·rw[Vb (λz=>O z.symm)]at F I;exact ShE.same st _ _ (al.2 k u x F I)
def PaAt (K:Ph)(H:Hp)(v:V)(x:Nat×Nat):Prop:=∃a,v=.ref a/\SqT K H a [.int (x.1:Nat),.int (x.2:Nat)]
theorem PaAt.same (e:SameT H H')(v:V)(x:Nat×Nat)(h:PaAt K H v x):PaAt K H' v x:=let ⟨a,e1,q⟩:=h;⟨a,e1,e.tup q⟩
def Zfh (m:Af)(g a:Nat):Option Af->Prop
 |none=>(∃n,n<=1000/\JoinN n m [(g,a)] none)\/eX4 λn k r m1=>n<=1000/\JoinN n m [(g,a)] (some m1)/\Last m1 g r/\HoldsN m1 k (λ_=>none) [r] true/\k<=1000
 |some m1=>eX3 λn k r=>n<=1000/\JoinN n m [(g,a)] (some m1)/\Last m1 g r/\HoldsN m1 k (λ_=>none) [r] false/\k<=1000
inductive Zt0 (K:Ph)(vs:List V)(H:Hp)(Q:VK)(e9:XK):Prop
 |mk (a:Addr) (sh:Af) (i j:Nat) (o:Option Af) (_:vs=[.ref a,.int (i:Nat),.int (j:Nat)]) (_:ShG K H a sh) (_:Zfh sh i j o) (_:(∀a' m1 H',o=some m1->Same H H'->H a'=none->ShG K H' a' m1->Q (.ref a') H')) (_:(∀H',o=none->Same H H'->Q .non H'))
def Zee (K:Ph):Sp:=Zt0 K
theorem Jo (s:Sh):decide (V.str s.wd=V.str "any")=decide (s=.any):=by
 cases s with
 |to a b=>exact(by decide:decide (V.str "to"=V.str "any")=false)
 |same k=>exact(by decide:decide (V.str "same"=V.str "any")=false)
 |_=>decide
theorem Za2 (s:Sh):decide (V.str s.wd=V.str "to")=decide (s.wd="to"):=by
 by_cases h:s.wd="to"
 ·rw[h];decide
 ·rw[decide_eq_false h,decide_eq_false (λe=>h (by injection e))]
theorem Ze9 {s:Sh}(h:s.wd="to"):∃a b,s=.to a b:=by
 cases s with
 |to a b=>exact⟨a,b,rfl⟩
 |num=>exact absurd h (by decide)
 |truth=>exact absurd h (by decide)
 |any=>exact absurd h (by decide)
 |same k=>exact absurd h (by show ¬(("same":Str)="to");decide)
theorem Zdn {α:Type}{R:V->α->Prop}{vs us:List V}{xs ys:List α}(h:Al R vs xs)(h2:Al R us ys):Al R (vs++us) (xs++ys):=by
 refine⟨by rw[Pr,Pr,h.1,h2.1],λj v x F I=>?_⟩;by_cases O:j<vs.length
 ·rw[Qh O]at F;rw[Qh (by rw[<- h.1];exact O)]at I;exact h.2 j v x F I
 ·rw[Qk (by lia)]at F;rw[Qk (by rw[<- h.1];lia),<- h.1]at I;exact h2.2 _ v x F I
structure JoJ (K:Ph)(H:Hp)(am pw:Addr)(N n:Nat)(m:Af)(w:List (Nat×Nat))(H':Hp):Prop where
 sh:ShG K H' am m
 ew:∃wv,H' pw=some (.lst wv)/\Al (PaAt K H') wv w
 wl:w.length+n<=1+N
 sm:Same H H'
theorem JoinN.inv {n:Nat}{m:Af}{w:List (Nat×Nat)}{o:Option Af}(h:JoinN n m w o):(w=[]/\o=some m)\/eX4 λw1 p l r=>w=w1++[p]/\Last m p.1 l/\Last m p.2 r/\((l=r/\∃n',n=n'+1/\JoinN n' m w1 o)\/(l≠r/\∃sl sr,m[l]?=some sl/\m[r]?=some sr /\
  ((sr=.any/\∃n',n=n'+1/\JoinN n' (m.set r (.same l)) w1 o)\/(sr≠.any/\sl=.any/\∃n',n=n'+1/\JoinN n' (m.set l (.same r)) w1 o)\/(eX5 λa b c d n'=>sl=.to a b/\sr=.to c d/\n=n'+1/\JoinN n' (m.set l (.same r)) (w1++[(a,c),(b,d)]) o) \/
   (sl≠.any/\sr≠.any/\(sl.wd≠"to"\/sr.wd≠"to")/\o=none)))):=by
 cases h with
 |nil=>exact .inl ⟨rfl,rfl⟩
 |eq h1 h2 t=>exact .inr ⟨_,_,_,_,rfl,h1,h2,.inl ⟨rfl,_,rfl,t⟩⟩
 | @anyR _ _ _ _ l r _ h1 h2 ne F t =>
  obtain⟨sl,I,_⟩:=h1.at;exact .inr ⟨_,_,_,_,rfl,h1,h2,.inr ⟨ne,sl,.any,I,F,.inl ⟨rfl,_,rfl,t⟩⟩⟩
 |anyL h1 h2 ne F O I t=>exact .inr ⟨_,_,_,_,rfl,h1,h2,.inr ⟨ne,_,_,I,F,.inr (.inl ⟨O,rfl,_,rfl,t⟩)⟩⟩
 |to h1 h2 ne I F t=>exact .inr ⟨_,_,_,_,rfl,h1,h2,.inr ⟨ne,_,_,I,F,.inr (.inr (.inl ⟨_,_,_,_,_,rfl,rfl,rfl,t⟩))⟩⟩
 |clash h1 h2 ne I F nl nr nt=>exact .inr ⟨_,_,_,_,rfl,h1,h2,.inr ⟨ne,_,_,I,F,.inr (.inr (.inr ⟨nl,nr,nt,rfl⟩))⟩⟩
theorem sc_joined:Bm ["shapes","one","other","made","waiting","pair","left","right"] ["shapes","one","other"] (Bh Mb):=by walk_at "sc"
theorem Zur (F:Fun K "joined" "joined" Mb f fd)(T:Txt K mg)(C_last_same:A7 P w K mg base 1 "last_same" ["shapes","kind"] (Nv K))(C_holds_itself:A7 P w K mg base 2 "holds_itself" ["shapes","kind"] (Ziy K)):A8 P w K mg base A9 3 f fd ["shapes","one","other"] (Zee K):=by
 refine F.okq sc_joined (λvs H Q E h=>?_) (λb3 A outer s H vs Q E hr h=>?_)
 ·obtain⟨a,sh,i,j,o,rfl,_⟩:=h;rfl
 ·obtain⟨a,sh,i,j,o,rfl,S,hJ,q,qn⟩:=h;refine⟨_,Ae (As 3 sc_joined (Hk (Zc6 K) (by rfl) T.list (by right) (Aa (qv 0) Ab)))
   (Ae (As 4 sc_joined (Bc (Aa (Ak (Aa (qv 1) (Aa (qv 2) Ab))) Ab)))
   (Ae (Iv Qc (Je K (qv 4) (by intro _;rfl)) (Ae (As 5 sc_joined (Ky K Qd Tz T0 Ki (qv 4)))
   (Ae (Zik (i:=6) (j:=7) rfl sc_joined.nd rfl rfl (by decide) rfl rfl (Aa (A5 C_last_same hr.m (Aa (qv 3) (Aa (Ah K (qv 5) Ad) Ab))) (Aa (A5 C_last_same hr.m (Aa (qv 3) (Aa (Ah K (qv 5) Ad) Ab))) Ab)))
   (Ae (Au (Aw (Bf K hr.u200) (qv 6) (qv 7) (A0 _)) (Ag (Zeo)) Ay)
   (Ae (Au (Aw (Bf K hr.u200) (Ah K (Ah K (qv 3) (qv 7)) Ad) Aj (A0 _)) (Ag (Zik (i:=6) (j:=7) rfl sc_joined.nd rfl rfl (by decide) rfl rfl (Aa (qv 7) (Aa (qv 6) Ab)))) Ay)
   (Ae (Au (QW.qt (F7 (Aw (Bf K hr.u200) (Ah K (Ah K (qv 3) (qv 6)) Ad) Aj (A0 _)) (F5 (Aw (Bf K hr.u200) (Ah K (Ah K (qv 3) (qv 7)) Ad) Aj (A0 _))))) (Ag (Cr (Cu K Qd PySem.F.slot_list_extend PySem.F.type_list_extend Zk4 (qv 4) (Aa (Zrc true K (by rfl) T.list (by rfl) T.zip (Aa (Er (Fm K) (Ah K (qv 3) (qv 6)) (Dm Ad) (Go)) (Aa (Er (Fm K) (Ah K (qv 3) (qv 7)) (Dm Ad) (Go)) Ab))) Ab)))) (Ag (Au (Aw (Mu K hr.u200) (Ah K (Ah K (qv 3) (qv 6)) Ad) Aj (A0 _)) (Ag (Ar C8)) Ay)))
   (Ag (Kz (Ak (Aa Aj (Aa (qv 7) Ab))) (Zmp (qv 3) (qv 6) Zuy)))))))))
   (Ag (Ar (Oc (Ex (A5 C_holds_itself hr.m (Aa (qv 3) (Aa (qv 1) Ab)))) C8 (qv 3)))))),?_⟩
  have bg:=big;obtain⟨N,oj,hN,bp,ba,a6⟩:∃N oj,N<=1000/\JoinN N sh [(i,j)] oj/\(∀m1,oj=some m1->eX3 λk r b=>Last m1 i r/\HoldsN m1 k (λ_=>none) [r] b/\k<=1000/\o=cond b none (some m1))/\(oj=none->o=none):=by
   cases o with
   |none =>
    rcases hJ with⟨n,h1,h2⟩|⟨n,k,r,m1,h1,h2,h3,h4,h5⟩
    ·exact⟨n,none,h1,h2,(λm1 e=>by cases e),λ_=>rfl⟩
    ·exact⟨n,some m1,h1,h2,(λm2 e=>by cases e;exact⟨k,r,true,h3,h4,h5,rfl⟩),λe=>by cases e⟩
   |some m1 =>
    obtain⟨n,k,r,h1,h2,h3,h4,h5⟩:=hJ;exact⟨n,some m1,h1,h2,(λm2 e=>by cases e;exact⟨k,r,false,h3,h4,h5,rfl⟩),λe=>by cases e⟩
  obtain⟨us,ea,bj⟩:=S.ex;left;refine⟨a,us,rfl,.inl (SqL.of ea),λam a8=>?_⟩;have s1:=Same.upd (o:=.lst us) a8;have S1:ShG K (upd H am (.lst us)) am sh:=⟨us,Ac,bj.mono (ShE.same s1.t)⟩;have ay:upd H am (.lst us) am=some (.lst us):=Ac;revert s1 S1 ay;generalize upd H am (.lst us)=H1;intro s1 S1 ay;left;refine⟨Bq,λpt bu=>?_⟩;left;refine⟨B5,λpw ax=>?_⟩;left;have s2:=Same.upd (o:=.tup [.int (i:Nat),.int (j:Nat)]) bu;have s3:=Same.upd (o:=.lst [.ref pt]) ax;have aq:am≠pw:=A6 (s2 _ _ ay) ax;have as:H pw=none:=(s1.trans s2).free ax;have al:H am=none:=a8;refine⟨λn ap H'=>eX5 λv5 v6 v7 m w=>ap=[some (.ref a),some (.int (i:Nat)),some (.int (j:Nat)),some (.ref am),some (.ref pw),v5,v6,v7]/\JoJ K H am pw N n m w H'/\JoinN n m w oj,
   ⟨N,none,none,none,sh,[(i,j)],rfl,⟨S1.same (s2.trans s3),⟨_,Ac,Al.nil.snoc ⟨pt,rfl,SqT.of (s3 _ _ Ac)⟩⟩,by simp,(s1.trans s2).trans s3⟩,bp⟩,?_⟩
  rintro n ap H2 ⟨v5,v6,v7,m,w0,rfl,J,hh⟩;obtain⟨wv,ew,ao⟩:=J.ew;left;refine Ho (SqL.of ew) ?_;rcases hh.inv with⟨rfl,ho⟩|⟨w1,pp,l,r,rfl,hl,bq,a0⟩
  ·have bx:wv=[]:=Re ao.1;subst bx;refine iteF ?_;obtain⟨k,r,b,h1,h2,h3,h4⟩:=ba m ho;left;refine⟨am,m,i,r,k,b,rfl,J.sh,h1,h2,h3,λH3 s3=>?_⟩;cases b with
   |true =>
    left;exact qn H3 h4 (J.sm.trans s3)
   |false =>
    left;exact q am m H3 h4 (J.sm.trans s3) al (J.sh.same s3)
  obtain⟨I,pv,b4,p',rfl,ee,a7,bw⟩:=ao.last (λz=>by rw[z]at ao;have:=ao.1;simp at this);obtain⟨rfl,e2⟩:=Rk ee rfl;cases e2;obtain⟨pq,rfl,bh⟩:=bw;rw[show(!(I++[V.ref pq]).isEmpty)=true by simp];refine iteT ?_;refine⟨λbf H2=>∃m',m'<n/\eX5 λv5 v6 v7 m w=>bf=[some (.ref a),some (.int (i:Nat)),some (.int (j:Nat)),some (.ref am),some (.ref pw),v5,v6,v7]/\JoJ K H am pw N m' m w H2/\JoinN m' m w oj,λ_ _ h=>h,?_⟩;have wl:=J.wl;rw[Pr,Qg]at wl;left;refine B9 (SqL.of ew) ?_;refine Md ew ?_;have Z:upd H2 pw (.lst I) pw=some (.lst I):=Ac;have S3:=J.sh.off (o:=.lst I) aq ew;have aa:=J.sm.over (o:=.lst I) as;have t3:=SameT.set (o:=.lst I) ew;have q3:=t3.tup bh;have ae:=a7.mono (PaAt.same t3);revert Z S3 aa q3 ae;generalize upd H2 pw (.lst I)=H3;intro Z S3 aa q3 ae;left;refine Ao q3 rfl ?_;left;refine⟨am,m,pp.1,l,rfl,S3,hl,?_⟩;left;refine Ao q3 rfl ?_;left;refine⟨am,m,pp.2,r,rfl,S3,bq,?_⟩;refine⟨_,_,rfl,?_⟩;left;rcases a0 with⟨rfl,U,rfl,t⟩|⟨ne,sl,sr,ar,an,hc⟩
  ·rw[decide_eq_true (Eq.refl _)];left;exact⟨U,by lia,_,_,_,m,w1,rfl,⟨S3,⟨I,Z,ae⟩,by lia,aa⟩,t⟩
  rw[decide_eq_false (show ¬V.int ((l:Nat):Int)=V.int ((r:Nat):Int) from λz=>ne (by injection z with z;lia))];refine iteF ?_;with_reducible refine s_next ?_
  walk_at "q";refine Ds (R:=λap H'=>H'=H3/\eX4 λx y sx sy=>ap=[some (.ref a),some (.int (i:Nat)),some (.int (j:Nat)),some (.ref am),some (.ref pw),some (.ref pq),some (.int (x:Nat)),some (.int (y:Nat))]/\m[x]?=some sx/\m[y]?=some sy/\((sx=.any/\∃U,n=U+1/\JoinN U (m.set x (.same y)) w1 oj)\/(eX5 λa b c d U=>sx=.to a b/\sy=.to c d/\n=U+1/\JoinN U (m.set x (.same y)) (w1++[(a,c),(b,d)]) oj)\/(sx≠.any/\(sx.wd≠"to"\/sy.wd≠"to")/\oj=none))) ?_ ?_
  ·intro Y hY;obtain⟨bt,pr,e5,bc,qr⟩:=S3.at an;left;refine Ba (SqL.of e5) bc ?_;left;refine Ao qr Ei ?_;left;rw[Jo];rcases hc with⟨rfl,U,rfl,t⟩|⟨hn,rfl,U,rfl,t⟩|⟨a1,b1,c1,d1,U,rfl,rfl,rfl,t⟩|⟨nl,nr,nt,rfl⟩
   ·rw[decide_eq_true (Eq.refl Sh.any)];left;refine⟨_,_,rfl,?_⟩;exact hY _ _ ⟨rfl,r,l,.any,sl,rfl,an,ar,.inl ⟨rfl,U,rfl,t⟩⟩
   ·rw[decide_eq_false hn];left;exact hY _ _ ⟨rfl,l,r,.any,sr,rfl,ar,an,.inl ⟨rfl,U,rfl,t⟩⟩
   ·rw[decide_eq_false (λe=>by cases e)];left;exact hY _ _ ⟨rfl,l,r,_,_,rfl,ar,an,.inr (.inl ⟨a1,b1,c1,d1,U,rfl,rfl,rfl,t⟩)⟩
   ·rw[decide_eq_false nr];left;exact hY _ _ ⟨rfl,l,r,sl,sr,rfl,ar,an,.inr (.inr ⟨nl,nt,rfl⟩)⟩
  rintro _ _ ⟨rfl,x,y,sx,sy,rfl,hx,hy,hc⟩;obtain⟨a9,O,aj⟩:=S3.ex;obtain⟨b5,px,e4,ah,qx⟩:=S3.at hx;obtain⟨bt,py,e5,a3,qy⟩:=S3.at hy;rw[O]at e4 e5;cases e4;cases e5;have bb:x<a9.length:=by rw[aj.1];exact(Pq.mp hx).1
  left;refine Ba (SqL.of O) ah ?_;left;refine Ao qx Ei ?_;left;rw[Za2];rcases hc with⟨rfl,U,rfl,t⟩|⟨a1,b1,c1,d1,U,rfl,rfl,rfl,t⟩|⟨nl,nt,ho⟩
  ·rw[show decide (Sh.any.wd="to")=false by decide];left;refine Ba (SqL.of O) ah ?_;left;refine Ao qx Ei ?_;left;rw[Jo,decide_eq_true (Eq.refl Sh.any)];left;refine⟨Bq,λp7 h7=>?_⟩;have s7:=Same.upd (o:=.tup [.str "same",.int (y:Nat)]) h7;left;refine Zef (j:=x) (s7 _ _ O) (by unfold Ea;simp[bb]) ?_;refine⟨U,by lia,_,_,_,m.set x (.same y),w1,rfl,⟨ShG.set (s7 _ _ O) (aj.mono (ShE.same s7.t)) (SqT.of Ac),⟨I,by rw[Ai aq.symm];exact s7 _ _ Z,(ae.mono (PaAt.same s7.t)).mono (PaAt.same (SameT.set (s7 _ _ O)))⟩,by lia,(aa.trans s7).over al⟩,t⟩
  ·rw[show decide ((Sh.to a1 b1).wd="to")=true from rfl];left;refine Ba (SqL.of O) a3 ?_;left;refine Ao qy Ei ?_;left;rw[Za2,show decide ((Sh.to c1 d1).wd="to")=true from rfl];left;refine B9 (SqL.of Z) ?_;left;refine Ba (SqL.of O) ah ?_;left;refine .inr (.inr ⟨px,_,rfl,qx,Mq,λp4 h4=>?_⟩);rw[Nt];have s4:=Same.upd (o:=.tup (Aq (Sh.to a1 b1).parts)) h4;left;refine Ba (SqL.of (s4 _ _ O)) a3 ?_;left;refine .inr (.inr ⟨py,_,rfl,s4.tup qy,Mq,λp5 h5=>?_⟩);rw[Nt];have s5:=Same.upd (o:=.tup (Aq (Sh.to c1 d1).parts)) h5;left;refine⟨p4,p5,_,_,rfl,s5.tup (SqT.of Ac),SqT.of Ac,λzl zs H6 bi s6 lz hz bv=>?_⟩;have ag:=(s4.trans s5).trans s6;left;have lz:zs.length=2:=lz;have b0:I.length<=2000:=by rw[ae.1];lia
   refine Zud (ag _ _ Z) bv (by lia) ?_;have nz:pw≠zl:=A6 ((s4.trans s5) _ _ Z) bi;have be:Al (PaAt K H6) zs [(a1,c1),(b1,d1)]:=by
    refine⟨lz,λk v x e1 e2=>?_⟩;obtain⟨tt,x1,y1,rfl,h1,h2,h3⟩:=hz k v e1
    match k,e2,h1,h2 with
    |0,e2,h1,h2=>cases e2;cases h1;cases h2;exact⟨tt,rfl,SqT.of h3⟩
    |1,e2,h1,h2=>cases e2;cases h1;cases h2;exact⟨tt,rfl,SqT.of h3⟩
   have au:upd H6 pw (.lst (I++zs)) pw=some (.lst (I++zs)):=Ac;have t7:=SameT.set (o:=.lst (I++zs)) (ag _ _ Z);have ai:upd H6 pw (.lst (I++zs)) am=some (.lst a9):=by rw[Ai aq];exact ag _ _ O
   have a4:Al (PaAt K (upd H6 pw (.lst (I++zs)))) (I++zs) (w1++[(a1,c1),(b1,d1)]):=Zdn ((ae.mono (PaAt.same ag.t)).mono (PaAt.same t7)) (be.mono (PaAt.same t7));have ak:=(aj.mono (ShE.same ag.t)).mono (ShE.same t7);have a5:Same H (upd H6 pw (.lst (I++zs))):=(aa.trans ag).over as;revert au ai a4 ak a5;generalize upd H6 pw (.lst (I++zs))=H7;intro au ai a4 ak a5;left;refine⟨Bq,λp8 h8=>?_⟩;have s8:=Same.upd (o:=.tup [.str "same",.int (y:Nat)]) h8;left;refine Zef (j:=x) (s8 _ _ ai) (by unfold Ea;simp[bb]) ?_;refine⟨U,by lia,_,_,_,m.set x (.same y),w1++[(a1,c1),(b1,d1)],rfl,⟨ShG.set (s8 _ _ ai) (ak.mono (ShE.same s8.t)) (SqT.of Ac),⟨_,by rw[Ai aq.symm];exact s8 _ _ au,(a4.mono (PaAt.same s8.t)).mono (PaAt.same (SameT.set (s8 _ _ ai)))⟩,by simp;lia,(a5.trans s8).over al⟩,t⟩
  ·by_cases av:sx.wd="to"
   ·have bo:sy.wd≠"to":=nt.resolve_left λh=>h av;rw[decide_eq_true av];left;refine Ba (SqL.of O) a3 ?_;left;refine Ao qy Ei ?_;left;rw[Za2,decide_eq_false bo];left;refine Ba (SqL.of O) ah ?_;left;refine Ao qx Ei ?_;left;rw[Jo,decide_eq_false nl];left;exact qn _ (a6 ho) aa
   ·rw[decide_eq_false av];left;refine Ba (SqL.of O) ah ?_;left;refine Ao qx Ei ?_;left;rw[Jo,decide_eq_false nl];left;exact qn _ (a6 ho) aa
inductive Lf:List (Nat×Nat)->Af->List Bool->Af->Prop where
 |nil {m:Af}:Lf [] m [] m
 |cons {g a:Nat} {m m':Af} {o:Option Af} {ps:List (Nat×Nat)} {fs:List Bool} (j:Zfh m g a o) (t:Lf ps (o.getD m) fs m'):Lf ((g,a)::ps) m (o.isSome::fs) m'
theorem FitG.o (h:FitG ps m fs m'):Lf ps m fs m':=by
 induction h with
 |nil=>exact .nil
 |ok j I l h O _ F=>exact .cons (o:=some _) ⟨_,_,_,I,j,l,h,O⟩ F
 |clash j I _ F=>exact .cons (o:=none) (.inl ⟨_,I,j⟩) F
 |loop j I l h O _ F=>exact .cons (o:=none) (.inr ⟨_,_,_,_,I,j,l,h,O⟩) F
inductive Zqg (K:Ph)(vs:List V)(H:Hp)(Q:VK)(e9:XK):Prop
 |mk (a b:Addr) (m m':Af) (pv:List V) (ps:List (Nat×Nat)) (fs:List Bool) (_:vs=[.ref a,.ref b]) (_:ShG K H a m) (_:H b=some (.lst pv)) (_:Al (PaAt K H) pv ps) (_:FitG ps m fs m') (_:ps.length<=1000) (_:∀r a' c H',Same H H'->SqT K H' r [.ref a',.ref c]->H' c=some (.lst (fs.map V.bl))->ShG K H' a' m'->Q (.ref r) H')
def Zgf (K:Ph):Sp:=Zqg K
theorem sc_fitted:Bm ["shapes","pairs","made","fits","given","asked","after"] ["shapes","pairs"] (Bh L9):=by walk_at "sc"
theorem Zre (F:Fun K "fitted" "fitted" L9 f fd)(T:Txt K mg)(C_joined:A7 P w K mg base 3 "joined" ["shapes","one","other"] (Zee K)):A8 P w K mg base A9 4 f fd ["shapes","pairs"] (Zgf K):=by
 refine F.okq sc_fitted (λvs H Q E h=>?_) (λan A outer s H vs Q E hr h=>?_)
 ·obtain⟨a,b,m,m',pv,ps,fs,rfl,_⟩:=h;rfl
 ·obtain⟨a,b,m,m',pv,ps,fs,rfl,S,eb,al,ai,hl,q⟩:=h;refine⟨_,Ae (As 2 sc_fitted (qv 0))
   (Ae (As 3 sc_fitted (Bc Ab))
   (Ae (Cw Qc rfl (D6 K (qv 1)) (Dq K (n:=2) rfl (Bu (Bb (i:=4) sc_fitted.nd rfl (Or.inl rfl)) (Bu (Bb (i:=5) sc_fitted.nd rfl (Or.inl rfl)) (Di)))) (Ae (As 6 sc_fitted (A5 C_joined hr.m (Aa (qv 2) (Aa (qv 4) (Aa (qv 5) Ab)))))
   (Ae (Cr (Cu K Qd Qs Qt C9 (qv 3) (Aa (Zea (N2 (qv 6))) Ab)))
   (Ag (As 2 sc_fitted (Oc (E6 (Kj (qv 6))) (qv 2) (qv 6)))))))
   (Ag (Ar (Ak (Aa (qv 2) (Aa (qv 3) Ab))))))),?_⟩
  have bg:=big;have eN:∀c:Addr,decide (V.ref c=V.non)=false:=λc=>decide_eq_false (λz=>by cases z);left;refine⟨Bo,λpf U=>?_⟩;have s1:=Same.upd (o:=.lst []) U;obtain⟨us,ea,_⟩:=S.ex;left;refine .inl ⟨b,rfl,⟨_,SqL.of (s1 _ _ eb)⟩,?_⟩;refine Jr (K:=K) (a:=b) (xs:=pv) (λi Z H'=>eX7 λv4 v5 v6 Y m1 I fr=>Z=[some (.ref a),some (.ref b),some (.ref Y),some (.ref pf),v4,v5,v6]/\H' pf=some (.lst (I.map V.bl))/\I.length=i/\ShG K H' Y m1/\Y≠pf/\Same H H'/\Lf (ps.drop i) m1 fr m'/\I++fr=fs)
   ⟨none,none,none,a,m,[],fs,rfl,Ac,rfl,S.same s1,A6 ea U,s1,ai.o,rfl⟩ ?_ ?_ ?_
  ·rintro i Z H' _ ⟨_,_,_,_,_,_,_,_,_,_,_,_,sm,_⟩;exact SqL.of (sm _ _ eb)
  ·rintro i x Z H1 hx ⟨v4,v5,v6,Y,m1,I,fr,rfl,ef,lf,S1,nf,sm,ft,aa⟩;obtain⟨y,hy,p,rfl,qp⟩:=al.get hx;obtain⟨g,k⟩:=y;have hi:=(Pq.mp hy).1;have ak:ps.drop i=(g,k)::ps.drop (i+1):=by
    rw[Rn hi];rw[Pj hi]at hy;rw[Pz hy]
   rw[ak]at ft;have ag:(I.map V.bl).length<sizeLine:=by rw[Pp];lia
   cases ft with
   | @cons _ _ _ _ o _ ah j t =>
   have ae:(I++[o.isSome])++ah=fs:=by rw[<- aa,Qi];rfl
   left;refine Dp (sm.tup qp) rfl ?_;left;refine⟨Y,m1,g,k,o,rfl,S1,j,λa' m2 H2 ho O hn S2=>?_,λH2 ho O=>?_⟩
   ·subst ho;left;refine B9 (SqL.of (O _ _ ef)) ?_;left;refine Cy (O _ _ ef) ag ?_;rw[eN a'];left;rw[eN a'];left;exact⟨_,_,_,a',m2,I++[true],ah,rfl,by rw[Ac,Qv];rfl,by simp[lf],S2.off (A6 ef hn).symm (O _ _ ef),(A6 ef hn).symm,(sm.trans O).over U,t,ae⟩
   ·subst ho;left;refine B9 (SqL.of (O _ _ ef)) ?_;left;refine Cy (O _ _ ef) ag ?_;rw[decide_eq_true (Eq.refl V.non)];left;rw[decide_eq_true (Eq.refl V.non)];left;exact⟨_,_,_,Y,m1,I++[false],ah,rfl,by rw[Ac,Qv];rfl,by simp[lf],(S1.same O).off nf (O _ _ ef),nf,(sm.trans O).over U,t,ae⟩
  ·rintro Z H1 ⟨v4,v5,v6,Y,m1,I,fr,rfl,ef,lf,S1,nf,sm,ft,aa⟩;rw[al.1,Wx]at ft;cases ft;rw[Qj]at aa;subst aa;left;refine⟨Bq,λr aj=>?_⟩;have O:=Same.upd (o:=.tup [.ref Y,.ref pf]) aj;exact q r Y pf _ (sm.trans O) (SqT.of Ac) (O _ _ ef) (S1.same O)
inductive Kd where
 |num|truth|any (n:Nat)|to (a b:Kd)
 deriving DecidableEq
inductive KdAt (K:Ph)(H:Hp):V->Kd->Prop where
 |num {a:Addr} (q:SqT K H a [.str "num"]):KdAt K H (.ref a) .num
 |truth {a:Addr} (q:SqT K H a [.str "truth"]):KdAt K H (.ref a) .truth
 |any {a:Addr} {n:Nat} (q:SqT K H a [.str "any",.int (n:Nat)]):KdAt K H (.ref a) (.any n)
 |to {a:Addr} {u v:V} {x y:Kd} (q:SqT K H a [.str "to",u,v]) (hx:KdAt K H u x) (hy:KdAt K H v y):KdAt K H (.ref a) (.to x y)
theorem KdAt.same (h:KdAt K H v k)(e:SameT H H'):KdAt K H' v k:=by
 induction h with
 |num q=>exact .num (e.tup q)
 |truth q=>exact .truth (e.tup q)
 |any q=>exact .any (e.tup q)
 |to q _ _ F I=>exact .to (e.tup q) F I
noncomputable abbrev Td:=Nat->Option Kd
noncomputable def Ce (td:Td)(i:Nat)(k:Kd):Td:=λj=>if j=i then some k else td j
inductive Lasts (sh:Af):List Nat->List Nat->Prop where
 |nil:Lasts sh [] []
 |cons {p r:Nat} {ps rs:List Nat} (h:Last sh p r) (t:Lasts sh ps rs):Lasts sh (p::ps) (r::rs)
theorem Lasts.at (h:Lasts sh ps rs):ps.length=rs.length/\∀j (h1:j<ps.length) (h2:j<rs.length),Last sh ps[j] rs[j]:=by
 induction h with
 |nil=>exact⟨rfl,λj h1=>absurd h1 (Rv _)⟩
 |cons h _ F =>
  refine⟨by rw[Pw,Pw,F.1],λj h1 h2=>?_⟩
  match j,h1,h2 with
  |0,_,_=>exact h
  |j+1,h1,h2=>exact F.2 j (by simpa using h1) (by simpa using h2)
inductive MkK (td:Td):Sh->List Nat->Kd->Prop where
 |num:MkK td .num [] .num
 |truth:MkK td .truth [] .truth
 |to {a b r s:Nat} {x y:Kd} (hx:td r=some x) (hy:td s=some y):MkK td (.to a b) [r,s] (.to x y)
noncomputable def C7 (td:Td)(rs:List Nat):List Nat:=rs.filter λr=>(td r).isNone
inductive ToldN (sh:Af):Nat->Td->Nat->List Nat->Td->Prop where
 |nil {td:Td} {c:Nat}:ToldN sh 0 td c [] td
 |seen {n c x r:Nat} {td td':Td} {w rs:List Nat} {s:Sh} {k:Kd} (hl:Last sh x r) (hs:sh[r]?=some s) (hp:Lasts sh s.parts rs) (h:td r=some k) (t:ToldN sh n td c w td'):ToldN sh (n+1) td c (w++[x]) td'
 |miss {n c x r p:Nat} {td td':Td} {w rs q:List Nat} {s:Sh} (hl:Last sh x r) (hs:sh[r]?=some s) (hp:Lasts sh s.parts rs) (h:td r=none) (hm:C7 td rs=p::q) (t:ToldN sh n td c (w++[x]++[p]) td'):ToldN sh (n+1) td c (w++[x]) td'
 |any {n c x r:Nat} {td td':Td} {w rs:List Nat} (hl:Last sh x r) (hs:sh[r]?=some .any) (hp:Lasts sh Sh.any.parts rs) (h:td r=none) (t:ToldN sh n (Ce td r (.any c)) (c+1) (w++[x]) td'):ToldN sh (n+1) td c (w++[x]) td'
 |mk {n c x r:Nat} {td td':Td} {w rs:List Nat} {s:Sh} {k:Kd} (hl:Last sh x r) (hs:sh[r]?=some s) (hp:Lasts sh s.parts rs) (h:td r=none) (hm:C7 td rs=[]) (hk:MkK td s rs k) (t:ToldN sh n (Ce td r k) c (w++[x]) td'):ToldN sh (n+1) td c (w++[x]) td'
theorem ToldN.inv {sh:Af}{n c:Nat}{td td':Td}{w:List Nat}(h:ToldN sh n td c w td'):(w=[]/\td'=td)\/eX6 λw1 x r s rs n'=>w=w1++[x]/\n=n'+1/\Last sh x r/\sh[r]?=some s/\Lasts sh s.parts rs /\
  ((∃k,td r=some k/\ToldN sh n' td c w1 td')\/(∃p q,td r=none/\C7 td rs=p::q/\ToldN sh n' td c (w1++[x]++[p]) td')\/(td r=none/\C7 td rs=[]/\s=.any/\ToldN sh n' (Ce td r (.any c)) (c+1) (w1++[x]) td')\/(∃k,td r=none/\C7 td rs=[]/\MkK td s rs k/\ToldN sh n' (Ce td r k) c (w1++[x]) td')):=by
 cases h with
 |nil=>exact .inl ⟨rfl,rfl⟩
 |seen O I F h t=>exact .inr ⟨_,_,_,_,_,_,rfl,rfl,O,I,F,.inl ⟨_,h,t⟩⟩
 |miss O I F h U t=>exact .inr ⟨_,_,_,_,_,_,rfl,rfl,O,I,F,.inr (.inl ⟨_,_,h,U,t⟩)⟩
 |any O I F h t=>exact .inr ⟨_,_,_,_,_,_,rfl,rfl,O,I,F,.inr (.inr (.inl ⟨h,by cases F;rfl,rfl,t⟩))⟩
 |mk O I F h U Y t=>exact .inr ⟨_,_,_,_,_,_,rfl,rfl,O,I,F,.inr (.inr (.inr ⟨_,h,U,Y,t⟩))⟩
def TdAt (K:Ph)(H:Hp)(kvs:List (Av×V))(td:Td):Prop:=∀i:Nat,(td i=none->Bw kvs (.inl ((i:Nat):Int))=none)/\∀k,td i=some k->∃v,Bw kvs (.inl ((i:Nat):Int))=some v/\KdAt K H v k
theorem TdAt.same (h:TdAt K H kvs td)(e:SameT H H'):TdAt K H' kvs td:=λi=>⟨(h i).1,λk F=>let ⟨v,h1,h2⟩:=(h i).2 k F;⟨v,h1,h2.same e⟩⟩
theorem TdAt.has (h:TdAt K H kvs td)(i:Nat):(Bw kvs (.inl ((i:Nat):Int))).isSome=(td i).isSome:=by
 cases e:td i with
 |none=>rw[(h i).1 e];rfl
 |some k=>obtain⟨v,h1,_⟩:=(h i).2 k e;rw[h1];rfl
theorem TdAt.put (h:TdAt K H kvs td)(i:Nat)(hv:KdAt K H v k):TdAt K H (Bp kvs (.inl ((i:Nat):Int)) v) (Ce td i k):=λj=>by
 rw[Li];by_cases F:j=i
 ·have I:Ce td i k j=some k:=if_pos F;rw[if_pos (by rw[F]),I];exact⟨(λe=>by cases e),λO e=>⟨v,rfl,by cases e;exact hv⟩⟩
 ·have I:Ce td i k j=td j:=if_neg F;rw[if_neg λz=>F (Zim z),I];exact h j
theorem Zm3 (td:Td)(rs:List Nat)(r:Nat):C7 td (rs++[r])=C7 td rs++if (td r).isNone=true then [r] else []:=by
 unfold C7;rw[List.filter_append];cases e:(td r).isNone with
 |true=>rw[if_pos rfl,List.filter_cons_of_pos (by exact e)];rfl
 |false=>rw[if_neg (by decide),List.filter_cons_of_neg (by rw[e];decide)];rfl
theorem Zop (h:C7 td rs=[])(hr:r∈rs):∃k,td r=some k:=by
 cases e:td r with
 |some k=>exact⟨k,rfl⟩
 |none =>
  have:r∈C7 td rs:=Wz.mpr ⟨hr,by rw[e];rfl⟩;rw[h]at this;cases this
inductive Znl (K:Ph)(vs:List V)(H:Hp)(Q:VK)(e9:XK):Prop
 |mk (a b:Addr) (sh:Af) (ws:List Nat) (ks:List Kd) (N:Nat) (td':Td) (_:vs=[.ref a,.ref b]) (_:ShG K H a sh) (_:H b=some (.lst (Aq ws))) (_:ToldN sh N (λ_=>none) 0 ws.reverse td') (_:N<=2000) (_:ws.length<=1000) (_:ks.length=ws.length) (_:(∀(j x:Nat)(k:Kd),ws[j]?=some x->ks[j]?=some k->∃r,Last sh x r/\td' r=some k)) (_:∀c us H',Same H H'->H c=none->H' c=some (.lst us)->Al (KdAt K H') us ks->Q (.ref c) H')
def Zi4 (K:Ph):Sp:=Znl K
structure ToJ (K:Ph)(H:Hp)(pd pw:Addr)(M n:Nat)(td:Td)(w:List Nat)(H':Hp):Prop where
 ed:∃kvs,H' pd=some (.dK kvs)/\TdAt K H' kvs td/\kvs.length+n<=M
 ew:H' pw=some (.lst (Aq w))
 wl:w.length+n<=M
 sm:Same H H'
theorem dk_t (h:H S=some (.dK kv)):SameT H (upd H S o2):=λb =>
 ⟨λxs e=>by rw[Ai (Fs e h (by intro z;cases z))];exact e,λo' u e=>by rw[Ai (Fs e h (by intro z;cases z))];exact e⟩
theorem Zk3:(["part","shapes"]:List Str).Nodup:=by right
theorem Zq7:(["part","told"]:List Str).Nodup:=by right
theorem Zkb:(["part","told"]:List Str).Nodup:=by right
theorem Zkl:(["kind","told","shapes"]:List Str).Nodup:=by right
theorem sc_kinds_told:Bm ["shapes","wanted","told","many_unknown","waiting","kind","parts","missing"] ["shapes","wanted"] (Bh L3):=by walk_at "sc"
theorem Zjr (F:Fun K "kinds_told" "kinds_told" L3 f fd)(T:Txt K mg)(C_last_same:A7 P w K mg base 1 "last_same" ["shapes","kind"] (Nv K)):A8 P w K mg base A9 2 f fd ["shapes","wanted"] (Zi4 K):=by
 refine F.okq sc_kinds_told (λvs H Q E h=>?_) (λb9 A outer s H vs Q E hr h=>?_)
 ·obtain⟨a,b,sh,ws,ks,N,ar,rfl,_⟩:=h;rfl
 ·obtain⟨a,b,sh,ws,ks,N,ar,rfl,S,eb,hT,hN,hl,lk,bv,q⟩:=h;refine⟨_,Ae (Lp (i:=2) sc_kinds_told.nd rfl (Or.inr rfl) (Np))
   (Ae (As 3 sc_kinds_told Ad)
   (Ae (As 4 sc_kinds_told (Zol K (by rfl) T.list (by rfl) T.reversed (Aa (qv 1) Ab)))
   (Ae (Iv Qc (Je K (qv 4) (by intro _;rfl)) (Ae (As 5 sc_kinds_told (A5 C_last_same hr.m (Aa (qv 0) (Aa (Ah K (qv 4) (Mg Ke Ad)) Ab))))
   (Ae (Ly (i:=6) (N:=["part","shapes"]) (σ0:=Dr 1 [0]) rfl (E7 rfl (by right) (by right) (by right)) (D6 K (Er (Fm K) (Ah K (qv 0) (qv 5)) (Dm Ad) (Go))) (E5 rfl (by rfl)) (λ_ _ _ _=>Bb (i:=0) Zk3 rfl (Or.inl rfl)) (λ_ _ _ _=>Fy) (λ_ _ _ _=>A5 C_last_same hr.m (Aa (qv 1) (Aa (qv 0) Ab))) sc_kinds_told.nd rfl (Or.inl rfl))
   (Ae (Ly (i:=7) (N:=["part","told"]) (σ0:=Dr 1 [2]) rfl (E7 rfl (by right) (by right) (by right)) (D6 K (qv 6)) (E5 rfl (by rfl)) (λ_ _ _ _=>Bb (i:=0) Zq7 rfl (Or.inl rfl)) (λ_ _ _ _=>Zj5 (E6 (Zug hr.u1 (qv 0) (qv 1)))) (λ_ _ _ _=>qv 0) sc_kinds_told.nd rfl (Or.inl rfl))
   (Ag (Au (E6 (Zbs hr.u1 (qv 5) (qv 2))) (Ag (Cr (Ky K Qd Tz T0 Ki (qv 4)))) (Ag (Au (Je K (qv 7) (by intro _;rfl)) (Ag (Cr (Cu K Qd Qs Qt C9 (qv 4) (Aa (Ah K (qv 7) Ad) Ab)))) (Ag (Au (Aw (Bf K hr.u200) (Ah K (Ah K (qv 0) (qv 5)) Ad) Aj (A0 _)) (Ae (Gh hr.u1 (qv 2) (qv 5) (Ak (Aa Aj (Aa (qv 3) Ab))))
   (Ag (Znn (i:=3) sc_kinds_told.nd rfl (Or.inl rfl) Ad Zpo))) (Ag (Gh hr.u1 (qv 2) (qv 5) (A4 (D7 K) (Ak (Aa (Ah K (Ah K (qv 0) (qv 5)) Ad) Ab)) (Hk (Zgl K) (by rfl) T.tuple (by right) (Aa (Jx (N:=["part","told"]) (σ0:=Dr 1 [2]) rfl (E7 rfl (by right) (by right) (by right)) (D6 K (qv 6)) (E5 rfl (by rfl)) (λ_ _ _ _=>Bb (i:=0) Zkb rfl (Or.inl rfl)) (λ_ _ _ _=>Fy) (λ_ _ _ _=>Lv hr.u1 (qv 1) (qv 0) (λ_ _=>rfl))) Ab)))))))))))))))
   (Ag (Ar (Jx (N:=["kind","told","shapes"]) (σ0:=Dr 1 [2,0]) rfl (E7 rfl (by right) (by right) (by right)) (D6 K (qv 1)) (E5 rfl (by rfl)) (λ_ _ _ _=>Bb (i:=0) Zkl rfl (Or.inl rfl)) (λ_ _ _ _=>Fy) (λ_ _ _ _=>Lv hr.u1 (qv 1) (A5 C_last_same hr.m (Aa (qv 2) (Aa (qv 0) Ab))) (λ_ _=>rfl)))))))),?_⟩
  have bg:=big;left;refine λpd a6=>?_;have s1:=Same.upd (o:=.dK []) a6;left;refine⟨b,Aq ws,rfl,SqL.of (s1 _ _ eb),λpw H2 bc s2 ew=>?_⟩;have nd:pd≠pw:=A6 Ac bc;have ax:H pw=none:=s1.free bc;have ew:H2 pw=some (.lst (Aq ws.reverse)):=by rw[ew];unfold Aq;rw[List.map_reverse]
  left;refine⟨λn I H'=>eX5 λv5 v6 v7 td w=>∃c:Nat,I=[some (.ref a),some (.ref b),some (.ref pd),some (.int (c:Nat)),some (.ref pw),v5,v6,v7]/\ToJ K H pd pw (N+ws.length) n td w H'/\ToldN sh n td c w ar,
   ⟨N,none,none,none,λ_=>none,ws.reverse,0,rfl,⟨⟨[],s2 _ _ Ac,λi=>⟨λ_=>rfl,λk e=>by cases e⟩,by simp⟩,ew,by rw[Ub];lia,s1.trans s2⟩,hT⟩,?_⟩
  rintro n I H3 ⟨v5,v6,v7,td,w0,c,rfl,J,hh⟩;obtain⟨kvs,ed,ao,kl⟩:=J.ed;have wl:=J.wl;left;refine Ho (SqL.of J.ew) ?_;rcases hh.inv with⟨rfl,rfl⟩|⟨w1,x,r,sp,U,n,rfl,rfl,hL,hs,hp,hc⟩
  ·refine iteF ?_;left;refine .inl ⟨b,rfl,⟨_,SqL.of (J.sm _ _ eb)⟩,λD hD=>?_⟩;have be:H D=none:=J.sm.free hD;have a7:D≠pd:=(A6 ed hD).symm;refine Kq (K:=K) (a:=b) (xs:=Aq ws) (Pv:=λi ys I H'=>∃x0,I=[x0,some (.ref pd),some (.ref a)]/\H' pd=some (.dK kvs)/\Al (KdAt K H') ys (ks.take i)/\TdAt K H' kvs ar/\Same H H') ⟨none,rfl,by rw[Ai a7.symm];exact ed,.nil,ao.same (SameT.new hD),J.sm.put hD⟩ ?_ ?_ ?_
   ·rintro i ys I H' _ ⟨_,_,_,_,_,sm⟩;exact SqL.of (sm _ _ eb)
   ·rintro i x ys I H' hx Z ⟨x0,rfl,ed,Y,td,sm⟩;have hi:i<ws.length:=by have:=(Pq.mp hx).1;unfold Aq at this;rwa[Pp]at this
    have bb:i<ks.length:=by lia
    have ak:x=.int (ws[i]:Nat):=by unfold Aq at hx;rw[Qf,Pj hi]at hx;exact(Pz hx).symm
    subst ak;obtain⟨r,bp,bw⟩:=bv i _ _ (Pj hi) (Pj bb);obtain⟨v,hv,kv⟩:=(td r).2 _ bw;left;refine⟨a,sh,ws[i],r,rfl,S.same sm,bp,?_⟩;refine⟨pd,v,rfl,by rw[<- hv];exact DGet.k (k:=.inl ((r:Nat):Int)) ed,?_⟩;have t6:SameT H' (upd H' D (.lst (ys++[v]))):=SameT.set Z;refine⟨ys,Z,by rw[Y.1,Qb];lia,_,Ac,_,rfl,by rw[Ai a7.symm];exact ed,?_,td.same t6,sm.over be⟩;rw[Qq,Pj bb];exact(Y.mono λ_ _ h=>h.same t6).snoc (kv.same t6)
   ·rintro ys I H' Z ⟨x0,rfl,ed,Y,td,sm⟩;have e2:(Aq ws).length=ks.length:=by unfold Aq;rw[Pp,lk]
    rw[e2,Q9]at Y;exact q D ys H' sm be Z Y
  have as:=J.ew;rw[Pr,Qg]at wl;have a0:Aq (w1++[x])=Aq w1++[.int (x:Nat)]:=by rw[Gm];rfl
  rw[a0]at as ⊢;rw[show(!(Aq w1++[V.int ((x:Nat):Int)]).isEmpty)=true by simp];refine iteT ?_;refine⟨λbq H2=>∃m',m'<n+1/\eX5 λv5 v6 v7 td w=>∃c:Nat,bq=[some (.ref a),some (.ref b),some (.ref pd),some (.int (c:Nat)),some (.ref pw),v5,v6,v7]/\ToJ K H pd pw (N+ws.length) m' td w H2/\ToldN sh m' td c w ar,λ_ _ h=>h,?_⟩;left;refine Ba (SqL.of as) (Ls _ _) ?_;left;refine⟨a,sh,x,r,rfl,S.same J.sm,hL,?_⟩;left;obtain⟨us,p,e,eu,qp⟩:=(S.same J.sm).at hs;refine Ba (SqL.of e) eu ?_;left;refine .inr (.inr ⟨p,_,rfl,qp,Mq,λp3 h3=>?_⟩);rw[Nt];have s4:=Same.upd (o:=.tup (Aq sp.parts)) h3;obtain⟨lp,b3⟩:=hp.at;have b8:=Zaz sp;refine .inr (.inl ⟨p3,rfl,⟨_,SqT.of Ac⟩,λD hD=>?_⟩);refine Zmq (K:=K) (a:=p3) (xs:=Aq sp.parts) (Pv:=λi ys I H'=>∃x0,I=[x0,some (.ref a)]/\ys=Aq (U.take i)/\H' p3=some (.tup (Aq sp.parts))/\Same H3 H') ⟨none,rfl,rfl,(Same.upd hD) _ _ Ac,s4.put hD⟩ ?_ ?_ ?_
  ·rintro i ys I H' _ ⟨_,_,_,e,_⟩;exact SqT.of e
  ·rintro i x ys I H' hx Z ⟨x0,rfl,rfl,a4,sm⟩;have hi:i<sp.parts.length:=by have:=(Pq.mp hx).1;unfold Aq at this;rwa[Pp]at this
   have ae:i<U.length:=by lia
   have ak:x=.int (sp.parts[i]:Nat):=by unfold Aq at hx;rw[Qf,Pj hi]at hx;exact(Pz hx).symm
   subst ak;left;refine⟨a,sh,sp.parts[i],U[i],rfl,S.same (J.sm.trans sm),b3 i hi ae,?_⟩;refine⟨_,Z,by unfold Aq;rw[Pp,Qb];lia,_,Ac,_,rfl,?_,by rw[Ai (Zfl Z a4)];exact a4,sm.over (s4.free hD)⟩;rw[Qq,Pj ae,Gm];rfl
  ·rintro ys I H5 Z ⟨x0,rfl,rfl,a4,a5⟩;have e2:(Aq sp.parts).length=U.length:=by unfold Aq;rw[Pp,lp]
   rw[e2,Q9]at Z;left;have a9:=a5 _ _ ed;have b5:=ao.same a5.t;refine .inl ⟨D,rfl,⟨_,SqL.of Z⟩,λD2 aq=>?_⟩;have bh:D2≠D:=(A6 Z aq).symm;have av:D2≠pd:=(A6 a9 aq).symm;refine Kq (K:=K) (a:=D) (xs:=Aq U) (Pv:=λi ys I H'=>∃x0,I=[x0,some (.ref pd)]/\ys=Aq (C7 td (U.take i))/\H' D=some (.lst (Aq U))/\H' pd=some (.dK kvs)/\Same H5 H') ⟨none,rfl,rfl,by rw[Ai bh.symm];exact Z,by rw[Ai av.symm];exact a9,Same.upd aq⟩ ?_ ?_ ?_
   ·rintro i ys I H' _ ⟨_,_,_,e,_⟩;exact SqL.of e
   ·rintro i x ys I H' hx O ⟨x0,rfl,rfl,eD,aa,sm⟩;have ae:i<U.length:=by have:=(Pq.mp hx).1;unfold Aq at this;rwa[Pp]at this
    have ak:x=.int (U[i]:Nat):=by unfold Aq at hx;rw[Qf,Pj ae]at hx;exact(Pz hx).symm
    subst ak;have b6:(C7 td (U.take i)).length<=U.length:=Qn (List.length_filter_le _ _) (by rw[Qb];lia);have ag:=Zm3 td (U.take i) U[i];rw[show U.take i++[U[i]]=U.take (i+1) by rw[Qq,Pj ae];rfl]at ag;left;refine⟨pd,_,rfl,DGet.k (k:=.inl ((U[i]:Nat):Int)) aa,?_⟩;rw[ao.has U[i]];cases et:td U[i] with
    |some k =>
     rw[et]at ag;have ag:C7 td (U.take (i+1))=C7 td (U.take i):=by rw[ag];exact Qj _
     refine⟨false,rfl,?_⟩;refine iteF ?_;exact⟨_,O,_,rfl,by rw[ag],eD,aa,sm⟩
    |none =>
     rw[et]at ag;have ag:C7 td (U.take (i+1))=C7 td (U.take i)++[U[i]]:=ag;refine⟨true,rfl,?_⟩;refine iteT ?_;left;refine⟨_,O,by unfold Aq;rw[Pp];lia,_,Ac,_,rfl,by rw[ag,Gm];rfl,by rw[Ai bh.symm];exact eD,by rw[Ai av.symm];exact aa,sm.over aq⟩
   ·rintro ys I H6 O ⟨x0,rfl,rfl,eD,aa,b0⟩;have e3:(Aq U).length=U.length:=by unfold Aq;exact Pp ..
    rw[e3,Q9]at O;have ai:Same H3 H6:=a5.trans b0;have am:=ao.same ai.t;have aj:=ai _ _ as;have e6:=ai _ _ e;have a3:=ai.tup qp;left;refine⟨pd,_,rfl,DGet.k (k:=.inl ((r:Nat):Int)) aa,?_⟩;rw[ao.has r];rcases hc with⟨k,hk,t⟩|⟨p',q',hk,hm,t⟩|⟨hk,hm,rfl,t⟩|⟨k,hk,hm,bi,t⟩
    ·rw[hk];refine⟨true,rfl,?_⟩;left;refine B9 (SqL.of aj) ?_;refine Md aj ?_;exact⟨n,by lia,_,_,_,td,w1,c,rfl,⟨⟨kvs,by rw[Ai nd];exact aa,am.same (SameT.set aj),by lia⟩,Ac,by lia,(J.sm.trans ai).over ax⟩,t⟩
    ·rw[hk];rw[hm]at O;refine⟨false,rfl,?_⟩;left;refine Ho (SqL.of O) ?_;refine iteT ?_;left;refine B9 (SqL.of aj) ?_;left;refine Ba (SqL.of O) Ei ?_;left;have bt:(Aq w1++[V.int ((x:Nat):Int)]).length<sizeLine:=by unfold Aq;rw[Pr,Pp,Qg];lia
     refine Cy aj bt ?_;exact⟨n,by lia,_,_,_,td,w1++[x]++[p'],c,rfl,⟨⟨kvs,by rw[Ai nd];exact aa,am.same (SameT.set aj),by lia⟩,by rw[Ac,Gm,Gm];rfl,by simp;lia,(J.sm.trans ai).over ax⟩,t⟩
    ·rw[hk];rw[hm]at O;refine⟨false,rfl,?_⟩;left;refine Ho (SqL.of O) ?_;refine iteF ?_;left;refine Ba (SqL.of e6) eu ?_;left;refine Ao a3 Ei ?_;left;rw[Jo,decide_eq_true (Eq.refl Sh.any)];left;refine⟨Bq,λp8 h8=>?_⟩;have s8:=Same.upd (o:=.tup [.str "any",.int (c:Nat)]) h8;left;refine⟨pd,_,rfl,DPut.k (k:=.inl ((r:Nat):Int)) (s8 _ _ aa) (by lia),?_⟩;have t9:=dk_t (o2:=.dK (Bp kvs (.inl ((r:Nat):Int)) (.ref p8))) (s8 _ _ aa);have b4:=Et kvs (.inl ((r:Nat):Int)) (.ref p8);left;have ec:((c:Nat):Int)+1=((c+1:Nat):Int):=by lia
     rw[ec];exact⟨n,by lia,_,_,_,Ce td r (.any c),w1++[x],c+1,rfl,⟨⟨_,Ac,((am.same s8.t).same t9).put r (.any (t9.tup (SqT.of Ac))),by lia⟩,by rw[Ai nd.symm,a0];exact s8 _ _ aj,by simp;lia,((J.sm.trans ai).trans s8).over a6⟩,t⟩
    ·rw[hk];rw[hm]at O;have bu:sp≠.any:=by cases bi <;> exact λz=>by cases z
     refine⟨false,rfl,?_⟩;left;refine Ho (SqL.of O) ?_;refine iteF ?_;left;refine Ba (SqL.of e6) eu ?_;left;refine Ao a3 Ei ?_;left;rw[Jo,decide_eq_false bu];left;refine Ba (SqL.of e6) eu ?_;left;refine Ao a3 Ei ?_;left;refine⟨B5,λp8 h8=>?_⟩;have s8:=Same.upd (o:=.tup [.str sp.wd]) h8;left;refine .inl ⟨D,rfl,⟨_,SqL.of (s8 _ _ eD)⟩,λD9 h9=>?_⟩;have bf:=s8 _ _ eD;have a8:D9≠D:=(A6 bf h9).symm;have ay:D9≠pd:=(A6 (s8 _ _ aa) h9).symm;refine Kq (K:=K) (a:=D) (xs:=Aq U) (Pv:=λi ys I H'=>∃x0,I=[x0,some (.ref pd)]/\H' D=some (.lst (Aq U))/\H' pd=some (.dK kvs)/\TdAt K H' kvs td/\Al (λv i=>∃k,td i=some k/\KdAt K H' v k) ys (U.take i)/\Same (upd H6 p8 (.tup [.str sp.wd])) H') ⟨none,rfl,by rw[Ai a8.symm];exact bf,by rw[Ai ay.symm];exact s8 _ _ aa,(am.same s8.t).same (SameT.new h9),.nil,Same.upd h9⟩ ?_ ?_ ?_
     ·rintro i ys I H' _ ⟨_,_,e,_⟩;exact SqL.of e
     ·rintro i x ys I H' hx al ⟨x0,rfl,bj,ah,an,Y,sm⟩;have ae:i<U.length:=by have:=(Pq.mp hx).1;unfold Aq at this;rwa[Pp]at this
      have ak:x=.int (U[i]:Nat):=by unfold Aq at hx;rw[Qf,Pj ae]at hx;exact(Pz hx).symm
      subst ak;obtain⟨k1,ba⟩:=Zop hm (Q4 ae);obtain⟨v,hv,kv⟩:=(an U[i]).2 k1 ba;left;refine⟨pd,v,rfl,by rw[<- hv];exact DGet.k (k:=.inl ((U[i]:Nat):Int)) ah,?_⟩;have t6:SameT H' (upd H' D9 (.lst (ys++[v]))):=SameT.set al;refine⟨ys,al,by rw[Y.1,Qb];lia,_,Ac,_,rfl,by rw[Ai a8.symm];exact bj,by rw[Ai ay.symm];exact ah,an.same t6,?_,sm.over h9⟩;rw[Qq,Pj ae];exact(Y.mono λ_ _ ⟨k,h1,h2⟩=>⟨k,h1,h2.same t6⟩).snoc ⟨k1,ba,kv.same t6⟩
     ·rintro zs I H' al ⟨x0,rfl,bj,ah,an,Y,sm⟩;rw[e3,Q9]at Y;left;refine Zd3 (SqL.of al) λpa ha=>?_;have sa:=Same.upd (o:=.tup zs) ha;have b7:zs.length<=2:=by rw[Y.1];lia
      refine Znk ((sm.trans sa).tup (SqT.of Ac)) (SqT.of Ac) (by show 1+zs.length<=sizeLine;lia) λr9 Hb sb qr=>?_;have sB:Same H' Hb:=sa.trans sb;have au:Same H3 Hb:=ai.trans ((s8.trans sm).trans sB);left;refine⟨pd,_,rfl,DPut.k (k:=.inl ((r:Nat):Int)) (sB _ _ ah) (by lia),?_⟩;have tP:=dk_t (o2:=.dK (Bp kvs (.inl ((r:Nat):Int)) (.ref r9))) (sB _ _ ah);have b4:=Et kvs (.inl ((r:Nat):Int)) (.ref r9);have kr:KdAt K Hb (.ref r9) k:=by
       have ap:=Y.mono λv i (h:∃k,td i=some k/\KdAt K H' v k)=>(show ∃k,td i=some k/\KdAt K Hb v k from let ⟨k,h1,h2⟩:=h;⟨k,h1,h2.same sB.t⟩);cases bi with
       |num =>
        have:zs=[]:=Re Y.1;subst this;exact .num qr
       |truth =>
        have:zs=[]:=Re Y.1;subst this;exact .truth qr
       | @to _ _ r1 r2 x1 y1 bo bx =>
        obtain⟨u,v,rfl⟩:=lz2 (vs:=zs) ap.1;obtain⟨k1,h1,h2⟩:=ap.2 0 u r1 rfl rfl;obtain⟨k2,h3,h4⟩:=ap.2 1 v r2 rfl rfl;rw[bo]at h1;rw[bx]at h3;cases h1;cases h3;exact .to qr h2 h4
      exact⟨n,by lia,_,_,_,Ce td r k,w1++[x],c,rfl,⟨⟨_,Ac,((an.same sB.t).same tP).put r (kr.same tP),by lia⟩,by rw[Ai nd.symm,a0];exact au _ _ as,by simp;lia,(J.sm.trans au).over a6⟩,t⟩
def Zid (K:Ph):Sp:=λvs H Q _=>∃(v:V)(t:Tr),vs=[v]/\TrAt K H v t/\t.size<=2000/\∀(p:Addr)(rows:List V)(H':Hp),Same H H'->H p=none->H' p=some (.lst rows)->Al (RowT K H') rows (walk [] t)->Q (.ref p) H'
theorem sc_placed_forms:Bm ["tree","told","waiting","pair","number","part"] ["tree"] (Bh L4):=by walk_at "sc"
def PlJ (K:Ph)(H:Hp)(v:V)(t:Tr)(pt pw:Addr)(m:Nat)(σ:St)(H':Hp):Prop:=eX7 λ(v3 v4 v5:Option V)(tv wv:List V)(dn st:List (List Nat×Tr))=>σ=[some v,some (.ref pt),some (.ref pw),v3,v4,v5]/\H' pt=some (.lst tv)/\H' pw=some (.lst wv) /\
 Al (RowT K H') tv dn/\Al (RowT K H') wv st/\dn++Fx st=walk [] t/\m=load st/\Same H H'
theorem Zql (F:Fun K "placed_forms" "placed_forms" L4 f fd)(T:Txt K mg):A8 P w K mg base A9 1 f fd ["tree"] (Zid K):=by
 refine F.okq sc_placed_forms (λvs H Q E h=>?_) (λce A outer s H vs Q E hr h=>?_)
 ·obtain⟨v,t,rfl,_⟩:=h;rfl
 ·obtain⟨v,t,rfl,ht,hz,q⟩:=h;refine⟨_,Ae (As 1 sc_placed_forms (Bc Ab))
   (Ae (As 2 sc_placed_forms (Bc (Aa (Ak (Aa (Ak Ab) (Aa (qv 0) Ab))) Ab)))
   (Ae (Iv Qc (Je K (qv 2) (by intro _;rfl)) (Ae (As 3 sc_placed_forms (Ky K Qd Tz T0 Ki (qv 2)))
   (Ae (Cr (Cu K Qd Qs Qt C9 (qv 1) (Aa (qv 3) Ab)))
   (Ag (Cw Qc rfl (Zf3 K rfl T.reversed (Aa (Zqe K (by rfl) T.list (by rfl) T.enumerate (Aa (Ah K (Ah K (qv 3) Ad) Ad) Ab)) Ab)) (Dq K (n:=2) rfl (Bu (Bb (i:=4) sc_placed_forms.nd rfl (Or.inl rfl)) (Bu (Bb (i:=5) sc_placed_forms.nd rfl (Or.inl rfl)) (Di)))) (Ag (Cr (Cu K Qd Qs Qt C9 (qv 2) (Aa (Ak (Aa (A4 (Ou K) (Ah K (qv 3) Ad) (Ak (Aa (qv 4) Ab))) (Aa (qv 5) Ab))) Ab)))))))))
   (Ag (Ar (qv 1))))),?_⟩
  have bg:=big;left;refine⟨Bo,λpt al=>?_⟩;left;refine⟨Bo,λp0 a5=>?_⟩;left;refine⟨Bq,λp1 av=>?_⟩;left;refine⟨B5,λY am=>?_⟩;left;have s0:Same (upd H pt (.lst [])) _:=((Same.upd (o:=.tup []) a5).put (o:=.tup [.ref p0,v]) av).put (o:=.lst [.ref p1]) am;have s1:Same (upd (upd H pt (.lst [])) p0 (.tup [])) _:=(Same.upd (o:=.tup [.ref p0,v]) av).put (o:=.lst [.ref p1]) am;have s2:=Same.upd (o:=.lst [.ref p1]) am;have sH:=(Same.upd (o:=.lst []) al).trans s0;have aj:=s0 pt _ Ac;have bh:upd (upd (upd (upd H pt (.lst [])) p0 (.tup [])) p1 (.tup [.ref p0,v])) Y (.lst [.ref p1]) Y=some (.lst [.ref p1]):=Ac;have bt:=s1 p0 _ Ac;have bf:=s2 p1 _ Ac;have a0:pt≠Y:=λz=>by rw[z]at aj;rw[Ac]at aj;cases aj
  have aq:H Y=none:=((Same.upd (o:=.lst []) al).trans ((Same.upd (o:=.tup []) a5).put (o:=.tup [.ref p0,v]) av)).free am;refine⟨PlJ K H v t pt Y,⟨_,none,none,none,[],[.ref p1],[],[([],t)],rfl,aj,bh,.nil,Al.nil.snoc ⟨p1,p0,v,rfl,SqT.of bf,bt,ht.same sH⟩,by simp[Fx],rfl,sH⟩,?_⟩;rintro m ch H' ⟨v3,v4,v5,tv,wv,dn,st,rfl,et,ew,ao,a6,hw,rfl,sm⟩;have cc:dn.length+load st=t.size:=by
   have:=congrArg Qx hw;rw[Pr,D5]at this;exact this
  have ca:tv.length=dn.length:=ao.1;left;refine Ho (SqL.of ew) ?_;by_cases be:wv=[]
  ·subst be;have b0:st=[]:=Re a6.1.symm;subst b0;refine iteF ?_;left;rw[Zt6,Qj]at hw;rw[hw]at ao;exact q pt tv H' sm al et ao
  obtain⟨O,tp,I,x,rfl,rfl,bq,bb⟩:=a6.last be;have b6:(!(O++[tp]).isEmpty)=true:=by simp
  rw[b6];refine iteT ?_;obtain⟨pl,tx⟩:=x;have hx:(pl,tx)∈walk [] t:=by rw[<- hw,K3];simp
  have cb:pl.length<=2000:=by have:=Jt [] t _ hx;simp at this;lia
  have ah:=Zez I (pl,tx);have bj:=Zhy (I++(kids pl 0 tx.ps).reverse);refine⟨λbo H2=>∃m',m'<load (I++[(pl,tx)])/\PlJ K H v t pt Y m' bo H2,λ_ _ h=>h,?_⟩;left;refine B9 (SqL.of ew) ?_;refine Md ew ?_;have t1:SameT H' (upd H' Y (.lst O)):=SameT.set ew;have ax:upd H' Y (.lst O) pt=some (.lst tv):=by rw[Ai a0];exact et
  left;refine B9 (SqL.of ax) ?_;left;refine Cy ax (by lia) ?_;have t2:SameT H' (upd (upd H' Y (.lst O)) pt (.lst (tv++[tp]))):=t1.trans (SameT.set ax);have an:upd (upd H' Y (.lst O)) pt (.lst (tv++[tp])) pt=some (.lst (tv++[tp])):=Ac;have ai:upd (upd H' Y (.lst O)) pt (.lst (tv++[tp])) Y=some (.lst O):=by rw[Ai a0.symm,Ac]
  have ar:Same H (upd (upd H' Y (.lst O)) pt (.lst (tv++[tp]))):=(sm.over aq).over al;revert t2 an ai ar;generalize upd (upd H' Y (.lst O)) pt (.lst (tv++[tp]))=H3;intro t2 an ai ar;have ae:=RowT.same t2 _ _ bb;obtain⟨a,p,u,rfl,qa,qp,hu⟩:=id ae;cases hu with
  | @mk b pp wd nv n vs ts qb hn bu hl bw =>
  left;refine Ao qa rfl ?_;left;refine Ao qb rfl ?_;left;refine⟨pp,vs,rfl,bu,λS ys H4 hS s4 cf ap a9=>?_⟩;left;refine⟨S,ys,rfl,SqL.of a9,?_⟩;have bp:Y≠S:=A6 ai hS;have cg:pt≠S:=A6 an hS;have bi:Al (RowT K H4) O I:=bq.mono (RowT.same (t2.trans s4.t));have a4:(kids pl 0 ts).length=ys.length:=by rw[N9];lia
  refine Zed (K:=K) (a:=S) (xs:=ys) (λj ak H5=>eX3 λ(v4 v5:Option V)(U:List V)=>ak=[some v,some (.ref pt),some (.ref Y),some (.ref a),v4,v5]/\H5 pt=some (.lst (tv++[.ref a]))/\H5 Y=some (.lst U)/\H5 S=some (.lst ys)/\Al (RowT K H5) U (I++((kids pl 0 ts).drop (ys.length-j)).reverse)/\SameT H4 H5/\Same H H5)
   ⟨_,_,O,rfl,s4 _ _ an,s4 _ _ ai,a9,by rw[Uv,Tx (by lia)];simpa using bi,SameT.refl _,ar.trans s4⟩ ?_ ?_ ?_
  ·rintro j ak H5 _ ⟨_,_,_,_,_,_,e,_⟩;exact SqL.of e
  ·rintro i y ak H5 hi hy ⟨b4,bv,U,rfl,au,aa,bc,ag,t5,as⟩;obtain⟨tt,xw,rfl,ba,b5⟩:=ap _ _ hy;have a8:=(t5 tt).1 _ b5;left;refine Dp (SqT.of a8) rfl ?_;left;refine B9 (SqL.of aa) ?_;left;have T5:SameT H3 H5:=s4.t.trans t5;refine Ao (T5.tup qa) rfl ?_;left;refine⟨B5,λp6 h6=>?_⟩;refine Zmm (((T5.trans (SameT.new h6)) p).1 _ qp) Ac (by show(Bv pl).length+1<=sizeLine;unfold Bv;rw[Pp];lia) λr H7 s7 q7=>?_;left;refine⟨Bq,λp7 h7=>?_⟩;left;have bx:Same H5 H7:=(Same.upd h6).trans s7;have Z:=bx.put (o:=.tup [.ref r,xw]) h7;have cj:U.length=I.length+((kids pl 0 ts).drop (ys.length-i)).length:=by have:=ag.1;simp at this ⊢;lia
   have b9:(I++(kids pl 0 ts).reverse).length=I.length+ys.length:=by rw[Pr,Ub,a4]
   have b8:(I++(kids pl 0 ts).reverse).length<=2000:=by
    have h1:load (I++(kids pl 0 (Tr.mk wd n ts).ps).reverse)<load (I++[(pl,Tr.mk wd n ts)]):=ah;have h2:(I++(kids pl 0 (Tr.mk wd n ts).ps).reverse).length<=load (I++(kids pl 0 (Tr.mk wd n ts).ps).reverse):=bj;have h3:(Tr.mk wd n ts).ps=ts:=rfl;rw[h3]at h1 h2;lia
   have ci:((kids pl 0 ts).drop (ys.length-i)).length<=ys.length:=by rw[Ug];lia
   refine Cy (Z _ _ aa) (by lia) ?_;have ay:=Z _ _ aa;have t9:SameT H5 (upd (upd H7 p7 (.tup [.ref r,xw])) Y (.lst (U++[.ref p7]))):=Z.t.trans (SameT.set ay);obtain⟨tk,b7,b3⟩:∃tk,ts[ys.length-1-i]?=some tk/\TrAt K H3 xw tk:=by
    have hj:=(Pq.mp ba).1;have a3:ys.length-1-i<ts.length:=by lia
    exact⟨_,Pj a3,bw _ _ _ ba (Pj a3)⟩
   have a7:(kids pl 0 ts)[ys.length-1-i]?=some (pl++[ys.length-1-i],tk):=by
    rw[Zgc,b7];simp
   refine⟨_,_,U++[.ref p7],rfl,?_,Ac,?_,?_,t5.trans t9,(as.trans Z).over aq⟩
   ·rw[Ai a0];exact Z _ _ au
   ·rw[Ai bp.symm];exact Z _ _ bc
   ·rw[Zdd a4 hi a7,<- Qi];refine(ag.mono (RowT.same t9)).snoc ⟨p7,r,xw,rfl,(SameT.set ay).tup (SqT.of Ac),?_,b3.sameT (T5.trans t9)⟩;have q9:=(((SameT.new (o:=.tup [.ref r,xw]) h7).trans (SameT.set (o:=.lst (U++[.ref p7])) ay)) r).1 _ q7;have e:Bv (pl++[ys.length-1-i])=Bv pl++[.int ((ys.length-1-i:Nat):Int)]:=by unfold Bv;rw[Qv];rfl
    show upd _ _ _ r=some (.tup (Bv (pl++[ys.length-1-i])));rw[e];exact q9
  ·rintro ak H5 ⟨b4,bv,U,rfl,au,aa,bc,ag,t5,as⟩;rw[Sf,Uq]at ag;refine⟨_,ah,_,_,_,tv++[.ref a],U,dn++[(pl,.mk wd n ts)],_,rfl,au,aa,?_,ag,?_,rfl,as⟩
   ·exact(ao.mono (RowT.same (t2.trans (s4.t.trans t5)))).snoc (RowT.same (s4.t.trans t5) _ _ ae)
   ·rw[<- hw,K3,Qi];rfl
noncomputable def Az (m:Nat)(w:Str):Nat×List Nat×List Nat×Af :=
 if w="num" then (0,[],[],[]) else if w="truth" then (1,[],[],[]) else if w="plus"\/w="minus" then (0,[0,0],[],[]) else if w="less" then (1,[0,0],[],[]) else
 if w="if" then (m,[1,m,m],[],[.any]) else if w="gap"\/w="odd"\/w="name" then (m,[],[],[.any]) else if w="let" then (m+1,[m,m+1],[m],[.any,.any]) else
 if w="fn" then (m+2,[m+1],[m],[.any,.any,.to m (m+1)]) else if w="rec" then (m+2,[m+1],[m+2,m],[.any,.any,.to m (m+1)]) else (m+1,[m+2,m],[],[.any,.any,.to m (m+1)])
def Bt (a:Addr)(H H':Hp):Prop:=∀x o,x≠a->H x=some o->H' x=some o
theorem Jh (s:Same H H')(a:Addr):Bt a H H':=λx o _ h=>s x o h
theorem Bt.trans (h:Bt a H H1)(g:Bt a H1 H2):Bt a H H2:=λx o n e=>g x o n (h x o n e)
theorem Bt.upd:Bt a H (upd H a o):=λx o' n e=>by rw[Ai n];exact e
theorem Bt.t (h:Bt a H H')(e:H a=some (.lst us)):SameT H H':=λb =>
 ⟨λxs F=>h b _ (λz=>by rw[z,e]at F;cases F) F,λo u F=>h b _ (λz=>by rw[z,e]at F;cases F) F⟩
theorem ShG.snoc (e:H a=some (.lst us))(al:Al (ShE K H) us sh)(hp:SqT K H p (shV s)):ShG K (upd H a (.lst (us++[.ref p]))) a (sh++[s]) :=
 ⟨us++[.ref p],Ac,(al.mono (ShE.same (SameT.set e))).snoc ⟨p,rfl,(SameT.set e).tup hp⟩⟩
inductive Znp (vs:List V)(H:Hp)(Q:VK)(e9:XK):Prop
 |mk (a:Addr) (x:V) (us:List V) (_:vs=[.ref a,x]) (_:H a=some (.lst us)) (_:us.length<5000) (_:Q (.int (us.length:Nat)) (upd H a (.lst (us++[x]))))
def Zh1:Sp:=Znp
inductive Zqh (K:Ph)(vs:List V)(H:Hp)(Q:VK)(e9:XK):Prop
 |mk (a:Addr) (w:Str) (sh:Af) (_:vs=[.ref a,.str w]) (_:sh.length<=1000) (_:ShG K H a sh) (_:∀(r b c:Addr)(H':Hp),Bt a H H'->ShG K H' a (sh++(Az sh.length w).2.2.2)->SqT K H' r [.int ((Az sh.length w).1:Nat),.ref b,.ref c]->H' b=some (.lst (Aq (Az sh.length w).2.1))->H b=none->b≠a->H' c=some (.lst (Aq (Az sh.length w).2.2.1))->H c=none->c≠a->c≠b->Q (.ref r) H')
def Zhi (K:Ph):Sp:=Zqh K
theorem Fp:decide (V.str x=V.str y)=decide (x=y):=by
 by_cases h:x=y
 ·subst h;simp
 ·rw[decide_eq_false h,decide_eq_false (λe=>h (by injection e))]
theorem Zkk (a b:Str):(a == b)=decide (b=a):=by
 rw[So,beq_iff_eq,decide_eq_true_iff];exact eq_comm
theorem K0 (a t:Str)(r:List V):Fa (.str t) (.str a::r)=(decide (t=a) || Fa (.str t) r):=by
 show((a == t) || _)=_;rw[Zkk];rfl
theorem Zd6 (x:V):Fa x []=false:=rfl
theorem Jg {w x y:Str}:Fa (.str w) [.str x,.str y]=decide (w=x\/w=y):=by
 rw[K0,K0,Zd6,Vs];by_cases h1:w=x <;> by_cases h2:w=y <;> simp[h1,h2]
theorem in3 {w x y z:Str}:Fa (.str w) [.str x,.str y,.str z]=decide (w=x\/w=y\/w=z):=by
 rw[K0,K0,K0,Zd6,Vs];by_cases h1:w=x <;> by_cases h2:w=y <;> by_cases F:w=z <;> simp[h1,h2,F]
theorem Nz:Bm ["shapes","word","one","other","function"] ["shapes","word"] (Bh Lo):=by walk_at "sc"
theorem Zlr (F:Fun K "kinds_of_word" "kinds_of_word" Lo f fd)(T:Txt K mg)(G_NUM:Gb mg "NUM" (.int 0))(G_TRUTH:Gb mg "TRUTH" (.int 1))(C_new_kind:A7 P w K mg base 1 "new_kind" ["shapes","shape"] Zh1):A8 P w K mg base A9 2 f fd ["shapes","word"] (Zhi K):=by
 refine F.okq Nz (λvs H Q E h=>?_) (λao A outer s H vs Q E hr h=>?_)
 ·obtain⟨a,w,sh,rfl,_⟩:=h;rfl
 ·obtain⟨a,w,sh,rfl,ar,S,q⟩:=h;refine⟨_,Ae (Au (Aw (Bf K hr.u200) (qv 1) Aj (A0 _)) (Ag (Ar (Ak (Aa (Fj G_NUM) (Aa (Bc Ab) (Aa (Bc Ab) Ab)))))) Ay)
   (Ae (Au (Aw (Bf K hr.u200) (qv 1) Aj (A0 _)) (Ag (Ar (Ak (Aa (Fj G_TRUTH) (Aa (Bc Ab) (Aa (Bc Ab) Ab)))))) Ay)
   (Ae (Au (Aw (Fu K) (qv 1) (Ak (Aa Aj (Aa Aj Ab))) (by rfl)) (Ag (Ar (Ak (Aa (Fj G_NUM) (Aa (Bc (Aa (Fj G_NUM) (Aa (Fj G_NUM) Ab))) (Aa (Bc Ab) Ab)))))) Ay)
   (Ae (Au (Aw (Bf K hr.u200) (qv 1) Aj (A0 _)) (Ag (Ar (Ak (Aa (Fj G_TRUTH) (Aa (Bc (Aa (Fj G_NUM) (Aa (Fj G_NUM) Ab))) (Aa (Bc Ab) Ab)))))) Ay)
   (Ae (As 2 Nz (A5 C_new_kind hr.m (Aa (qv 0) (Aa (Ak (Aa Aj Ab)) Ab))))
   (Ae (Au (Aw (Bf K hr.u200) (qv 1) Aj (A0 _)) (Ag (Ar (Ak (Aa (qv 2) (Aa (Bc (Aa (Fj G_TRUTH) (Aa (qv 2) (Aa (qv 2) Ab)))) (Aa (Bc Ab) Ab)))))) Ay)
   (Ae (Au (Aw (Fu K) (qv 1) (Ak (Aa Aj (Aa Aj (Aa Aj Ab)))) (by rfl)) (Ag (Ar (Ak (Aa (qv 2) (Aa (Bc Ab) (Aa (Bc Ab) Ab)))))) Ay)
   (Ae (As 3 Nz (A5 C_new_kind hr.m (Aa (qv 0) (Aa (Ak (Aa Aj Ab)) Ab))))
   (Ae (Au (Aw (Bf K hr.u200) (qv 1) Aj (A0 _)) (Ag (Ar (Ak (Aa (qv 3) (Aa (Bc (Aa (qv 2) (Aa (qv 3) Ab))) (Aa (Bc (Aa (qv 2) Ab)) Ab)))))) Ay)
   (Ae (As 4 Nz (A5 C_new_kind hr.m (Aa (qv 0) (Aa (Ak (Aa Aj (Aa (qv 2) (Aa (qv 3) Ab)))) Ab))))
   (Ae (Au (Aw (Bf K hr.u200) (qv 1) Aj (A0 _)) (Ag (Ar (Ak (Aa (qv 4) (Aa (Bc (Aa (qv 3) Ab)) (Aa (Bc (Aa (qv 2) Ab)) Ab)))))) Ay)
   (Ae (Au (Aw (Bf K hr.u200) (qv 1) Aj (A0 _)) (Ag (Ar (Ak (Aa (qv 4) (Aa (Bc (Aa (qv 3) Ab)) (Aa (Bc (Aa (qv 4) (Aa (qv 2) Ab))) Ab)))))) Ay)
   (Ag (Ar (Ak (Aa (qv 3) (Aa (Bc (Aa (qv 4) (Aa (qv 2) Ab))) (Aa (Bc Ab) Ab))))))))))))))))),?_⟩
  have bg:=big;obtain⟨U,ea,aj⟩:=S.ex;have la:U.length=sh.length:=aj.1;have fin:∀(H1:Hp)(g:Nat)(xs ys:List Nat)(new:Af)(ak:List V),Bt a H H1->H1 a=some (.lst ak)->ShG K H1 a (sh++new)->Az sh.length w=(g,xs,ys,new)->∀b,H1 b=none->∀c,upd H1 b (.lst (Aq xs)) c=none->∀r,upd (upd H1 b (.lst (Aq xs))) c (.lst (Aq ys)) r=none->Q (.ref r) (upd (upd (upd H1 b (.lst (Aq xs))) c (.lst (Aq ys))) r (.tup [.int (g:Nat),.ref b,.ref c])):=by
   rintro H1 g xs ys new ak hb e1 S1 hk b h1 c h2 r h3;rw[hk]at q;have Y:=Same.upd (o:=.lst (Aq xs)) h1;have s2:=Same.upd (o:=.lst (Aq ys)) h2;have s3:=Same.upd (o:=.tup [.int (g:Nat),.ref b,.ref c]) h3;have fr:∀{x:Addr},H1 x=none->H x=none:=λ{x} hx=>by
    cases e:H x with
    |none=>rfl
    |some o=>rw[hb x o (λz=>by rw[z,e1]at hx;cases hx) e]at hx;cases hx
   exact q r b c _ (hb.trans (Jh ((Y.trans s2).trans s3) a)) (S1.same ((Y.trans s2).trans s3)) (SqT.of Ac) ((s2.trans s3) _ _ Ac) (fr h1) (A6 e1 h1).symm (s3 _ _ Ac) (fr (Y.free h2)) (A6 (Y _ _ e1) h2).symm (A6 Ac h2).symm
  have O:∀(H1:Hp)(g:Nat)(xs ys:List Nat),Same H H1->Az sh.length w=(g,xs,ys,[])->∀b,H1 b=none->∀c,upd H1 b (.lst (Aq xs)) c=none->∀r,upd (upd H1 b (.lst (Aq xs))) c (.lst (Aq ys)) r=none->Q (.ref r) (upd (upd (upd H1 b (.lst (Aq xs))) c (.lst (Aq ys))) r (.tup [.int (g:Nat),.ref b,.ref c])):=λH1 g xs ys Y hk=>fin H1 g xs ys [] U (Jh Y a) (Y _ _ ea) (by rw[Qj];exact S.same Y) hk;unfold Az at fin O;left;rw[Fp];refine Bk (λc=>?_) (λc=>?_)
  ·have c:=of_decide_eq_true c;rw[if_pos c]at O;left;refine⟨Bo,λb hb=>?_⟩;left;refine⟨Bo,λc hc=>?_⟩;left;refine⟨Bg,λr I=>?_⟩;exact O H 0 [] [] (Same.refl _) rfl b hb c hc r I
  have c1:¬w="num":=λe=>c (decide_eq_true e);rw[if_neg c1]at fin O;left;rw[Fp];refine Bk (λc=>?_) (λc=>?_)
  ·have c:=of_decide_eq_true c;rw[if_pos c]at O;left;refine⟨Bo,λb hb=>?_⟩;left;refine⟨Bo,λc hc=>?_⟩;left;refine⟨Bg,λr I=>?_⟩;exact O H 1 [] [] (Same.refl _) rfl b hb c hc r I
  have c1:¬w="truth":=λe=>c (decide_eq_true e);rw[if_neg c1]at fin O;left;refine⟨Bq,λp1 h1=>?_⟩;refine Fb (.inr (SqT.of Ac)) rfl rfl ?_;rw[if_neg P5,Jg];have Y:Same H (upd H p1 (.tup [.str "plus",.str "minus"])):=Same.upd h1;revert Y;generalize upd H p1 (.tup [.str "plus",.str "minus"])=H1;intro Y;left;refine Bk (λc=>?_) (λc=>?_)
  ·have c:=of_decide_eq_true c;rw[if_pos c]at O;left;refine⟨Bq,λb hb=>?_⟩;left;refine⟨Bo,λc hc=>?_⟩;left;refine⟨Bg,λr I=>?_⟩;exact O H1 0 [0,0] [] Y rfl b hb c hc r I
  have c1:¬(w="plus"\/w="minus"):=λe=>c (decide_eq_true e);rw[if_neg c1]at fin O;left;rw[Fp];refine Bk (λc=>?_) (λc=>?_)
  ·have c:=of_decide_eq_true c;rw[if_pos c]at O;left;refine⟨Bq,λb hb=>?_⟩;left;refine⟨Bo,λc hc=>?_⟩;left;refine⟨Bg,λr I=>?_⟩;exact O H1 1 [0,0] [] Y rfl b hb c hc r I
  have c1:¬w="less":=λe=>c (decide_eq_true e);rw[if_neg c1]at fin;clear O;left;refine⟨B5,λp2 h2=>?_⟩;left;have s2:=Y.put (o:=.tup [.str "any"]) h2;have al:=s2 _ _ ea;refine⟨a,.ref p2,U,rfl,al,by lia,?_⟩;have S2:=ShG.snoc (K:=K) (s:=.any) al (aj.mono (ShE.same s2.t)) (SqT.of Ac);have b2:Bt a H (upd (upd H1 p2 (.tup [.str "any"])) a (.lst (U++[.ref p2]))):=(Jh s2 a).trans Bt.upd;have ag:upd (upd H1 p2 (.tup [.str "any"])) a (.lst (U++[.ref p2])) a=some (.lst (U++[.ref p2])):=Ac;revert S2 b2 ag;generalize upd (upd H1 p2 (.tup [.str "any"])) a (.lst (U++[.ref p2]))=H2;intro S2 b2 ag;rw[la];left;rw[Fp];refine Bk (λc=>?_) (λc=>?_)
  ·have c:=of_decide_eq_true c;rw[if_pos c]at fin;left;refine⟨Bg,λb hb=>?_⟩;left;refine⟨Bo,λc hc=>?_⟩;left;refine⟨Bg,λr I=>?_⟩;exact fin H2 sh.length [1,sh.length,sh.length] [] [.any] _ b2 ag S2 rfl b hb c hc r I
  have c1:¬w="if":=λe=>c (decide_eq_true e);rw[if_neg c1]at fin;left;refine⟨Bg,λp3 h3=>?_⟩;refine Fb (.inr (SqT.of Ac)) rfl rfl ?_;rw[if_neg P5,in3];have s3:=Same.upd (o:=.tup [.str "gap",.str "odd",.str "name"]) h3;have S3:=S2.same s3;have b3:=b2.trans (Jh s3 a);have Z:=s3 _ _ ag;revert S3 b3 Z;generalize upd H2 p3 (.tup [.str "gap",.str "odd",.str "name"])=H3;intro S3 b3 Z;left;refine Bk (λc=>?_) (λc=>?_)
  ·have c:=of_decide_eq_true c;rw[if_pos c]at fin;left;refine⟨Bo,λb hb=>?_⟩;left;refine⟨Bo,λc hc=>?_⟩;left;refine⟨Bg,λr I=>?_⟩;exact fin H3 sh.length [] [] [.any] _ b3 Z S3 rfl b hb c hc r I
  have c1:¬(w="gap"\/w="odd"\/w="name"):=λe=>c (decide_eq_true e);rw[if_neg c1]at fin;left;refine⟨B5,λp4 h4=>?_⟩;have s4:=Same.upd (o:=.tup [.str "any"]) h4;left;obtain⟨aq,ah,am⟩:=S3.ex;rw[Z]at ah;cases ah;have l3:(U++[V.ref p2]).length=sh.length+1:=by rw[Pr,la];rfl
  refine⟨a,.ref p4,_,rfl,s4 _ _ Z,by lia,?_⟩;have S4:=ShG.snoc (K:=K) (s:=.any) (s4 _ _ Z) (am.mono (ShE.same s4.t)) (SqT.of Ac);have b4:Bt a H (upd (upd H3 p4 (.tup [.str "any"])) a (.lst (U++[.ref p2]++[.ref p4]))):=(b3.trans (Jh s4 a)).trans Bt.upd;have aa:upd (upd H3 p4 (.tup [.str "any"])) a (.lst (U++[.ref p2]++[.ref p4])) a=some (.lst (U++[.ref p2]++[.ref p4])):=Ac;revert S4 b4 aa;generalize upd (upd H3 p4 (.tup [.str "any"])) a (.lst (U++[.ref p2]++[.ref p4]))=H4;intro S4 b4 aa;rw[l3];rw[Qi]at S4;left;rw[Fp];refine Bk (λc=>?_) (λc=>?_)
  ·have c:=of_decide_eq_true c;rw[if_pos c]at fin;left;refine⟨Bq,λb hb=>?_⟩;left;refine⟨B5,λc hc=>?_⟩;left;refine⟨Bg,λr I=>?_⟩;exact fin H4 (sh.length+1) [sh.length,sh.length+1] [sh.length] [.any,.any] _ b4 aa S4 rfl b hb c hc r I
  have c1:¬w="let":=λe=>c (decide_eq_true e);rw[if_neg c1]at fin;left;refine⟨Bg,λp6 h6=>?_⟩;have s6:=Same.upd (o:=.tup [.str "to",.int (sh.length:Nat),.int (sh.length+1:Nat)]) h6;left;obtain⟨ap,ai,an⟩:=S4.ex;rw[aa]at ai;cases ai;have l5:(U++[V.ref p2]++[V.ref p4]).length=sh.length+2:=by rw[Pr,l3];rfl
  refine⟨a,.ref p6,_,rfl,s6 _ _ aa,by lia,?_⟩;have S6:=ShG.snoc (K:=K) (s:=.to sh.length (sh.length+1)) (s6 _ _ aa) (an.mono (ShE.same s6.t)) (SqT.of Ac);have b6:Bt a H (upd (upd H4 p6 (.tup [.str "to",.int (sh.length:Nat),.int (sh.length+1:Nat)])) a (.lst (U++[.ref p2]++[.ref p4]++[.ref p6]))):=(b4.trans (Jh s6 a)).trans Bt.upd;have ae:upd (upd H4 p6 (.tup [.str "to",.int (sh.length:Nat),.int (sh.length+1:Nat)])) a (.lst (U++[.ref p2]++[.ref p4]++[.ref p6])) a=some (.lst (U++[.ref p2]++[.ref p4]++[.ref p6])):=Ac;revert S6 b6 ae;generalize upd (upd H4 p6 (.tup [.str "to",.int (sh.length:Nat),.int (sh.length+1:Nat)])) a (.lst (U++[.ref p2]++[.ref p4]++[.ref p6]))=H6;intro S6 b6 ae;rw[l5];rw[Qi]at S6;left;rw[Fp];refine Bk (λc=>?_) (λc=>?_)
  ·have c:=of_decide_eq_true c;rw[if_pos c]at fin;left;refine⟨B5,λb hb=>?_⟩;left;refine⟨B5,λc hc=>?_⟩;left;refine⟨Bg,λr I=>?_⟩;exact fin H6 (sh.length+2) [sh.length+1] [sh.length] [.any,.any,.to sh.length (sh.length+1)] _ b6 ae S6 rfl b hb c hc r I
  have c1:¬w="fn":=λe=>c (decide_eq_true e);rw[if_neg c1]at fin;left;rw[Fp];refine Bk (λc=>?_) (λc=>?_)
  ·have c:=of_decide_eq_true c;rw[if_pos c]at fin;left;refine⟨B5,λb hb=>?_⟩;left;refine⟨Bq,λc hc=>?_⟩;left;refine⟨Bg,λr I=>?_⟩;exact fin H6 (sh.length+2) [sh.length+1] [sh.length+2,sh.length] [.any,.any,.to sh.length (sh.length+1)] _ b6 ae S6 rfl b hb c hc r I
  have c1:¬w="rec":=λe=>c (decide_eq_true e);rw[if_neg c1]at fin;left;refine⟨Bq,λb hb=>?_⟩;left;refine⟨Bo,λc hc=>?_⟩;left;refine⟨Bg,λr I=>?_⟩;exact fin H6 (sh.length+1) [sh.length+2,sh.length] [] [.any,.any,.to sh.length (sh.length+1)] _ b6 ae S6 rfl b hb c hc r I
noncomputable abbrev Ev:=Str->Option Nat
noncomputable def Cv (e:Ev)(ns:List Str)(ks:List Nat):Ev:=(ns.zip ks).foldl (λe p=>λs=>if s=p.1 then some p.2 else e s) e
def DcS (kvs:List (Av×V))(e:Ev):Prop:=∀s:Str,Bw kvs (.inr s)=(e s).map λn=>V.int ((n:Nat):Int)
theorem DcS.put (h:DcS kvs e)(s:Str)(n:Nat):DcS (Bp kvs (.inr s) (.int (n:Nat))) (λt=>if t=s then some n else e t):=λt=>by
 rw[Li];show _=Option.map _ (if t=s then some n else e t);by_cases F:t=s
 ·rw[if_pos (by rw[F]),if_pos F];rfl
 ·rw[if_neg λz=>F (Sum.inr.inj z),if_neg F];exact h t
structure EvAt (H:Hp)(a:Addr)(e:Ev)(m:Nat):Prop where
 ex:∃kvs,H a=some (.dK kvs)/\DcS kvs e/\kvs.length<=m
theorem EvAt.same (h:EvAt H a e m)(s:Same H H'):EvAt H' a e m:=let ⟨kvs,h1,h2,h3⟩:=h.ex;⟨kvs,s _ _ h1,h2,h3⟩
inductive Jwn (K:Ph)(vs:List V)(H:Hp)(Q:VK)(e9:XK):Prop
 |mk (a n k:Addr) (e:Ev) (ns:List Str) (ks:List Nat) (m:Nat) (_:vs=[.ref a,.ref n,.ref k]) (_:EvAt H a e m) (_:m<=5000) (_:H n=some (.lst (ns.map V.str))) (_:H k=some (.lst (Aq ks))) (_:ns.length<=2) (_:∀p H',Same H H'->H p=none->EvAt H' p (Cv e ns ks) (m+2)->Q (.ref p) H')
def Zfv (K:Ph):Sp:=Jwn K
theorem Zsj {e:Ev}{ns:List Str}{ks:List Nat}{i:Nat}{s:Str}{n:Nat}(h1:ns[i]?=some s)(h2:ks[i]?=some n):Cv e (ns.take (i+1)) (ks.take (i+1))=λt=>if t=s then some n else Cv e (ns.take i) (ks.take i) t:=by
 unfold Cv;have F:(ns.take (i+1)).zip (ks.take (i+1))=(ns.take i).zip (ks.take i)++[(s,n)]:=by
  rw[Qq,Qq,h1,h2];have O:=(Pq.mp h1).1;have I:=(Pq.mp h2).1;exact List.zip_append (by rw[Qb,Qb];lia)
 rw[F,R8];rfl
theorem Zhx:∀(ns:List Str)(ks:List Nat),(ns.take (min ns.length ks.length)).zip (ks.take (min ns.length ks.length))=ns.zip ks
 |[],_=>by simp
 |_::_,[]=>by simp
 |a::r,b::s=>by
  have:=Zhx r s;rw[Pw,Pw,show min (r.length+1) (s.length+1)=min r.length s.length+1 by lia,List.take_succ_cons,List.take_succ_cons,List.zip_cons_cons,List.zip_cons_cons,this]
theorem Zs5 (e:Ev)(ns:List Str)(ks:List Nat):Cv e (ns.take (min ns.length ks.length)) (ks.take (min ns.length ks.length))=Cv e ns ks:=by
 unfold Cv;rw[Zhx]
theorem sc_with_names:Bm ["around","names","kinds","made","name","kind"] ["around","names","kinds"] (Bh Kv):=by walk_at "sc"
theorem Zpu (F:Fun K "with_names" "with_names" Kv f fd)(T:Txt K mg):A8 P w K mg base A9 1 f fd ["around","names","kinds"] (Zfv K):=by
 refine F.okq sc_with_names (λvs H Q E h=>?_) (λag A outer s H vs Q E hr h=>?_)
 ·obtain⟨a,n,k,e,ns,ks,m,rfl,_⟩:=h;rfl
 ·obtain⟨a,n,k,e,ns,ks,m,rfl,he,hm,hn,hk,hl,q⟩:=h;refine⟨_,Ae (As 3 sc_with_names (Hk Zil (by rfl) T.dict (by right) (Aa (qv 0) Ab)))
   (Ae (Cw Qc rfl (Ztf K rfl T.zip (Aa (qv 1) (Aa (qv 2) Ab))) (Dq K (n:=2) rfl (Bu (Bb (i:=4) sc_with_names.nd rfl (Or.inl rfl)) (Bu (Bb (i:=5) sc_with_names.nd rfl (Or.inl rfl)) (Di)))) (Ag (Gh hr.u1 (qv 3) (qv 4) (qv 5))))
   (Ag (Ar (qv 3)))),?_⟩
  have bg:=big;obtain⟨kvs,ea,dc,kl⟩:=he.ex;left;refine⟨a,kvs,rfl,ea,λp hp=>?_⟩;have s1:=Same.upd (o:=.dK kvs) hp;left;refine⟨n,k,_,_,rfl,SqL.of (s1 _ _ hn),SqL.of (s1 _ _ hk),?_⟩;refine Zuk (K:=K) (a:=n) (b:=k) (xs:=ns.map V.str) (ys:=Aq ks) (λi O H'=>eX3 λv4 v5 U=>O=[some (.ref a),some (.ref n),some (.ref k),some (.ref p),v4,v5]/\H' p=some (.dK U)/\DcS U (Cv e (ns.take i) (ks.take i))/\U.length<=m+i/\Same H H')
   ⟨_,_,kvs,rfl,Ac,dc,kl,s1⟩ ?_ ?_ ?_
  ·rintro i O H' _ ⟨_,_,_,_,_,_,_,sm⟩;exact⟨SqL.of (sm _ _ hn),SqL.of (sm _ _ hk)⟩
  ·rintro i x y t O H' hx Z ht ⟨v4,v5,U,rfl,ep,I,lv,sm⟩;have hi:i<ns.length:=by have:=(Pq.mp hx).1;rwa[Pp]at this
   have Y:i<ks.length:=by have:=(Pq.mp Z).1;unfold Aq at this;rwa[Pp]at this
   have ae:x=.str ns[i]:=by rw[Qf,Pj hi]at hx;exact(Pz hx).symm
   have aa:y=.int ((ks[i]:Nat):Int):=by unfold Aq at Z;rw[Qf,Pj Y]at Z;exact(Pz Z).symm
   subst ae aa;have s2:=Same.upd (o:=.tup [.str ns[i],.int ((ks[i]:Nat):Int)]) ht;refine Dp (SqT.of Ac) rfl ?_;left;refine⟨p,_,rfl,DPut.k (k:=.inr ns[i]) (s2 _ _ ep) (by lia),?_⟩;have ah:=Et U (.inr ns[i]) (.int ((ks[i]:Nat):Int));refine⟨_,_,_,rfl,Ac,?_,by lia,(sm.trans s2).over hp⟩;rw[Zsj (Pj hi) (Pj Y)];exact I.put _ _
  ·rintro O H' ⟨v4,v5,U,rfl,ep,I,lv,sm⟩;have e1:min (ns.map V.str).length (Aq ks).length=min ns.length ks.length:=by unfold Aq;rw[Pp,Pp]
   rw[e1]at I lv;rw[Zs5]at I;left;exact q p H' sm hp ⟨U,ep,I,by lia⟩
end
end K38
namespace K19
open PySem L2
def C0 (w:Str)(n:Dt):Prop:=(w="fn"\/w="let"\/w="name" -> ∃t:Str,n=.flat (.str t))/\(w="rec" -> ∃t u:Str,n=.tup [.flat (.str t),.flat (.str u)])
inductive Fw:Tr->Prop where
 |mk {w:Str} {n:Dt} {ts:List Tr} (h:C0 w n) (hs:∀t∈ts,Fw t):Fw (.mk w n ts)
theorem Gw {w:Str}{n:Dt}(h1:w≠"fn")(h2:w≠"let")(h3:w≠"name")(h4:w≠"rec"):C0 w n:=⟨λh=>by rcases h with h|h|h <;> contradiction,λh=>absurd h h4⟩
inductive Sub:Tr->List Nat->Prop where
 |nil (t:Tr):Sub t []
 |cons {w:Str} {n:Dt} {ts:List Tr} {j:Nat} {t:Tr} {r:List Nat} (h:ts[j]?=some t) (s:Sub t r):Sub (.mk w n ts) (j::r)
mutual
theorem Zfq:∀(t:Tr)(x:List Nat×Tr),x∈walk [] t->Sub t x.1
 |.mk w n ps,x,h=>by
  rw[walk]at h;rcases Pm.mp h with rfl|h
  ·exact .nil _
  ·obtain⟨j,t,r,F,I,O⟩:=Zh7 0 ps x h;rw[I,Rc];exact .cons F O
theorem Zh7:∀(i:Nat)(ts:List Tr)(x:List Nat×Tr),x∈Br [] i ts->eX3 λ(j:Nat)(t:Tr)(r:List Nat)=>ts[j]?=some t/\x.1=(i+j)::r/\Sub t r
 |_,[],x,h=>by rw[Br]at h;cases h
 |i,t::q,x,h=>by
  rw[Br]at h;rcases P3.mp h with h|h
  ·rw[Zb8]at h;obtain⟨y,I,rfl⟩:=Q7.mp h;exact⟨0,t,y.1,rfl,rfl,Zfq t y I⟩
  ·obtain⟨j,Y,r,F,O,U⟩:=Zh7 (i+1) q x h;exact⟨j+1,Y,r,by simpa using F,by rw[O];congr 1;lia,U⟩
end
noncomputable def C6:Tr->List Nat->List Tr
 |t,[]=>[t]
 |.mk w n ps,k::r=>.mk w n ps::(match ps[k]? with|some u=>C6 u r|none=>[])
theorem Nu (h:ts[j]?=some t):C6 (.mk w n ts) (j::r)=.mk w n ts::C6 t r:=by rw[C6,h]
theorem Zcq (s:Sub t pl):(C6 t pl).length=pl.length+1:=by
 induction s with
 |nil t=>cases t;rfl
 |cons h _ F=>rw[Nu h,Pw,F,Pw]
theorem Zfg (t:Tr)(pl:List Nat):(C6 t pl)[0]?=some t:=by
 cases t with
 |mk w n ps=>cases pl <;> rfl
theorem Zep (s:Sub t pl):∀(i:Nat)(k:Nat),pl[i]?=some k->eX4 λw n ps u=>(C6 t pl)[i]?=some (.mk w n ps)/\ps[k]?=some u/\(C6 t pl)[i+1]?=some u:=by
 induction s with
 |nil t=>intro i k h;simp at h
 | @cons w n ts j u r h s I =>
  intro i k F;rw[Nu h];cases i with
  |zero =>
   have:j=k:=by simpa using F
   subst this;exact⟨w,n,ts,u,rfl,h,by simpa using Zfg u r⟩
  |succ i =>
   obtain⟨O,U,ps,Y,a,b,c⟩:=I i k (by simpa using F);exact⟨O,U,ps,Y,by simpa using a,b,by simpa using c⟩
theorem Zqi (s:Sub t pl)(h:Fw t):∀u∈C6 t pl,Fw u:=by
 induction s with
 |nil t=>intro u F;cases t;rw[C6,Py]at F;rw[F];exact h
 |cons O _ U =>
  cases h with
  |mk h1 I =>
   intro u F;rw[Nu O]at F;rcases Pm.mp F with rfl|F
   ·exact .mk h1 I
   ·exact U (I _ (Qu O)) u F
noncomputable def Gs:Dt->List Str
 |.flat (.str t)=>[t]
 |_=>[]
noncomputable def Ij:Dt->List Str
 |.tup [.flat (.str t),.flat (.str u)]=>[t,u]
 |_=>[]
noncomputable def nb (w:Str)(n:Dt)(k:Nat):List Str:=if w="fn" then Gs n else if w="rec" then Ij n else if w="let"/\k=1 then Gs n else []
noncomputable def Cf:Tr->List Nat->List (List Str)
 |_,[]=>[]
 |.mk w n ps,k::r=>nb w n k::(match ps[k]? with|some u=>Cf u r|none=>[])
theorem Ks (h:ts[j]?=some t):Cf (.mk w n ts) (j::r)=nb w n j::Cf t r:=by rw[Cf,h]
theorem Zdq (s:Sub t pl):(Cf t pl).length=pl.length:=by
 induction s with
 |nil t=>cases t;rfl
 |cons h _ F=>rw[Ks h,Pw,F,Pw]
theorem Zj4 (s:Sub t pl):∀(i k:Nat)(w:Str)(n:Dt)(ps:List Tr),pl[i]?=some k->(C6 t pl)[i]?=some (.mk w n ps)->(Cf t pl)[i]?=some (nb w n k):=by
 induction s with
 |nil t=>intro i k w n ps h;simp at h
 | @cons w n ts j u r h s Y =>
  intro i k I O ps U F;rw[Nu h]at F;rw[Ks h];cases i with
  |zero =>
   have Z:j=k:=by simpa using U
   have e2:Tr.mk w n ts=Tr.mk I O ps:=by simpa using F
   cases e2;subst Z;rfl
  |succ i=>simpa using Y i k I O ps (by simpa using U) (by simpa using F)
noncomputable def De (d:Nat):List (List Str)->List (Str×Nat)
 |[]=>[]
 |l::r=>l.map (λx=>(x,d))++De (d+1) r
theorem Zfb:∀(d:Nat)(a b:List (List Str)),De d (a++b)=De d a++De (d+a.length) b
 |d,[],b=>by simp[De]
 |d,l::r,b=>by
  rw[Ru,De,De,Zfb,Qi,Pw]
  congr 3
  lia
theorem Zda:∀(d:Nat)(ls:List (List Str)),(De d ls).map (·.1)=ls.flatten
 |_,[]=>rfl
 |d,l::r=>by
  rw[De,Qv,Zda,Uf,V2]
  congr 1
  exact List.map_id l
noncomputable def bn (t:Tr)(pl:List Nat):List (Str×Nat):=De 0 (Cf t pl)
noncomputable def Cm (t:Tr)(pl:List Nat):List Str:=(Cf t pl).flatten
theorem Zti (t:Tr)(pl:List Nat):(bn t pl).map (·.1)=Cm t pl:=Zda 0 _
noncomputable def Cc (x:Str):Nat->List Str->Option Nat
 |_,[]=>none
 |d,y::r=>match Cc x (d+1) r with
  |some k=>some k
  |none=>if y=x then some d else none
theorem Ze4 (x:Str):∀(d:Nat)(a b:List Str),Cc x d (a++b)=match Cc x (d+a.length) b with|some k=>some k|none=>Cc x d a
 |d,[],b=>by
  rw[Uj,W1,Nat.add_zero];cases Cc x d b <;> rfl
 |d,y::r,b=>by
  rw[Ru,Cc,Ze4,Pw,show d+1+r.length=d+(r.length+1) by lia];cases Cc x (d+(r.length+1)) b with
  |some k=>rfl
  |none=>rfl
theorem Zqy (x y:Str)(d:Nat)(a:List Str):Cc x d (a++[y])=if y=x then some (d+a.length) else Cc x d a:=by
 rw[Ze4,Cc,Cc];by_cases h:y=x
 ·rw[if_pos h,if_pos h]
 ·rw[if_neg h,if_neg h]
end K19
namespace K38
open PySem L2 K19
section
variable {P:Program}{w:World}{K:Ph}{mg:Str->Option Value}{base:Heap}
inductive Jnb (K:Ph)(vs:List V)(H:Hp)(Q:VK)(e9:XK):Prop
 |mk (v:V) (w:Str) (n:Dt) (ps:List Tr) (k:Nat) (_:vs=[v,.int (k:Nat)]) (_:TrAt K H v (.mk w n ps)) (_:C0 w n) (_:∀(q:Addr)(H':Hp),H q=none->Same H H'->H' q=some (.lst ((nb w n k).map V.str))->Q (.ref q) H')
def O4 (K:Ph):Sp:=Jnb K
theorem Ih:decide (V.str x=V.str y)=decide (x=y):=by
 by_cases h:x=y
 ·subst h;simp
 ·rw[decide_eq_false h,decide_eq_false (λe=>h (by injection e))]
theorem Nr (h:IsN K H nv (.flat (.str t))):nv=.str t:=by
 rcases h with⟨_,e⟩|⟨a,vs,_,_,_,e⟩
 ·injection e with e;exact e.symm
 ·cases e
theorem Zoj (h:IsN K H nv (.tup [.flat (.str t),.flat (.str u)])):∃a,nv=.ref a/\SqT K H a [.str t,.str u]:=by
 rcases h with⟨_,e⟩|⟨a,vs,F,q,_,e⟩
 ·cases e
 ·injection e with e;obtain⟨x,y,rfl⟩:=lz2 (vs:=vs) (by first|exact e|(have:=congrArg Qx e;rw[Pp]at this;exact this.symm));simp only[Q3,List.map_nil,List.cons.injEq,Dt.flat.injEq,and_true]at e;obtain⟨rfl,rfl⟩:=e;exact⟨a,F,q⟩
theorem Zn5:Bm ["form","number"] ["form","number"] (Bh Lr):=by walk_at "sc"
theorem Zue (F:Fun K "names_bound" "names_bound" Lr f fd)(T:Txt K mg):A8 P w K mg base A9 1 f fd ["form","number"] (O4 K):=by
 refine F.okq Zn5 (λvs H Q E h=>?_) (λaa A outer s H vs Q E Z h=>?_)
 ·obtain⟨v,w,n,ps,k,rfl,_⟩:=h;rfl
 ·obtain⟨v,w,n,ps,k,rfl,ht,O,q⟩:=h;refine⟨_,Ae (Au (Aw (Bf K Z.u200) (Ah K (qv 0) Ad) Aj (A0 _)) (Ag (Ar (Bc (Aa (Ah K (qv 0) Ad) Ab)))) Ay)
   (Ae (Au (Aw (Bf K Z.u200) (Ah K (qv 0) Ad) Aj (A0 _)) (Ag (Ar (Hk (Zc6 K) (by rfl) T.list (by right) (Aa (Ah K (qv 0) Ad) Ab)))) Ay)
   (Ae (Au (QW.qt (F7 (Aw (Bf K Z.u200) (Ah K (qv 0) Ad) Aj (A0 _)) (F5 (Aw (Bf K Z.u200) (qv 1) Ad (A0 _))))) (Ag (Ar (Bc (Aa (Ah K (qv 0) Ad) Ab)))) Ay)
   (Ag (Ar (Bc Ab))))),?_⟩
  cases ht with
  | @mk b pp _ nv _ us _ U hn qp l ae =>
  left;refine Ao U rfl ?_;left;rw[Ih];refine Bk (λc=>?_) (λc=>?_)
  ·have c:=of_decide_eq_true c;obtain⟨t,rfl⟩:=O.1 (.inl c);have:=Nr hn;subst this;left;refine Ao U rfl ?_;left;refine⟨B5,λp I=>?_⟩;refine q p _ I (Same.upd I) ?_;rw[Ac,nb,if_pos c];rfl
  have c1:¬w="fn":=λe=>c (decide_eq_true e);left;refine Ao U rfl ?_;left;rw[Ih];refine Bk (λc=>?_) (λc=>?_)
  ·have c:=of_decide_eq_true c;obtain⟨t,u,rfl⟩:=O.2 c;obtain⟨na,rfl,qn⟩:=Zoj hn;left;refine Ao U rfl ?_;left;refine⟨na,_,rfl,.inr qn,λp I=>?_⟩;refine q p _ I (Same.upd I) ?_;rw[Ac,nb,if_neg c1,if_pos c];rfl
  have c2:¬w="rec":=λe=>c (decide_eq_true e);have none:¬(w="let"/\k=1)->∀p,H p=none->Q (.ref p) (upd H p (.lst [])):=λh p I=>by
   refine q p _ I (Same.upd I) ?_;rw[Ac,nb,if_neg c1,if_neg c2,if_neg h];rfl
  left;refine Ao U rfl ?_;left;rw[Ih];refine Bk (λc=>?_) (λc=>?_)
  ·have c:=of_decide_eq_true c;left;refine Bk (λY=>?_) (λY=>?_)
   ·have Y:k=1:=by
     have:(k:Int)=1:=by simpa using Y
     lia
    obtain⟨t,rfl⟩:=O.1 (.inr (.inl c));have:=Nr hn;subst this;left;refine Ao U rfl ?_;left;refine⟨B5,λp I=>?_⟩;refine q p _ I (Same.upd I) ?_;rw[Ac,nb,if_neg c1,if_neg c2,if_pos ⟨c,Y⟩];rfl
   ·left;refine⟨Bo,λp I=>none (λe=>Y ?_) p I⟩;rw[e.2];decide
  ·left;refine⟨Bo,λp I=>none (λe=>c (decide_eq_true e.1)) p I⟩
noncomputable def Cz:Dt->Str
 |.flat (.str t)=>t
 |_ => ""
noncomputable abbrev An:=List Nat->Option Ev
noncomputable def E3 (A:An)(pl:List Nat)(f:Nat->Ev):Nat->An
 |0=>A
 |m+1=>λq=>if q=pl++[m] then some (f m) else E3 A pl f m q
noncomputable abbrev Dn:=List Nat->Option Nat
noncomputable def Db (D:Dn)(pl:List Nat):Nat->List Nat->Dn
 |_,[]=>D
 |i,a::r=>Db (λq=>if q=pl++[i] then some a else D q) pl (i+1) r
theorem Zhf (pl:List Nat)(a:Nat):∀(xs:List Nat)(D:Dn)(i:Nat),Db D pl i (xs++[a])=λq=>if q=pl++[i+xs.length] then some a else Db D pl i xs q
 |[],D,i=>by simp[Db]
 |x::r,D,i=>by
  rw[Ru,Db,Zhf pl a r _ (i+1),Db,Pw];have:i+1+r.length=i+(r.length+1):=by lia
  rw[this]
theorem Zdm (A:An)(pl:List Nat)(f:Nat->Ev):∀m,E3 A pl f m pl=A pl
 |0=>rfl
 |m+1=>by
  have h:¬pl=pl++[m]:=λe=>by have:=congrArg Qx e;simp at this
  show(if pl=pl++[m] then _ else _)=_;rw[if_neg h];exact Zdm A pl f m
theorem nbl3 (w:Str)(n:Dt)(k:Nat):(nb w n k).length<=2:=by
 have h1:(Gs n).length<=2:=by unfold Gs;split <;> simp
 have h2:(Ij n).length<=2:=by unfold Ij;split <;> simp
 unfold nb;split
 ·exact h1
 ·split
  ·exact h2
  ·split
   ·exact h1
   ·simp
noncomputable def Dd (m:Nat)(w:Str)(n:Dt)(e:Ev):Nat:=if w="name" then (e (Cz n)).getD (Az m w).1 else (Az m w).1
inductive KinG:List (List Nat×Tr)->Af->Dn->An->List (Nat×Nat)->Af->Prop where
 |nil {sh:Af} {D:Dn} {A:An}:KinG [] sh D A [] sh
 |cons {pl:List Nat} {w:Str} {n:Dt} {ts:List Tr} {rs:List (List Nat×Tr)} {sh sh':Af} {D:Dn} {A:An} {e:Ev} {ps:List (Nat×Nat)} (hA:A pl=some e) (hsh:C0 w n)
   (k:KinG rs (sh++(Az sh.length w).2.2.2) (Db D pl 0 (Az sh.length w).2.1) (E3 A pl (λj=>Cv e (nb w n j) (Az sh.length w).2.2.1) (Az sh.length w).2.1.length) ps sh'):KinG ((pl,.mk w n ts)::rs) sh D A ((Dd sh.length w n e,(D pl).getD (Dd sh.length w n e))::ps) sh'
inductive Jkin (K:Ph)(vs:List V)(H:Hp)(Q:VK)(e9:XK):Prop
 |mk (p:Addr) (rows:List V) (rs:List (List Nat×Tr)) (ps:List (Nat×Nat)) (sh':Af) (_:vs=[.ref p]) (_:H p=some (.lst rows)) (_:Al (RowT K H) rows rs) (_:rs.length<=40) (_:(∀r∈rs,r.1.length<=40)) (_:KinG rs [.num,.truth] (λ_=>none) (λq=>if q=[] then some (λ_=>none) else none) ps sh') (_:∀r a b pv H',Same H H'->SqT K H' r [.ref a,.ref b]->ShG K H' a sh'->H' b=some (.lst pv)->Al (PaAt K H') pv ps->Q (.ref r) H')
def Zg2 (K:Ph):Sp:=Jkin K
structure KiF (H:Hp)(a b c d:Addr):Prop where
 ha:H a=none
 hb:H b=none
 hc:H c=none
 hd:H d=none
 ab:a≠b
 cd:c≠d
structure KiJ (K:Ph)(H:Hp)(a b c d:Addr)(sh:Af)(x:Nat)(D:Dn)(E:An)(ps:List (Nat×Nat))(H':Hp):Prop where
 sg:ShG K H' a sh
 pr:∃pv,H' b=some (.lst pv)/\Al (PaAt K H') pv ps
 ac:∃kc,H' c=some (.dT kc)/\kc.length<=x/\∀q,Bw kc (B4 q)=(D q).map λn=>V.int ((n:Nat):Int)
 ad:∃kd,H' d=some (.dT kd)/\kd.length<=x+1/\∀q e,E q=some e->∃y,Bw kd (B4 q)=some (.ref y)/\EvAt H' y e (2*q.length)
 sm:Same H H'
theorem Co {H:Hp}{x y:Addr}{o o':HO}(h:H x=some o)(h':H y=some o')(n:o≠o'):x≠y:=λz=>by rw[z,h']at h;exact n (Pz h).symm
theorem SameT.dt (h:H S=some (.dT kv)):SameT H (upd H S o2):=λb =>
 ⟨λxs e=>by rw[Ai (Co e h (λz=>by cases z))];exact e,λo' u e=>by rw[Ai (Co e h (λz=>by cases z))];exact e⟩
theorem EvAt.off (h:EvAt H a e m)(hs:H S=some o)(n:∀kv,o≠.dK kv):EvAt (upd H S o2) a e m:=by
 obtain⟨kvs,h1,h2,F⟩:=h.ex;exact⟨kvs,by rw[Ai (Co h1 hs (λz=>n _ z.symm))];exact h1,h2,F⟩
theorem KiJ.keep (J:KiJ K H a b c d sh x D E ps H1)(s:Same H1 H2):KiJ K H a b c d sh x D E ps H2:=by
 obtain⟨pv,F,U⟩:=J.pr;obtain⟨kc,I,l2,v2⟩:=J.ac;obtain⟨O,Z,l3,Y⟩:=J.ad;exact⟨J.sg.same s,⟨pv,s _ _ F,U.mono (PaAt.same s.t)⟩,⟨kc,s _ _ I,l2,v2⟩,⟨O,s _ _ Z,l3,λq e hq=>let ⟨y,h1,h2⟩:=Y q e hq;⟨y,h1,h2.same s⟩⟩,J.sm.trans s⟩
theorem KiJ.kind (J:KiJ K H a b c d sh x D E ps H1)(F:KiF H a b c d)(h:Bt a H1 H2)(S:ShG K H2 a sh'):KiJ K H a b c d sh' x D E ps H2:=by
 obtain⟨pv,e1,al⟩:=J.pr;obtain⟨Z,U,l2,v2⟩:=J.ac;obtain⟨kd,O,l3,v3⟩:=J.ad;obtain⟨us,I,_⟩:=J.sg.ex;have t:=h.t I;refine⟨S,⟨pv,h _ _ F.ab.symm e1,al.mono (PaAt.same t)⟩,⟨Z,h _ _ (Co U I (λz=>by cases z)) U,l2,v2⟩,⟨kd,h _ _ (Co O I (λz=>by cases z)) O,l3,λq e hq=>?_⟩,λy o e=>h y o (λz=>by rw[z,F.ha]at e;cases e) (J.sm y o e)⟩;obtain⟨y,h1,ev⟩:=v3 q e hq;obtain⟨kvs,h2,Y,h4⟩:=ev.ex;exact⟨y,h1,kvs,h _ _ (Co h2 I (λz=>by cases z)) h2,Y,h4⟩
theorem KiJ.pair (J:KiJ K H a b c d sh x D E ps H1)(F:KiF H a b c d)(eb:H1 b=some (.lst pv))(al:Al (PaAt K H1) pv ps)(hv:PaAt K H1 v y):KiJ K H a b c d sh x D E (ps++[y]) (upd H1 b (.lst (pv++[v]))):=by
 obtain⟨kc,I,l2,v2⟩:=J.ac;obtain⟨U,O,Z,Y⟩:=J.ad;have t:=SameT.set (o:=.lst (pv++[v])) eb;refine⟨J.sg.off F.ab eb,⟨_,Ac,(al.mono (PaAt.same t)).snoc (PaAt.same t _ _ hv)⟩,⟨kc,by rw[Ai (Co I eb (λz=>by cases z))];exact I,l2,v2⟩,⟨U,by rw[Ai (Co O eb (λz=>by cases z))];exact O,Z,λq e hq=>?_⟩,J.sm.over F.hb⟩;obtain⟨y,h1,h2⟩:=Y q e hq;exact⟨y,h1,h2.off eb (λkv z=>by cases z)⟩
theorem Zdi:Bw (Bp kv (B4 q) v) (B4 z)=if z=q then some v else Bw kv (B4 z):=by
 rw[Li];by_cases h:z=q
 ·rw[if_pos h,if_pos (by rw[h])]
 ·rw[if_neg h,if_neg λe=>h (Zmo e)]
theorem KiJ.ask (J:KiJ K H a b c d sh x D E ps H1)(F:KiF H a b c d)(ec:H1 c=some (.dT kc))(lc:kc.length<=x)(vc:∀q,Bw kc (B4 q)=(D q).map λn=>V.int ((n:Nat):Int)):KiJ K H a b c d sh (x+1) (λz=>if z=q then some n else D z) E ps (upd H1 c (.dT (Bp kc (B4 q) (.int (n:Nat))))):=by
 obtain⟨pv,O,al⟩:=J.pr;obtain⟨kd,Z,l3,v3⟩:=J.ad;obtain⟨Y,U,I⟩:=J.sg.ex;have t:=SameT.dt (o2:=.dT (Bp kc (B4 q) (.int (n:Nat)))) ec;refine⟨⟨Y,by rw[Ai (Co U ec (λz=>by cases z))];exact U,I.mono (ShE.same t)⟩,⟨pv,by rw[Ai (Co O ec (λz=>by cases z))];exact O,al.mono (PaAt.same t)⟩,⟨_,Ac,?_,λz=>?_⟩,⟨kd,by rw[Ai F.cd.symm];exact Z,by lia,λq e hq=>?_⟩,J.sm.over F.hc⟩
 ·have:=Et kc (B4 q) (.int (n:Nat));lia
 ·rw[Zdi,vc z];split <;> rfl
 ·obtain⟨y,h1,h2⟩:=v3 q e hq;exact⟨y,h1,h2.off ec (λkv z=>by cases z)⟩
theorem KiJ.name (J:KiJ K H a b c d sh (x+1) D E ps H1)(F:KiF H a b c d)(ed:H1 d=some (.dT kd))(ld:kd.length<=x+1)(vd:∀q e,E q=some e->∃y,Bw kd (B4 q)=some (.ref y)/\EvAt H1 y e (2*q.length))(he:EvAt H1 y e (2*q.length)):KiJ K H a b c d sh (x+1) D (λz=>if z=q then some e else E z) ps (upd H1 d (.dT (Bp kd (B4 q) (.ref y)))):=by
 obtain⟨pv,Y,al⟩:=J.pr;obtain⟨kc,e2,l2,v2⟩:=J.ac;obtain⟨us,Z,O⟩:=J.sg.ex;have t:=SameT.dt (o2:=.dT (Bp kd (B4 q) (.ref y))) ed;refine⟨⟨us,by rw[Ai (Co Z ed (λz=>by cases z))];exact Z,O.mono (ShE.same t)⟩,⟨pv,by rw[Ai (Co Y ed (λz=>by cases z))];exact Y,al.mono (PaAt.same t)⟩,⟨kc,by rw[Ai F.cd];exact e2,l2,v2⟩,⟨_,Ac,?_,λz U I=>?_⟩,J.sm.over F.hd⟩
 ·have:=Et kd (B4 q) (.ref y);lia
 ·rw[Zdi];have I:(if z=q then some e else E z)=some U:=I;by_cases h:z=q
  ·rw[if_pos h]at I ⊢;cases I;exact⟨y,rfl,by rw[h];exact he.off ed (λkv z=>by cases z)⟩
  ·rw[if_neg h]at I ⊢;obtain⟨y',h1,h2⟩:=vd z U I;exact⟨y',h1,h2.off ed (λkv z=>by cases z)⟩
theorem KiJ.imp (J:KiJ K H a b c d sh x D E ps H1)(hx:x<=x')(hD:D=D')(hE:∀q e,E' q=some e->E q=some e):KiJ K H a b c d sh x' D' E' ps H1:=by
 subst hD;obtain⟨kc,F,l2,Z⟩:=J.ac;obtain⟨I,U,l3,O⟩:=J.ad;exact⟨J.sg,J.pr,⟨kc,F,by lia,Z⟩,⟨I,U,by lia,λq e Y=>O q e (hE q e Y)⟩,J.sm⟩
theorem Zgp (m:Nat)(w:Str):(Az m w).2.1.length<=3/\(Az m w).2.2.2.length<=3:=by
 unfold Az
 repeat (first|split|exact⟨by decide,by decide⟩|(constructor <;> simp))
theorem Zhz (pl:List Nat)(j:Nat):Bv (pl++[j])=Bv pl++[.int ((j:Nat):Int)]:=by unfold Bv;rw[Qv];rfl
theorem sc_kinds_in:Bm ["placed","shapes","pairs","asked_at","around_at","place","form","given","asked","bound","number","kind","part"] ["placed"] (Bh Me):=by walk_at "sc"
theorem Zkp (F:Fun K "kinds_in" "kinds_in" Me f fd)(T:Txt K mg)(G_FIRST_SHAPES:Gb mg "FIRST_SHAPES" (.ref fs))(hfs:∀H,SqT K H fs [.ref s0,.ref s1])(hs0:∀H,SqT K H s0 [.str "num"])(hs1:∀H,SqT K H s1 [.str "truth"])(C_kinds_of_word:A7 P w K mg base 2 "kinds_of_word" ["shapes","word"] (Zhi K))(C_with_names:A7 P w K mg base 1 "with_names" ["around","names","kinds"] (Zfv K))(C_names_bound:A7 P w K mg base 1 "names_bound" ["form","number"] (O4 K)):A8 P w K mg base A9 3 f fd ["placed"] (Zg2 K):=by
 refine F.okq sc_kinds_in (λvs H Q E h=>?_) (λdw A outer s H vs Q E hr h=>?_)
 ·obtain⟨p,a7,rs,ps,bw,rfl,_⟩:=h;rfl
 ·obtain⟨p,a7,rs,ps,bw,rfl,ep,al,hl,cu,hK,q⟩:=h;refine⟨_,Ae (As 1 sc_kinds_in (Hk (Zc6 K) (by rfl) T.list (by right) (Aa (Fj G_FIRST_SHAPES) Ab)))
   (Ae (As 2 sc_kinds_in (Bc Ab))
   (Ae (As 3 sc_kinds_in (Zsd))
   (Ae (As 4 sc_kinds_in (Zsv hr.u1 (Ak Ab) (Np)))
   (Ae (Cw Qc rfl (D6 K (qv 0)) (Dq K (n:=2) rfl (Bu (Bb (i:=5) sc_kinds_in.nd rfl (Or.inl rfl)) (Bu (Bb (i:=6) sc_kinds_in.nd rfl (Or.inl rfl)) (Di)))) (Ae (Kz (A5 C_kinds_of_word hr.m (Aa (qv 1) (Aa (Ah K (qv 6) Ad) Ab))) (Dq K (n:=3) rfl (Bu (Bb (i:=7) sc_kinds_in.nd rfl (Or.inl rfl)) (Bu (Bb (i:=8) sc_kinds_in.nd rfl (Or.inl rfl)) (Bu (Bb (i:=9) sc_kinds_in.nd rfl (Or.inl rfl)) (Di))))))
   (Ae (Au (Aw (Bf K hr.u200) (Ah K (qv 6) Ad) Aj (A0 _)) (Ag (As 7 sc_kinds_in (Zgh hr.u1 (Lv hr.u1 (qv 4) (qv 5) (λ_ _=>rfl)) (Ah K (qv 6) Ad) (qv 7)))) Ay)
   (Ae (Cr (Cu K Qd Qs Qt C9 (qv 2) (Aa (Ak (Aa (qv 7) (Aa (Zgh hr.u1 (qv 3) (qv 5) (qv 7)) Ab))) Ab)))
   (Ag (Cw Qc rfl (Ny K rfl T.enumerate (Aa (qv 8) Ab)) (Dq K (n:=2) rfl (Bu (Bb (i:=10) sc_kinds_in.nd rfl (Or.inl rfl)) (Bu (Bb (i:=11) sc_kinds_in.nd rfl (Or.inl rfl)) (Di)))) (Ae (As 12 sc_kinds_in (A4 (Ou K) (qv 5) (Ak (Aa (qv 10) Ab))))
   (Ae (Gh hr.u1 (qv 3) (qv 12) (qv 11))
   (Ag (Gh hr.u1 (qv 4) (qv 12) (A5 C_with_names hr.m (Aa (Lv hr.u1 (qv 4) (qv 5) (λ_ _=>rfl)) (Aa (A5 C_names_bound hr.m (Aa (qv 6) (Aa (qv 10) Ab))) (Aa (qv 9) Ab))))))))))))))
   (Ag (Ar (Ak (Aa (qv 1) (Aa (qv 2) Ab))))))))),?_⟩
  have bg:=big;left;refine⟨fs,_,rfl,.inr (hfs H),λa ha=>?_⟩;have t1:=Same.upd (o:=.lst [.ref s0,.ref s1]) ha;left;refine⟨Bo,λb hb=>?_⟩;have t2:=Same.upd (o:=.lst []) hb;left;refine λc hc=>?_;have t3:=Same.upd (o:=.dT []) hc;left;refine λd hd=>?_;have t4:=Same.upd (o:=.dT []) hd;left;refine⟨Bo,λe0 ci=>?_⟩;have t5:=Same.upd (o:=.tup []) ci;refine λe1 da=>?_;have t6:=Same.upd (o:=.dK []) da;have ed:=(t5.trans t6) d _ Ac;have c5:=t6 e0 _ Ac;refine⟨_,DPut.t (k:=B4 []) ed (by show _=some (HO.tup []);exact c5) (by show 0<sizeLine;decide),?_⟩;have sH:=((((t1.trans t2).trans t3).trans t4).trans t5).trans t6;have fK:KiF H a b c d:=⟨ha,t1.free hb,(t1.trans t2).free hc,((t1.trans t2).trans t3).free hd,A6 Ac hb,A6 Ac hd⟩;have J0:KiJ K H a b c d [.num,.truth] 0 (λ_=>none) (λ_=>none) [] _:=⟨⟨[.ref s0,.ref s1],((((t2.trans t3).trans t4).trans t5).trans t6) a _ Ac,(Al.nil.snoc (x:=Sh.num) ⟨s0,rfl,hs0 _⟩).snoc (x:=Sh.truth) ⟨s1,rfl,hs1 _⟩⟩,⟨[],(((t3.trans t4).trans t5).trans t6) b _ Ac,.nil⟩,⟨[],((t4.trans t5).trans t6) c _ Ac,Pk _,λq=>rfl⟩,⟨[],ed,P8 _,λq e h=>by cases h⟩,sH⟩;have J1:=((J0.imp (x':=1) (by decide) rfl (λ_ _ h=>h)).name (x:=0) (q:=[]) (y:=e1) (e:=λ_=>none) fK ed (P8 _) (λq e h=>by cases h) ⟨[],Ac,λ_=>rfl,Pk _⟩);revert J1;generalize upd _ d _=H1;intro J1;left;refine .inl ⟨p,rfl,⟨_,SqL.of (J1.sm _ _ ep)⟩,?_⟩;refine Jr (K:=K) (a:=p) (xs:=a7) (λi ai H'=>eX13 λv5 v6 v7 v8 v9 a3 au a0 sh D E aa a5=>ai=[some (.ref p),some (.ref a),some (.ref b),some (.ref c),some (.ref d),v5,v6,v7,v8,v9,a3,au,a0]/\KiJ K H a b c d sh (1+3*i) D E aa H'/\sh.length<=2+3*i/\aa.length=i/\KinG (rs.drop i) sh D E a5 bw/\aa++a5=ps)
   ⟨_,_,_,_,_,_,_,_,[.num,.truth],λ_=>none,λq=>if q=[] then some (λ_=>none) else none,[],ps,rfl,J1.imp (by decide) rfl (λq e h=>h),Pk _,rfl,hK,rfl⟩ ?_ ?_ ?_
  ·rintro i ai H' _ ⟨_,_,_,_,_,_,_,_,_,_,_,_,_,_,J,_⟩;exact SqL.of (J.sm _ _ ep)
  ·rintro i x ai H2 hx ⟨v5,v6,v7,v8,v9,a3,au,a0,sh,D,E1,aa,a5,rfl,J,hm,ar,ak,am⟩;obtain⟨y,hy,ca⟩:=al.get hx;have hi:=(Pq.mp hy).1;obtain⟨pl,t⟩:=y;have dh:pl.length<=40:=cu _ (Qu hy);have c8:rs.drop i=(pl,t)::rs.drop (i+1):=by
    rw[Rn hi];rw[Pj hi]at hy;rw[Pz hy]
   rw[c8]at ak;cases ak with
   | @cons _ wd n ts _ _ _ _ _ ev cy hA cb bp =>
   obtain⟨ra,pp,u,rfl,dj,bj,hu⟩:=ca;have cl:=hu;cases hu with
   | @mk bq pq _ nv _ us _ qb cp dy d9 dz =>
   obtain⟨cx,dm⟩:=Zgp sh.length wd;left;refine Dp (J.sm.tup dj) rfl ?_;left;refine Ao (J.sm.tup qb) rfl ?_;left;refine⟨a,wd,sh,rfl,by lia,J.sg,λr bb cc H3 c9 S3 qr b7 dg dv bv cz d6 du=>?_⟩;have J3:=J.kind fK c9 S3;obtain⟨pv,bi,ay⟩:=J3.pr;obtain⟨kc,cf,ea,c6⟩:=J3.ac;obtain⟨ec,c3,_,cs⟩:=J3.ad;have b4:b≠bb:=by
    obtain⟨c4,bo,_⟩:=J.pr;exact A6 bo dg
   have bu:b≠cc:=by
    obtain⟨c4,bo,_⟩:=J.pr;exact A6 bo cz
   have a9:H3 pp=some (.tup ((B4 pl).map kV)):=by rw[Pf];exact J3.sm _ _ bj
   refine Dp qr rfl ?_;walk_at "q";refine Ds (R:=λai H'=>H'=H3/\ai=[some (.ref p),some (.ref a),some (.ref b),some (.ref c),some (.ref d),some (.ref pp),some (.ref bq),some (.int (Dd sh.length wd n ev:Nat)),some (.ref bb),some (.ref cc),a3,au,a0]) ?_ ?_
   ·intro Y hY;left;refine Ao (J3.sm.tup qb) rfl ?_;left;rw[Fp];refine Bk (λcn=>?_) (λcn=>?_)
    ·have cn:=of_decide_eq_true cn;obtain⟨y,vy,cq⟩:=cs pl ev hA;obtain⟨dq,ey,c2,_⟩:=cq.ex;obtain⟨tn,rfl⟩:=cb.1 (.inr (.inr cn));have cw:=Nr cp;subst cw;left;refine⟨d,.ref y,rfl,by rw[<- vy];exact DGet.t c3 a9,?_⟩;refine⟨y,rfl,.inl ⟨_,.inl ey⟩,?_⟩;left;refine Ao (J3.sm.tup qb) rfl ?_;left;refine⟨_,DGet.k (k:=.inr tn) ey,?_⟩;rw[c2 tn];have eg:((ev tn).map λn=>V.int ((n:Nat):Int)).getD (.int ((Az sh.length wd).1:Nat))=.int (Dd sh.length wd (.flat (.str tn)) ev:Nat):=by
      unfold Dd;rw[if_pos cn];show _=V.int (((ev tn).getD _:Nat):Int);cases ev tn <;> rfl
     rw[eg];left;exact hY _ _ ⟨rfl,rfl⟩
    ·have cn:¬wd="name":=λe=>cn (decide_eq_true e);have eg:Dd sh.length wd n ev=(Az sh.length wd).1:=if_neg cn;rw[eg]at hY;exact hY _ _ ⟨rfl,rfl⟩
   rintro _ dr ⟨b6,rfl⟩;rw[b6];clear b6;left;refine B9 (SqL.of bi) ?_;left;refine⟨c,rfl,.inr ⟨_,.inl cf⟩,?_⟩;left;refine⟨_,DGet.t cf a9,?_⟩;generalize hgv:Dd sh.length wd n ev=O;have eg:(Bw kc (B4 pl)).getD (.int (O:Nat))=.int (((D pl).getD O:Nat):Int):=by
    rw[c6];cases D pl <;> rfl
   rw[eg];left;refine⟨Bq,λpt c7=>?_⟩;have s4:=Same.upd (o:=.tup [.int (O:Nat),.int (((D pl).getD O:Nat):Int)]) c7;left;have bx:pv.length<sizeLine:=by rw[ay.1,ar];lia
   refine Cy (s4 _ _ bi) bx ?_;have J4:=(J3.keep s4).pair (v:=.ref pt) (y:=(O,(D pl).getD O)) fK (s4 _ _ bi) (ay.mono (PaAt.same s4.t)) ⟨pt,rfl,SqT.of Ac⟩;have Z:upd (upd H3 pt (.tup [.int (O:Nat),.int (((D pl).getD O:Nat):Int)])) b (.lst (pv++[.ref pt])) bb=some (.lst (Aq (Az sh.length wd).2.1)):=by rw[Ai b4.symm];exact s4 _ _ b7
   have ah:upd (upd H3 pt (.tup [.int (O:Nat),.int (((D pl).getD O:Nat):Int)])) b (.lst (pv++[.ref pt])) cc=some (.lst (Aq (Az sh.length wd).2.2.1)):=by rw[Ai bu.symm];exact s4 _ _ bv
   revert J4 Z ah;generalize upd (upd H3 pt (.tup [.int (O:Nat),.int (((D pl).getD O:Nat):Int)])) b (.lst (pv++[.ref pt]))=H4;intro J4 Z ah;generalize has:(Az sh.length wd).2.1=I at Z cx bp b7;generalize hbd:(Az sh.length wd).2.2.1=bd at ah bp bv;left;refine⟨bb,_,rfl,SqL.of Z,?_⟩;have a6:(Aq I).length=I.length:=by unfold Aq;exact Pp ..
   refine Ng (K:=K) (a:=bb) (xs:=Aq I) (λj av H5=>eX3 λEo Fd Ib=>av=[some (.ref p),some (.ref a),some (.ref b),some (.ref c),some (.ref d),some (.ref pp),some (.ref bq),some (.int (O:Nat)),some (.ref bb),some (.ref cc),Eo,Fd,Ib]/\KiJ K H a b c d (sh++(Az sh.length wd).2.2.2) (1+3*i+j) (Db D pl 0 (I.take j)) (E3 E1 pl (λj=>Cv ev (nb wd n j) bd) j) (aa++[(O,(D pl).getD O)]) H5/\H5 bb=some (.lst (Aq I))/\H5 cc=some (.lst (Aq bd)))
    ⟨_,_,_,rfl,J4.imp (Pk _) (by rw[List.take_zero];rfl) (λq e hq=>hq),Z,ah⟩ ?_ ?_ ?_
   ·rintro j av H5 _ ⟨_,_,_,_,_,e,_⟩;exact SqL.of e
   ·rintro j x tt av H5 ax dc ⟨Eo,Fd,Ib,rfl,J5,ba,a8⟩;have hj:j<I.length:=by have:=(Pq.mp ax).1;rwa[a6]at this
    have cv:x=.int ((I[j]:Nat):Int):=by unfold Aq at ax;rw[Qf,Pj hj]at ax;exact(Pz ax).symm
    subst cv;have s6:=Same.upd (o:=.tup [.int (j:Nat),.int ((I[j]:Nat):Int)]) dc;have J6:=J5.keep s6;refine Dp (SqT.of Ac) rfl ?_;have aj:=s6 _ _ ba;have aq:=s6 _ _ a8;revert J6 aj aq;generalize upd H5 tt (.tup [.int (j:Nat),.int ((I[j]:Nat):Int)])=H6;intro J6 aj aq;left;refine⟨B5,λp7 h7=>?_⟩;have s7:=Same.upd (o:=.tup [.int (j:Nat)]) h7;refine .inr ⟨pp,p7,_,_,rfl,rfl,s7 _ _ (J6.sm _ _ bj),Ac,by show(Bv pl).length+1<=sizeLine;unfold Bv;rw[Pp];lia,λpa H8 s8 b8=>?_⟩;have bh:=s7.trans s8;have J8:=J6.keep bh;have be:=bh _ _ aj;have bf:=bh _ _ aq;rw[<- Zhz]at b8;have bc:H8 pa=some (.tup ((B4 (pl++[j])).map kV)):=by rw[Pf];exact b8
    obtain⟨ao,ap,ch,cg⟩:=J8.ac;obtain⟨b3,di,d8,_⟩:=J8.ad;left;refine⟨c,_,rfl,DPut.t (k:=B4 (pl++[j])) ap bc (by lia),?_⟩;have J9:=J8.ask (n:=I[j]) (q:=pl++[j]) fK ap ch cg;have t9:=SameT.dt (o2:=.dT (Bp ao (B4 (pl++[j])) (.int ((I[j]:Nat):Int)))) ap;have an:=(t9 pa).1 _ bc;have ae:upd H8 c (.dT (Bp ao (B4 (pl++[j])) (.int ((I[j]:Nat):Int)))) bb=some (.lst (Aq I)):=by rw[Ai (Co be ap (λz=>by cases z))];exact be
    have U:upd H8 c (.dT (Bp ao (B4 (pl++[j])) (.int ((I[j]:Nat):Int)))) cc=some (.lst (Aq bd)):=by rw[Ai (Co bf ap (λz=>by cases z))];exact bf
    have ag:upd H8 c (.dT (Bp ao (B4 (pl++[j])) (.int ((I[j]:Nat):Int)))) d=some (.dT b3):=by rw[Ai fK.cd.symm];exact di
    revert J9 an ae U ag;generalize upd H8 c (.dT (Bp ao (B4 (pl++[j])) (.int ((I[j]:Nat):Int))))=H9;intro J9 an ae U ag;obtain⟨d7,bt,_,ce⟩:=J9.ad;rw[bt]at ag;cases ag;have b0:E3 E1 pl (λj=>Cv ev (nb wd n j) bd) j pl=some ev:=by rw[Zdm];exact hA
    obtain⟨e9,cr,ck⟩:=ce pl ev b0;have b9:H9 pp=some (.tup ((B4 pl).map kV)):=by rw[Pf];exact J9.sm _ _ bj
    left;refine⟨d,.ref e9,rfl,by rw[<- cr];exact DGet.t bt b9,?_⟩;left;refine⟨.ref bq,wd,n,ts,j,rfl,cl.same J9.sm,cb,λpn HA ar sA df=>?_⟩;left;refine⟨e9,pn,cc,ev,nb wd n j,bd,2*pl.length,rfl,ck.same sA,by lia,df,sA _ _ U,nbl3 _ _ _,λpz HB de dl db=>?_⟩;have sB:=sA.trans de;left;have JB:=J9.keep sB;have cm:b3.length<sizeLine:=by lia
    have a4:=sB _ _ bt;refine⟨d,_,rfl,DPut.t (k:=B4 (pl++[j])) a4 (sB _ _ an) cm,?_⟩;have b5:EvAt HB pz (Cv ev (nb wd n j) bd) (2*(pl++[j]).length):=by rw[Pr,Qg];exact db
    refine⟨_,_,_,rfl,(JB.name (x:=1+3*i+j) (q:=pl++[j]) (y:=pz) fK a4 (by lia) (λq e hq=>let ⟨y,h1,h2⟩:=ce q e hq;⟨y,h1,h2.same sB⟩) b5).imp (by lia) ?_ (λq e hq=>hq),?_,?_⟩
    ·rw[Qq,Pj hj];show _=Db D pl 0 (I.take j++[I[j]]);rw[Zhf,Qb,Um (Vv hj),Rc]
    ·rw[Ai (Co (sB _ _ ae) a4 (λz=>by cases z))];exact sB _ _ ae
    ·rw[Ai (Co (sB _ _ U) a4 (λz=>by cases z))];exact sB _ _ U
   ·rintro av H5 ⟨Eo,Fd,Ib,rfl,J5,ba,a8⟩;rw[a6]at J5;rw[hgv]at am;refine⟨_,_,_,_,_,_,_,_,_,_,_,aa++[(O,(D pl).getD O)],cy,rfl,J5.imp (by lia) (by rw[Rp (Pk _)]) (λq e hq=>hq),by rw[Pr];lia,by simp[ar],bp,by rw[<- am,Qi];rfl⟩
  ·rintro ai H2 ⟨v5,v6,v7,v8,v9,a3,au,a0,sh,D,E1,aa,a5,rfl,J,hm,ar,ak,am⟩;rw[al.1,Wx]at ak;cases ak;rw[Qj]at am;subst am;obtain⟨pv,eb,ay⟩:=J.pr;left;refine⟨Bq,λr cj=>?_⟩;have s3:=Same.upd (o:=.tup [.ref a,.ref b]) cj;exact q r a b pv _ (J.sm.trans s3) (SqT.of Ac) (J.sg.same s3) (s3 _ _ eb) (ay.mono (PaAt.same s3.t))
def Zel:Sp:=λvs H Q _=>∃k:Int,vs=[.int k]/\Q (.bl true) H
theorem Zux:Bm ["thing"] ["thing"] (Bh Ln):=by walk_at "sc"
theorem Zjn (F:Fun K "is_whole" "is_whole" Ln f fd)(T:Txt K mg):A8 P w K mg base A9 1 f fd ["thing"] Zel:=by
 refine F.okq Zux (λvs H Q E h=>?_) (λI A outer s H vs Q E O h=>?_)
 ·obtain⟨k,rfl,_⟩:=h;rfl
 ·obtain⟨k,rfl,q⟩:=h;refine⟨_,Ag (Ar (G0 (B6 (Ey K "int") (by rfl) T.isinstance (by right) (Aa (qv 0) (Aa (Ep (v:=.ty "int") (by rfl) T.int (by right) rfl) Ab))) (Gp (Zdl (B6 (Ey K "bool") (by rfl) T.isinstance (by right) (Aa (qv 0) (Aa (Ep (v:=.ty "bool") (by rfl) T.bool (by right) rfl) Ab))))))),?_⟩;left;refine Dw (.int _) Zlo ?_;left;refine Dw (.int _) Zrx ?_;left;exact q
inductive Jhas (K:Ph)(vs:List V)(H:Hp)(Q:VK)(e9:XK):Prop
 |mk (v:V) (w:Str) (n:Dt) (ps:List Tr) (k:Nat) (_:vs=[v,.int (k:Nat)]) (_:TrAt K H v (.mk w n ps)) (_:k<ps.length) (_:Q (.bl true) H)
def Zgd (K:Ph):Sp:=Jhas K
theorem Zj8:Bm ["form","number"] ["form","number"] (Bh Lg):=by walk_at "sc"
theorem Zm7 (F:Fun K "has_part" "has_part" Lg f fd)(T:Txt K mg)(C_is_whole:A7 P w K mg base 1 "is_whole" ["thing"] Zel):A8 P w K mg base A9 2 f fd ["form","number"] (Zgd K):=by
 refine F.okq Zj8 (λvs H Q E h=>?_) (λI A outer s H vs Q E U h=>?_)
 ·obtain⟨v,w,n,ps,k,rfl,_⟩:=h;rfl
 ·obtain⟨v,w,n,ps,k,rfl,ht,hk,q⟩:=h;refine⟨_,Ag (Ar (G0 (A5 C_is_whole U.m (Aa (qv 1) Ab)) (Gp (Zt8 Zq1 Kk Ad (qv 1) (B6 (Dc K) (by rfl) T.len (by right) (Aa (Ah K (qv 0) Ad) Ab)))))),?_⟩;cases ht with
  | @mk b pp _ nv _ O _ qb hn Y l Z =>
  left;refine⟨_,rfl,?_⟩;left;refine Bk (λ_=>?_) (λc=>absurd (decide_eq_true (by lia)) c);left;refine Ao qb rfl ?_;left;refine Iy Y ?_;left;have e:decide ((k:Int)<(O.length:Int))=true:=decide_eq_true (by lia);rw[e];exact q
theorem Ls {α:Type}{xs:List α}{x:α}(h:xs[xs.length-1]?=some x):B8 xs (-1)=some x:=by
 have F:=(Pq.mp h).1;unfold B8 Ea;rw[if_neg (by lia),if_pos (by lia)];have e:((-1:Int)+(xs.length:Int)).toNat=xs.length-1:=by lia
 simpa [e] using h
theorem Zg8 {α:Type}{xs:List α}{i:Int}{x:α}(j:Nat)(hj:(j:Int)=i)(h:xs[j]?=some x):B8 xs i=some x:=by
 have F:=(Pq.mp h).1;subst hj;unfold B8 Ea;rw[if_pos (by lia),if_pos (by lia)];simpa using h
theorem Zox {pl:List Nat}{i:Nat}{v:V}(h:(Bv pl)[i]?=some v):∃k,v=.int (k:Nat)/\pl[i]?=some k:=by
 unfold Bv at h;rw[Qf]at h;cases e:pl[i]? with
 |none=>rw[e]at h;cases h
 |some x=>rw[e]at h;exact⟨x,(Pz h).symm,rfl⟩
theorem Zru (pl:List Nat):(Bv pl).length=pl.length:=by unfold Bv;simp
inductive Zlg (K:Ph)(vs:List V)(H:Hp)(Q:VK)(e9:XK):Prop
 |mk (v:V) (t:Tr) (p:Addr) (pl:List Nat) (_:vs=[v,.ref p]) (_:TrAt K H v t) (_:SqT K H p (Bv pl)) (_:Sub t pl) (_:pl.length<=1000) (_:∀(q:Addr)(ws:List V)(H':Hp),H q=none->Same H H'->H' q=some (.lst ws)->Al (TrAt K H') ws (C6 t pl)->Q (.ref q) H')
def Zhu (K:Ph):Sp:=Zlg K
theorem sc_forms_down_to:Bm ["tree","place","passed","number"] ["tree","place"] (Bh Mh):=by walk_at "sc"
theorem Zoi (F:Fun K "forms_down_to" "forms_down_to" Mh f fd)(T:Txt K mg)(C_has_part:A7 P w K mg base 2 "has_part" ["form","number"] (Zgd K)):A8 P w K mg base A9 3 f fd ["tree","place"] (Zhu K):=by
 refine F.okq sc_forms_down_to (λvs H Q E h=>?_) (λak A outer s H vs Q E hr h=>?_)
 ·obtain⟨v,t,p,pl,rfl,_⟩:=h;rfl
 ·obtain⟨v,t,p,pl,rfl,ht,hp,hs,hl,q⟩:=h;refine⟨_,Ae (As 2 sc_forms_down_to (Bc (Aa (qv 0) Ab)))
   (Ae (Cw Qc rfl (D6 K (qv 1)) (Bb (i:=3) sc_forms_down_to.nd rfl (Or.inl rfl)) (Ae (Au (Hw (Ex (A5 C_has_part hr.m (Aa (Ah K (qv 2) (Mg Ke Ad)) (Aa (qv 3) Ab))))) (Ag Zdk) Ay)
   (Ag (Cr (Cu K Qd Qs Qt C9 (qv 2) (Aa (Ah K (Ah K (Ah K (qv 2) (Mg Ke Ad)) Ad) (qv 3)) Ab))))))
   (Ag (Ar (qv 2)))),?_⟩
  have bg:=big;left;refine⟨B5,λq0 Z=>?_⟩;obtain⟨H1,s1,e1,z9⟩:=Hv Z (.lst [v]);rw[z9];left;refine .inr (.inl ⟨p,rfl,⟨_,s1.tup hp⟩,?_⟩);have p0:(C6 t pl).take 1=[t]:=by
   have:=Zfg t pl;cases e:C6 t pl with
   |nil=>rw[e]at this;cases this
   |cons a r =>
    rw[e]at this;have h:a=t:=by simpa using this
    rw[h];rfl
  refine Zh4 (K:=K) (a:=p) (xs:=Bv pl) (λi U H'=>∃w3 O,U=[some v,some (.ref p),some (.ref q0),w3]/\H' q0=some (.lst O)/\Al (TrAt K H') O ((C6 t pl).take (i+1))/\Same H H') ⟨none,[v],rfl,e1,by rw[p0];exact Al.nil.snoc (ht.same s1),s1⟩ ?_ ?_ ?_
  ·rintro i U H' _ ⟨_,_,_,_,_,sm⟩;exact sm.tup hp
  ·rintro i x U H' hx ⟨w3,O,rfl,Y,al,sm⟩;obtain⟨k,rfl,hk⟩:=Zox hx;obtain⟨w',n',ps,u,a1,a2,a3⟩:=Zep hs i k hk;have hi:=(Pq.mp hk).1;have am:=Zcq hs;have aj:O.length=i+1:=by rw[al.1,Qb];lia
   have ag:((C6 t pl).take (i+1))[i]?=some (.mk w' n' ps):=by rw[List.getElem?_take,if_pos (by lia)];exact a1
   obtain⟨vi,ai,ah⟩:=al.get' ag;have I:B8 O (-1)=some vi:=Ls (by rw[aj];exact ai);cases ah with
   | @mk b pp _ nv _ us _ qb hn qp l ae =>
   have aa:k<us.length:=by rw[l];exact(Pq.mp a2).1
   left;refine Ba (SqL.of Y) I ?_;left;refine⟨_,w',n',ps,k,rfl,.mk qb hn qp l ae,by lia,?_⟩;left;refine B9 (SqL.of Y) ?_;left;refine Ba (SqL.of Y) I ?_;left;refine Ao qb rfl ?_;left;refine Ao qp (Zg8 k rfl (Pj aa)) ?_;left;refine Cy Y (by lia) ?_;left;have t3:SameT H' (upd H' q0 (.lst (O++[us[k]]))):=SameT.set Y;refine⟨_,O++[us[k]],rfl,Ac,?_,sm.over Z⟩;have e3:(C6 t pl).take (i+1+1)=(C6 t pl).take (i+1)++[u]:=by rw[Tf,a3];rfl
   rw[e3];exact(al.mono λ_ _ z=>z.sameT t3).snoc ((ae k _ u (Pj aa) a2).sameT t3)
  ·rintro U H' ⟨w3,O,rfl,Y,al,sm⟩;rw[Zru,Rp (by rw[Zcq hs];lia)]at al;left;exact q q0 O H' Z sm Y al
def BdAt (K:Ph)(H:Hp)(pl:List Nat)(v:V)(x:Str×Nat):Prop:=∃(a b:Addr),v=.ref a/\SqT K H a [.str x.1,.ref b]/\SqT K H b (Bv (pl.take x.2))
theorem BdAt.same (e:SameT H H')(v:V)(x:Str×Nat)(h:BdAt K H pl v x):BdAt K H' pl v x:=by
 obtain⟨a,b,h1,h2,F⟩:=h;exact⟨a,b,h1,e.tup h2,e.tup F⟩
theorem Zi5 (w:Str)(n:Dt)(k:Nat):(nb w n k).length<=2:=by
 have h1:(Gs n).length<=2:=by unfold Gs;split <;> simp
 have h2:(Ij n).length<=2:=by unfold Ij;split <;> simp
 unfold nb;split
 ·exact h1
 ·split
  ·exact h2
  ·split
   ·exact h1
   ·simp
theorem Zeg (s:Sub t pl):∀l∈Cf t pl,l.length<=2:=by
 induction s with
 |nil t=>intro l h;cases t;cases h
 |cons h _ I =>
  intro l F;rw[Ks h]at F;rcases Pm.mp F with rfl|F
  ·exact Zi5 _ _ _
  ·exact I l F
theorem Za3:∀(d:Nat)(ls:List (List Str)),(∀l∈ls,l.length<=2)->(De d ls).length<=2*ls.length
 |_,[],_=>by simp[De]
 |d,l::r,h=>by
  have h1:=h l Uc;have h2:=Za3 (d+1) r λx F=>h x (Qo _ F);rw[De,Pr,Pp,Pw];lia
theorem Zin (s:Sub t pl):(bn t pl).length<=2*pl.length:=by
 have:=Za3 0 (Cf t pl) (Zeg s);rw[Zdq s]at this;exact this
theorem Zlz (pl:List Nat)(k:Nat):(Bv pl).take k=Bv (pl.take k):=by unfold Bv;rw[List.map_take]
inductive Jbnd (K:Ph)(vs:List V)(H:Hp)(Q:VK)(e9:XK):Prop
 |mk (v:V) (t:Tr) (p:Addr) (pl:List Nat) (_:vs=[v,.ref p]) (_:TrAt K H v t) (_:Fw t) (_:SqT K H p (Bv pl)) (_:Sub t pl) (_:pl.length<=1000) (_:∀(q:Addr)(ws:List V)(H':Hp),H q=none->Same H H'->H' q=some (.lst ws)->Al (BdAt K H' pl) ws (bn t pl)->Q (.ref q) H')
def Zfo (K:Ph):Sp:=Jbnd K
theorem sc_bindings_at:Bm ["tree","place","told","depth","above","name"] ["tree","place"] (Bh Ka):=by walk_at "sc"
theorem Ztk (F:Fun K "bindings_at" "bindings_at" Ka f fd)(T:Txt K mg)(C_forms_down_to:A7 P w K mg base 3 "forms_down_to" ["tree","place"] (Zhu K))(C_names_bound:A7 P w K mg base 1 "names_bound" ["form","number"] (O4 K)):A8 P w K mg base A9 4 f fd ["tree","place"] (Zfo K):=by
 refine F.okq sc_bindings_at (λvs H Q E h=>?_) (λba A outer s H vs Q E hr h=>?_)
 ·obtain⟨v,t,p,pl,rfl,_⟩:=h;rfl
 ·obtain⟨v,t,p,pl,rfl,ht,a4,hp,hs,hl,q⟩:=h;refine⟨_,Ae (As 2 sc_bindings_at (Bc Ab))
   (Ae (Cw Qc rfl (Ny K rfl T.enumerate (Aa (Er (Zgb K) (A5 C_forms_down_to hr.m (Aa (qv 0) (Aa (qv 1) Ab))) (Go) (Dm (Mg Ke Ad))) Ab)) (Dq K (n:=2) rfl (Bu (Bb (i:=3) sc_bindings_at.nd rfl (Or.inl rfl)) (Bu (Bb (i:=4) sc_bindings_at.nd rfl (Or.inl rfl)) (Di)))) (Ag (Cw Qc rfl (D6 K (A5 C_names_bound hr.m (Aa (qv 4) (Aa (Ah K (qv 1) (qv 3)) Ab)))) (Bb (i:=5) sc_bindings_at.nd rfl (Or.inl rfl)) (Ag (Cr (Cu K Qd Qs Qt C9 (qv 2) (Aa (Ak (Aa (qv 5) (Aa (Er (Zgb K) (qv 1) (Go) (Dm (qv 3))) Ab))) Ab)))))))
   (Ag (Ar (qv 2)))),?_⟩
  have bg:=big;have a6:=Zcq hs;have a9:=Zdq hs;have be:=Zin hs;left;refine⟨Bo,λq0 ak=>?_⟩;obtain⟨H1,s1,e1,z9⟩:=Hv ak (.lst []);rw[z9];left;refine⟨v,t,p,pl,rfl,ht.same s1,s1.tup hp,hs,hl,λq2 ws H2 bb s2 e2 al=>?_⟩;left;refine Zp5 (SqL.of e2) λq3 an=>?_;have ec:Cb ws none (some (-1))=ws.take pl.length:=by rw[Zn2,al.1,a6];rfl
  rw[ec];obtain⟨H3,s3,e3,z9⟩:=Hv an (.lst (ws.take pl.length));rw[z9];left;refine⟨q3,_,rfl,SqL.of e3,?_⟩;have ax:=s1.trans (s2.trans s3);have as:(ws.take pl.length).length=pl.length:=by rw[Qb,al.1];lia
  have n3:q0≠q3:=A6 ((s2 _ _ e1)) an;refine Ng (K:=K) (a:=q3) (xs:=ws.take pl.length) (λi I H'=>eX4 λw3 w4 w5 vs=>I=[some v,some (.ref p),some (.ref q0),w3,w4,w5]/\H' q0=some (.lst vs)/\H' q3=some (.lst (ws.take pl.length))/\Al (BdAt K H' pl) vs (De 0 ((Cf t pl).take i))/\SameT H3 H'/\Same H H') ⟨none,none,none,[],rfl,(s2.trans s3) _ _ e1,e3,Al.nil,SameT.refl _,ax⟩ ?_ ?_ ?_
  ·rintro i I H' _ ⟨_,_,_,_,_,_,e,_⟩;exact SqL.of e
  ·rintro i x tt I H' hx a8 ⟨w3,w4,w5,vs,rfl,e4,e5,aa,t4,ag⟩;have hi:i<pl.length:=by have:=(Pq.mp hx).1;rw[as]at this;exact this
   have hk:pl[i]?=some pl[i]:=Pj hi;have ay:ws[i]?=some x:=by rw[List.getElem?_take,if_pos hi]at hx;exact hx
   obtain⟨w',n',ps,u,a1,a2,a3⟩:=Zep hs i _ hk;obtain⟨ti,ao,a7⟩:=al.get ay;rw[a1]at ao;cases ao;have a5:C0 w' n':=by
    cases Zqi hs a4 _ (Qu a1) with
    |mk h _=>exact h
   have au:=Zj4 hs i _ w' n' ps hk a1;obtain⟨H6,s6,e6,z9⟩:=Hv a8 (.tup [.int i,x]);rw[z9];left;refine Dp (SqT.of e6) rfl ?_;left;refine Ao (s6.tup (ag.tup hp)) (v:=.int (pl[i]:Nat)) (Zg8 i rfl (by unfold Bv;rw[Qf,hk];rfl)) ?_;left;refine⟨x,w',n',ps,pl[i],rfl,(a7.sameT (s3.t.trans t4)).same s6,a5,λq7 H7 am s7 e7=>?_⟩;refine .inl ⟨q7,rfl,⟨_,SqL.of e7⟩,?_⟩;have O:=s6.trans s7;have a0:q0≠q7:=A6 (s6 _ _ e4) am;have bf:q3≠q7:=A6 (s6 _ _ e5) am;refine Jr (K:=K) (a:=q7) (xs:=(nb w' n' pl[i]).map V.str) (λj I H'=>∃w5 us,I=[some v,some (.ref p),some (.ref q0),some (.int i),some x,w5]/\H' q0=some (.lst us)/\H' q3=some (.lst (ws.take pl.length))/\H' q7=some (.lst ((nb w' n' pl[i]).map V.str))/\Al (BdAt K H' pl) us (De 0 ((Cf t pl).take i)++((nb w' n' pl[i]).take j).map λy=>(y,i))/\SameT H3 H'/\Same H H') ⟨_,vs,rfl,O _ _ e4,O _ _ e5,e7,by simpa using aa.mono (BdAt.same O.t),t4.trans O.t,ag.trans O⟩ ?_ ?_ ?_
   ·rintro j I H' _ ⟨_,_,_,_,_,e,_⟩;exact SqL.of e
   ·rintro j y I H8 hy ⟨av,us,rfl,e8,aj,ap,Y,t8,ah⟩;rw[Qf]at hy;cases ai:(nb w' n' pl[i])[j]? with
    |none=>rw[ai]at hy;cases hy
    |some yy =>
    rw[ai]at hy;have hy:V.str yy=y:=by simpa using hy
    subst hy;have bc:=Zi5 w' n' pl[i];have bh:us.length<=2*pl.length+2:=by
     rw[Y.1,Pr,Pp,Qb];have:=Za3 0 ((Cf t pl).take i) (λl hl=>Zeg hs l (List.mem_of_mem_take hl));rw[Qb]at this;lia
    left;refine B9 (SqL.of e8) ?_;left;refine Zk1 (ah.tup hp) λr9 H9 s9 q9=>?_;rw[Zt5,Zlz]at q9;left;refine⟨Bq,λU ar=>?_⟩;have Z:Same H8 (upd H9 U (.tup [.str yy,.ref r9])):=s9.put ar;have ae:=Z _ _ e8;left;refine Cy ae (by lia) ?_;left;have aq:SameT H8 (upd (upd H9 U (.tup [.str yy,.ref r9])) q0 (.lst (us++[.ref U]))):=Z.t.trans (SameT.set ae);refine⟨_,us++[.ref U],rfl,Ac,by rw[Ai n3.symm];exact Z _ _ aj,by rw[Ai a0.symm];exact Z _ _ ap,?_,t8.trans aq,(ah.trans Z).over ak⟩;rw[Tf,ai,Qv,<- Qi];refine(Y.mono (BdAt.same aq)).snoc ⟨U,r9,rfl,(SameT.set ae).tup (SqT.of Ac),?_⟩;exact((Same.upd (o:=.tup [.str yy,.ref r9]) ar).t.trans (SameT.set ae)).tup q9
   ·rintro I H8 ⟨av,us,rfl,e8,aj,ap,Y,t8,ah⟩;rw[Pp,Q9]at Y;refine⟨_,_,_,us,rfl,e8,aj,?_,t8,ah⟩;rw[Tf,au,Zfb];have e9:De (0+((Cf t pl).take i).length) (some (nb w' n' pl[i])).toList=(nb w' n' pl[i]).map λy=>(y,i):=by
     rw[Qb,a9,Rc,Um (by lia)];simp[De]
    rw[e9];exact Y
  ·rintro I H' ⟨w3,w4,w5,vs,rfl,e4,e5,aa,t4,ag⟩;rw[as,Rp (by lia)]at aa;left;exact q q0 vs H' ak ag e4 aa
inductive Jnat (K:Ph)(vs:List V)(H:Hp)(Q:VK)(e9:XK):Prop
 |mk (v:V) (t:Tr) (p:Addr) (pl:List Nat) (_:vs=[v,.ref p]) (_:TrAt K H v t) (_:Fw t) (_:SqT K H p (Bv pl)) (_:Sub t pl) (_:pl.length<=1000) (_:∀(q:Addr)(H':Hp),H q=none->Same H H'->H' q=some (.lst ((Cm t pl).map V.str))->Q (.ref q) H')
def Zgx (K:Ph):Sp:=Jnat K
theorem Zgn:(["name","where"]:List Str).Nodup:=by right
theorem Zrg:Bm ["tree","place"] ["tree","place"] (Bh K4):=by walk_at "sc"
theorem Zof (F:Fun K "names_at" "names_at" K4 f fd)(T:Txt K mg)(C_bindings_at:A7 P w K mg base 4 "bindings_at" ["tree","place"] (Zfo K)):A8 P w K mg base A9 5 f fd ["tree","place"] (Zgx K):=by
 refine F.okq Zrg (λvs H Q E h=>?_) (λae A outer s H vs Q E hr h=>?_)
 ·obtain⟨v,t,p,pl,rfl,_⟩:=h;rfl
 ·obtain⟨v,t,p,pl,rfl,ht,aa,hp,hs,hl,q⟩:=h;refine⟨_,Ag (Ar (Jx (N:=["name","where"]) (σ0:=Dr 2 []) rfl (E7 rfl (by right) (by right) (by right)) (D6 K (A5 C_bindings_at hr.m (Aa (qv 0) (Aa (qv 1) Ab)))) (E5 rfl (by rfl)) (λ_ _ _ _=>Dq K (n:=2) rfl (Bu (Bb (i:=0) Zgn rfl (Or.inl rfl)) (Bu (Bb (i:=1) Zgn rfl (Or.inl rfl)) (Di)))) (λ_ _ _ _=>Fy) (λ_ _ _ _=>qv 0))),?_⟩;have bg:=big;have ag:=Zin hs;left;refine⟨v,t,p,pl,rfl,ht,aa,hp,hs,hl,λY ws H1 ah s1 e1 al=>?_⟩;refine .inl ⟨Y,rfl,⟨_,SqL.of e1⟩,λD U=>?_⟩;have nD:Y≠D:=A6 e1 U;refine Kq (K:=K) (a:=Y) (xs:=ws) (Pv:=λi ys O H'=>∃v0 v1,O=[v0,v1]/\H' Y=some (.lst ws)/\ys=(((bn t pl).take i).map λx=>V.str x.1)/\SameT H1 H'/\Same H1 H') ⟨none,none,rfl,by rw[Ai nD];exact e1,rfl,SameT.new U,Same.upd U⟩ ?_ ?_ ?_
  ·rintro i ys O H' _ ⟨_,_,_,e,_⟩;exact SqL.of e
  ·rintro i x ys O H' hx I ⟨v0,v1,rfl,e,rfl,Z,sm⟩;obtain⟨y,hy,a,b,rfl,g1,g2⟩:=al.get hx;have hi:=(Pq.mp hx).1;have ai:ws.length<=2000:=by rw[al.1];lia
   left;refine Dp (Z.tup g1) rfl ?_;left;refine⟨_,I,by rw[Pp,Qb];lia,_,Ac,?_⟩;refine⟨_,_,rfl,by rw[Ai nD];exact e,?_,Z.trans (SameT.set I),sm.over U⟩;rw[Tf,hy,Qv];rfl
  ·rintro ys O H' I ⟨v0,v1,rfl,e,rfl,Z,sm⟩;rw[al.1,Q9]at I;refine q D H' (s1.free U) (s1.trans sm) ?_;rw[I,<- Zti,V2];rfl
noncomputable def Nn:Option Nat->V
 |none=>.non
 |some i=>.int (i:Nat)
inductive Jbat (K:Ph)(vs:List V)(H:Hp)(Q:VK)(e9:XK):Prop
 |mk (v:V) (t:Tr) (p:Addr) (pl:List Nat) (x:Str) (_:vs=[v,.ref p,.str x]) (_:TrAt K H v t) (_:Fw t) (_:SqT K H p (Bv pl)) (_:Sub t pl) (_:pl.length<=1000) (_:∀(H':Hp),Same H H'->Q (Nn (Cc x 0 (Cm t pl))) H')
def Zdg (K:Ph):Sp:=Jbat K
theorem sc_binding_at:Bm ["tree","place","name","last","number","bound"] ["tree","place","name"] (Bh L7):=by walk_at "sc"
theorem Zsc (F:Fun K "binding_at" "binding_at" L7 f fd)(T:Txt K mg)(C_names_at:A7 P w K mg base 5 "names_at" ["tree","place"] (Zgx K)):A8 P w K mg base A9 6 f fd ["tree","place","name"] (Zdg K):=by
 refine F.okq sc_binding_at (λvs H Q E h=>?_) (λae A outer s H vs Q E hr h=>?_)
 ·obtain⟨v,t,p,pl,x,rfl,_⟩:=h;rfl
 ·obtain⟨v,t,p,pl,x,rfl,ht,aa,hp,hs,hl,q⟩:=h;refine⟨_,Ae (As 3 sc_binding_at C8)
   (Ae (Cw Qc rfl (Ny K rfl T.enumerate (Aa (A5 C_names_at hr.m (Aa (qv 0) (Aa (qv 1) Ab))) Ab)) (Dq K (n:=2) rfl (Bu (Bb (i:=4) sc_binding_at.nd rfl (Or.inl rfl)) (Bu (Bb (i:=5) sc_binding_at.nd rfl (Or.inl rfl)) (Di)))) (Ag (Au (Aw (Bf K hr.u200) (qv 5) (qv 2) (A0 _)) (Ag (As 3 sc_binding_at (qv 4))) Ay)))
   (Ag (Ar (qv 3)))),?_⟩
  left;refine⟨v,t,p,pl,rfl,ht,aa,hp,hs,hl,λq1 H1 ag s1 e1=>?_⟩;left;refine⟨q1,_,rfl,SqL.of e1,?_⟩;refine Ng (K:=K) (a:=q1) (xs:=(Cm t pl).map V.str) (λi O H'=>∃w4 w5,O=[some v,some (.ref p),some (.str x),some (Nn (Cc x 0 ((Cm t pl).take i))),w4,w5]/\Same H1 H') ⟨none,none,rfl,Same.refl _⟩ ?_ ?_ ?_
  ·rintro i O H' _ ⟨_,_,_,sm⟩;exact SqL.of (sm _ _ e1)
  ·rintro i y tt O H' U Z ⟨w4,w5,rfl,sm⟩;rw[Qf]at U;cases I:(Cm t pl)[i]? with
   |none=>rw[I]at U;cases U
   |some Y =>
   rw[I]at U;have U:V.str Y=y:=by simpa using U
   subst U;have hi:=(Pq.mp I).1;have e2:Cc x 0 ((Cm t pl).take (i+1))=if Y=x then some i else Cc x 0 ((Cm t pl).take i):=by
    rw[Tf,I];show Cc x 0 (_++[Y])=_;rw[Zqy,Qb,Rc,Um (by lia)]
   obtain⟨H3,s3,e3,z9⟩:=Hv Z (.tup [.int i,.str Y]);rw[z9];left;refine Dp (SqT.of e3) rfl ?_;left;rw[Ih];refine Bk (λc=>?_) (λc=>?_)
   ·have c:=of_decide_eq_true c;left;refine⟨some (.int i),some (.str Y),?_,sm.trans s3⟩;rw[e2,if_pos c];rfl
   ·have c:¬Y=x:=λe=>c (decide_eq_true e);left;refine⟨some (.int i),some (.str Y),?_,sm.trans s3⟩;rw[e2,if_neg c];rfl
  ·rintro O H' ⟨w4,w5,rfl,sm⟩;rw[Pp,Q9];left;exact q H' (s1.trans sm)
noncomputable def Cg (t:Tr)(pl:List Nat)(f:Tr)(fb:Bool):Str:=match f with
 |.mk w n _=>if fb=false then "unlike" else if w="odd" then "odd" else if w="name"/\Cc (Cz n) 0 (Cm t pl)=none then "free" else ""
inductive Ztw (K:Ph)(vs:List V)(H:Hp)(Q:VK)(e9:XK):Prop
 |mk (v:V) (t:Tr) (p:Addr) (pl:List Nat) (u:V) (w:Str) (n:Dt) (ps:List Tr) (fb:Bool) (_:vs=[v,.ref p,u,.bl fb]) (_:TrAt K H v t) (_:Fw t) (_:SqT K H p (Bv pl)) (_:Sub t pl) (_:pl.length<=1000) (_:TrAt K H u (.mk w n ps)) (_:C0 w n) (_:∀H',Same H H'->Q (.str (Cg t pl (.mk w n ps) fb)) H')
def Ziw (K:Ph):Sp:=Ztw K
theorem Zl9:Bm ["tree","place","form","fits"] ["tree","place","form","fits"] (Bh Kb):=by walk_at "sc"
theorem Zp9 (F:Fun K "mark_of" "mark_of" Kb f fd)(T:Txt K mg)(C_binding_at:A7 P w K mg base 6 "binding_at" ["tree","place","name"] (Zdg K)):A8 P w K mg base A9 7 f fd ["tree","place","form","fits"] (Ziw K):=by
 refine F.okq Zl9 (λvs H Q E h=>?_) (λai A outer s H vs Q E hr h=>?_)
 ·obtain⟨v,t,p,pl,u,w,n,ps,I,rfl,_⟩:=h;rfl
 ·obtain⟨v,t,p,pl,u,w,n,ps,I,rfl,ah,Z,hp,O,ae,ht,aa,q⟩:=h;refine⟨_,Ae (Au (Hw (Je K (qv 3) (by intro _;rfl))) (Ag (Ar Aj)) Ay)
   (Ae (Au (Aw (Bf K hr.u200) (Ah K (qv 2) Ad) Aj (A0 _)) (Ag (Ar Aj)) Ay)
   (Ae (Au (QW.qt (F7 (Aw (Bf K hr.u200) (Ah K (qv 2) Ad) Aj (A0 _)) (F5 (E6 (Kj (A5 C_binding_at hr.m (Aa (qv 0) (Aa (qv 1) (Aa (Ah K (qv 2) Ad) Ab))))))))) (Ag (Ar Aj)) Ay)
   (Ag (Ar Aj)))),?_⟩
  have ak:=ht;cases ht with
  | @mk bq pp _ nv _ us _ qb hn qp l aj =>
  have q:∀H',Same H H'->Q (.str (if I=false then "unlike" else if w="odd" then "odd" else if w="name"/\Cc (Cz n) 0 (Cm t pl)=none then "free" else "")) H':=q;left;refine⟨I,by show I=I;rfl,?_⟩;cases I with
  |false =>
   rw[if_pos rfl]at q;left;exact q _ (Same.refl _)
  |true =>
   rw[if_neg (by decide)]at q;left;refine Ao qb rfl ?_;left;rw[Fp];refine Bk (λc=>?_) (λc=>?_)
   ·rw[if_pos (of_decide_eq_true c)]at q;left;exact q _ (Same.refl _)
   rw[if_neg (λe=>c (decide_eq_true e))]at q;left;refine Ao qb rfl ?_;left;rw[Fp];by_cases U:w="name"
   ·rw[decide_eq_true U];obtain⟨Y,rfl⟩:=aa.1 (.inr (.inr U));have ag:=Nr hn;subst ag;left;refine Ao qb rfl ?_;left;refine⟨v,t,p,pl,Y,rfl,ah,Z,hp,O,ae,λH1 s1=>?_⟩;have q:∀H',Same H H'->Q (.str (if w="name"/\Cc Y 0 (Cm t pl)=none then "free" else "")) H':=q;cases e:Cc Y 0 (Cm t pl) with
    |none =>
     rw[if_pos ⟨U,e⟩]at q;left;rw[show decide (Nn none=V.non)=true from rfl];left;exact q _ s1
    |some k =>
     rw[if_neg (λz=>by rw[e]at z;cases z.2)]at q;left;rw[show decide (Nn (some k)=V.non)=false from rfl];left;exact q _ s1
   ·rw[decide_eq_false U];rw[if_neg (λz=>U z.1)]at q;left;exact q _ (Same.refl _)
noncomputable def flat (ps:List (Nat×Nat)):List Nat:=ps.flatMap λp=>[p.1,p.2]
theorem Kr:∀ps:List (Nat×Nat),(flat ps).length=2*ps.length
 |[]=>rfl
 |p::r=>by
  have:=Kr r;have e:flat (p::r)=p.1::p.2::flat r:=rfl;rw[e,Pw,Pw,Pw,this];lia
theorem Zqk (ps:List (Nat×Nat))(p:Nat×Nat):flat (ps++[p])=flat ps++[p.1,p.2]:=by unfold flat;rw[Wf];rfl
theorem KinG.len (h:KinG rs sh D A ps sh'):ps.length=rs.length:=by
 induction h with
 |nil=>rfl
 |cons _ _ _ F=>rw[Pw,Pw,F]
theorem FitG.len (h:FitG ps m fs m'):fs.length=ps.length:=by
 induction h with
 |nil=>rfl
 |ok _ _ _ _ _ _ F=>rw[Pw,Pw,F]
 |clash _ _ _ F=>rw[Pw,Pw,F]
 |loop _ _ _ _ _ _ F=>rw[Pw,Pw,F]
structure K7 (t:Tr)(ks:List Kd)(fs:List Bool):Prop where
 ex:eX5 λps sh1 sh2 N td'=>KinG (walk [] t) [.num,.truth] (λ_=>none) (λq=>if q=[] then some (λ_=>none) else none) ps sh1/\FitG ps sh1 fs sh2/\ToldN sh2 N (λ_=>none) 0 (flat ps).reverse td'/\N<=2000/\ks.length=(flat ps).length/\∀(j x:Nat)(k:Kd),(flat ps)[j]?=some x->ks[j]?=some k->∃r,Last sh2 x r/\td' r=some k
noncomputable abbrev Rw:=List Nat×Kd×Option Kd×Str
noncomputable def Im (t:Tr)(ks:List Kd)(fs:List Bool)(i:Nat)(x:List Nat×Tr):Rw:=(x.1,ks.getD (2*i) .num,(if x.1=[] then none else some (ks.getD (2*i+1) .num)),Cg t x.1 x.2 (fs.getD i false))
noncomputable def Cq (t:Tr)(ks:List Kd)(fs:List Bool):List Rw:=(walk [] t).mapIdx (Im t ks fs)
def AkD (K:Ph)(H:Hp)(v:V)(a:Option Kd):Prop:=(a=none/\v=.non)\/∃k,a=some k/\KdAt K H v k
theorem AkD.same (h:AkD K H v a)(e:SameT H H'):AkD K H' v a:=by
 rcases h with h|⟨k,h1,h2⟩
 ·exact .inl h
 ·exact .inr ⟨k,h1,h2.same e⟩
def LkAt (K:Ph)(H:Hp)(v:V)(r:Rw):Prop:=eX4 λ(e p:Addr)(g a:V)=>v=.ref e/\SqT K H e [.ref p,g,a,.str r.2.2.2]/\H p=some (.tup (Bv r.1))/\KdAt K H g r.2.1/\AkD K H a r.2.2.1
theorem LkAt.same (e:SameT H H')(v:V)(r:Rw)(h:LkAt K H v r):LkAt K H' v r:=by
 obtain⟨c,p,g,a,h1,h2,O,F,I⟩:=h;exact⟨c,p,g,a,h1,e.tup h2,(e p).1 _ O,F.same e,I.same e⟩
inductive Zu3 (K:Ph)(vs:List V)(H:Hp)(Q:VK)(e9:XK):Prop
 |mk (v:V) (t:Tr) (ks:List Kd) (fs:List Bool) (_:vs=[v]) (_:TrAt K H v t) (_:Fw t) (_:t.size<=40) (_:K7 t ks fs) (_:∀(p:Addr)(rows:List V)(H':Hp),Same H H'->H p=none->H' p=some (.lst rows)->Al (LkAt K H') rows (Cq t ks fs)->Q (.ref p) H')
def Zia (K:Ph):Sp:=Zu3 K
theorem Zie (pl:List Nat):Bv pl=(pl.map λi=>((i:Nat):Int)).map V.int:=by unfold Bv;rw[V2];rfl
theorem Zoo (h:KinG rs sh D A ps sh'):∀x∈rs,eX3 λw n ts=>x.2=.mk w n ts/\C0 w n:=by
 induction h with
 |nil=>intro x F;cases F
 |cons _ I _ O =>
  intro x F;rcases Pm.mp F with rfl|F
  ·exact⟨_,_,_,rfl,I⟩
  ·exact O x F
theorem sc_looks:Bm ["tree","placed","shapes","pairs","settled","fits","wanted","pair","kinds","rows","number","asked"] ["tree"] (Bh Lz):=by walk_at "sc"
theorem Zjq (F:Fun K "looks" "looks" Lz f fd)(T:Txt K mg)(G_MOST_FORMS:Gb mg "MOST_FORMS" (.int 40))(C_placed_forms:A7 P w K mg base 1 "placed_forms" ["tree"] (Zid K))(C_kinds_in:A7 P w K mg base 3 "kinds_in" ["placed"] (Zg2 K))(C_fitted:A7 P w K mg base 4 "fitted" ["shapes","pairs"] (Zgf K))(C_kinds_told:A7 P w K mg base 2 "kinds_told" ["shapes","wanted"] (Zi4 K))(C_mark_of:A7 P w K mg base 7 "mark_of" ["tree","place","form","fits"] (Ziw K)):A8 P w K mg base A9 8 f fd ["tree"] (Zia K):=by
 refine F.okq sc_looks (λvs H Q E h=>?_) (λci A outer s H vs Q E hr h=>?_)
 ·obtain⟨v,t,ks,fs,rfl,_⟩:=h;rfl
 ·obtain⟨v,t,ks,fs,rfl,ht,bi,ch,⟨ps,bf,a6,N,bu,hK,hF,hT,hN,b3,bv⟩,q⟩:=h;refine⟨_,Ae (As 1 sc_looks (A5 C_placed_forms hr.m (Aa (qv 0) Ab)))
   (Ae (Au (Aw Zf2 (B6 (Dc K) (by rfl) T.len (by right) (Aa (qv 1) Ab)) (Fj G_MOST_FORMS) (A0 _)) (Ag Zdk) Ay)
   (Ae (Kz (A5 C_kinds_in hr.m (Aa (qv 1) Ab)) (Dq K (n:=2) rfl (Bu (Bb (i:=2) sc_looks.nd rfl (Or.inl rfl)) (Bu (Bb (i:=3) sc_looks.nd rfl (Or.inl rfl)) (Di)))))
   (Ae (Kz (A5 C_fitted hr.m (Aa (qv 2) (Aa (qv 3) Ab))) (Dq K (n:=2) rfl (Bu (Bb (i:=4) sc_looks.nd rfl (Or.inl rfl)) (Bu (Bb (i:=5) sc_looks.nd rfl (Or.inl rfl)) (Di)))))
   (Ae (As 6 sc_looks (Bc Ab))
   (Ae (Cw Qc rfl (D6 K (qv 3)) (Bb (i:=7) sc_looks.nd rfl (Or.inl rfl)) (Ag (Cr (Cu K Qd PySem.F.slot_list_extend PySem.F.type_list_extend (Zkv K) (qv 6) (Aa (qv 7) Ab)))))
   (Ae (As 8 sc_looks (A5 C_kinds_told hr.m (Aa (qv 4) (Aa (qv 6) Ab))))
   (Ae (As 9 sc_looks (Bc Ab))
   (Ae (Cw Qc rfl (Ny K rfl T.enumerate (Aa (qv 1) Ab)) (Dq K (n:=2) rfl (Bu (Bb (i:=10) sc_looks.nd rfl (Or.inl rfl)) (Bu (Bb (i:=7) sc_looks.nd rfl (Or.inl rfl)) (Di)))) (Ae (As 11 sc_looks (Oc (Aw (Zoy K hr.u200) (Ah K (qv 7) Ad) (Ak Ab) (A0 _)) C8 (Ah K (qv 8) (A4 (D7 K) (A4 G8 Ad (qv 10)) Ad))))
   (Ag (Cr (Cu K Qd Qs Qt C9 (qv 9) (Aa (Ak (Aa (Ah K (qv 7) Ad) (Aa (Ah K (qv 8) (A4 G8 Ad (qv 10))) (Aa (qv 11) (Aa (A5 C_mark_of hr.m (Aa (qv 0) (Aa (Ah K (qv 7) Ad) (Aa (Ah K (qv 7) Ad) (Aa (Ah K (qv 5) (qv 10)) Ab))))) Ab))))) Ab))))))
   (Ag (Ar (qv 9))))))))))),?_⟩
  have bg:=big;have ao:(walk [] t).length=t.size:=D5 _ _;have a9:ps.length=t.size:=by rw[hK.len,ao]
  have cg:fs.length=t.size:=by rw[hF.len,a9]
  have cc:(flat ps).length=2*t.size:=by rw[Kr,a9]
  left;refine⟨v,t,rfl,ht,by lia,λpp I H1 s1 cf er al=>?_⟩;have b8:I.length=t.size:=by rw[al.1,ao]
  left;refine D0 (SqL.of er) ?_;left;refine Zpb ?_ ?_
  ·have:¬((40:Int)<(I.length:Nat)):=by lia
   simpa using this
  left;refine⟨pp,I,walk [] t,ps,bf,rfl,er,al,by lia,λr b5=>by have:=Jt [] t r b5;simp at this;lia,hK,λr a b pv H2 s2 qr sh eb as=>?_⟩;refine Dp qr rfl ?_;left;refine⟨a,b,bf,a6,pv,ps,fs,rfl,sh,eb,as,hF,by lia,λr2 a2 c2 H3 s3 ca b4 bx=>?_⟩;refine Dp ca rfl ?_;left;refine⟨Bo,λpw a7=>?_⟩;have s4:=Same.upd (o:=.lst []) a7;have b6:=s4 _ _ (s3 _ _ eb);left;refine .inl ⟨b,rfl,⟨_,SqL.of b6⟩,?_⟩;refine Jr (K:=K) (a:=b) (xs:=pv) (λi O H'=>eX5 λv7 v8 v9 ap an=>O=[some v,some (.ref pp),some (.ref a),some (.ref b),some (.ref a2),some (.ref c2),some (.ref pw),v7,v8,v9,ap,an]/\H' pw=some (.lst (Aq (flat (ps.take i))))/\Same H3 H')
   ⟨_,_,_,_,_,rfl,Ac,s4⟩ ?_ ?_ ?_
  ·rintro i O H' _ ⟨_,_,_,_,_,_,_,sm⟩;exact SqL.of (sm _ _ (s3 _ _ eb))
  ·rintro i x O H5 hx ⟨v7,v8,v9,ap,an,rfl,ew,sm⟩;obtain⟨y,hy,pa,rfl,bw⟩:=as.get hx;have hi:=(Pq.mp hy).1;have a4:(Aq (flat (ps.take i))).length=2*i:=by unfold Aq;rw[Pp,Kr,Qb];lia
   left;refine B9 (SqL.of ew) ?_;left;refine⟨pw,pa,_,_,rfl,rfl,ew,(s3.trans sm).tup bw,by rw[a4];show 2*i+2<=sizeLine;lia,?_⟩;refine⟨_,_,_,_,_,rfl,?_,sm.over a7⟩;rw[Ac,Qq,hy];show some (HO.lst (Aq (flat (ps.take i))++[.int (y.1:Nat),.int (y.2:Nat)]))=some (.lst (Aq (flat (ps.take i++[y]))));rw[Zqk,Gm];rfl
  ·rintro O H5 ⟨v7,v8,v9,ap,an,rfl,ew,sm⟩;rw[as.1,Q9]at ew;left;refine⟨a2,pw,a6,flat ps,ks,N,bu,rfl,bx.same sm,ew,hT,hN,by lia,b3,bv,λc3 us H6 s6 ce a8 bc=>?_⟩;left;refine⟨Bo,λpr ar=>?_⟩;have s7:=Same.upd (o:=.lst []) ar;have sA:Same H1 H6:=((s2.trans s3).trans sm).trans s6;have bb:H pr=none:=(s1.trans sA).free ar;left;refine⟨pp,I,rfl,SqL.of (s7 _ _ (sA _ _ er)),?_⟩;have e6:H6 c2=some (.lst (fs.map V.bl)):=(sm.trans s6) _ _ b4;refine Ng (K:=K) (a:=pp) (xs:=I) (λi O H'=>eX4 λw7 Eo Fd rv=>O=[some v,some (.ref pp),some (.ref a),some (.ref b),some (.ref a2),some (.ref c2),some (.ref pw),w7,some (.ref c3),some (.ref pr),Eo,Fd]/\H' pr=some (.lst rv)/\Al (LkAt K H') rv ((Cq t ks fs).take i)/\Same H6 H')
    ⟨_,_,_,[],rfl,Ac,.nil,s7⟩ ?_ ?_ ?_
   ·rintro i O H' _ ⟨_,_,_,_,_,_,_,aa⟩;exact SqL.of (aa _ _ (sA _ _ er))
   ·rintro i x tt O H7 hx bq ⟨w7,Eo,Fd,rv,rfl,aq,ae,aa⟩;obtain⟨y,hy,ra,pl,u,rfl,ai,b7,hu⟩:=al.get hx;have hi:=(Pq.mp hy).1;have bj:(Cq t ks fs)[i]?=some (Im t ks fs i y):=by unfold Cq;rw[T7,hy];rfl
    have a3:i<fs.length:=by lia
    have a5:2*i<ks.length:=by lia
    have ak:2*i+1<ks.length:=by lia
    have g0:ks.getD (2*i) .num=ks[2*i]:=by rw[Qm,Pj a5];rfl
    have g1:ks.getD (2*i+1) .num=ks[2*i+1]:=by rw[Qm,Pj ak];rfl
    have gf:fs.getD i false=fs[i]:=by rw[Qm,Pj a3];rfl
    have s8:=Same.upd (o:=.tup [.int (i:Nat),.ref ra]) bq;have sB:Same H1 (upd H7 tt (.tup [.int (i:Nat),.ref ra])):=(sA.trans aa).trans s8;have sC:Same H6 (upd H7 tt (.tup [.int (i:Nat),.ref ra])):=aa.trans s8;have Z:=s8 _ _ aq;have ah:=ae.mono (LkAt.same s8.t);refine Dp (SqT.of Ac) rfl ?_;revert sB sC Z ah;generalize upd H7 tt (.tup [.int (i:Nat),.ref ra])=H8;intro sB sC Z ah;obtain⟨kv,cb,kk⟩:=bc.get' (Pj a5);obtain⟨kw,b9,bp⟩:=bc.get' (Pj ak);have aj:=sB _ _ b7;have am:SqT K H8 pl (Bv y.1):=SqT.of aj;have i2:(2:Int)*(i:Nat)=((2*i:Nat):Int):=by lia
    have i3:(2:Int)*(i:Nat)+1=((2*i+1:Nat):Int):=by lia
    walk_at "q";refine viaE (R:=λav H'=>AkD K H6 av (Im t ks fs i y).2.2.1/\Same H8 H') ?_ ?_
    ·intro Y hY;left;refine Ao (sB.tup ai) rfl ?_;left;refine⟨Bo,λp9 h9=>?_⟩;have U:=Same.upd (o:=.tup []) h9;refine Zum (xs:=y.1.map λi=>((i:Nat):Int)) (ys:=[]) (by rw[<- Zie];exact U.tup am) (SqT.of Ac) ?_;left;refine Bk (λc=>?_) (λc=>?_)
     ·have c:y.1=[]:=by simpa using c
      left;exact hY _ _ ⟨.inl ⟨if_pos c,rfl⟩,U⟩
     ·have c:y.1≠[]:=λe=>c (by rw[e];rfl);left;rw[i3];refine Ba (SqL.of (U _ _ (sC _ _ a8))) (C2 b9) ?_;refine hY _ _ ⟨.inr ⟨_,if_neg c,?_⟩,U⟩;rw[g1];exact bp
    rintro av H9 ⟨bt,U⟩;walk_at "q";left;refine B9 (SqL.of (U _ _ Z)) ?_;left;refine Ao ((sB.trans U).tup ai) rfl ?_;left;rw[i2];refine Ba (SqL.of ((sC.trans U) _ _ a8)) (C2 cb) ?_;left;refine Ao ((sB.trans U).tup ai) rfl ?_;left;refine Ao ((sB.trans U).tup ai) rfl ?_;left;have be:(fs.map V.bl)[i]?=some (.bl fs[i]):=by rw[Qf,Pj a3];rfl
    refine Ba (SqL.of ((sC.trans U) _ _ e6)) (C2 be) ?_;left;obtain⟨wd,n,ts,ba,ay⟩:=Zoo hK y (Qu hy);have a0:=Jt [] t y (Qu hy);have au:=Zfq t y (Qu hy);have bh:(Im t ks fs i y).2.2.2=Cg t y.1 (.mk wd n ts) fs[i]:=by show Cg t y.1 y.2 (fs.getD i false)=_;rw[gf,ba]
    refine⟨v,t,pl,y.1,u,wd,n,ts,fs[i],rfl,ht.same ((s1.trans sB).trans U),bi,(U.tup am),au,by simp at a0;lia,by rw[<- ba];exact hu.same (sB.trans U),ay,λHX sX=>?_⟩;rw[<- bh];left;refine⟨Jy,λpz b0=>?_⟩;have sz:=Same.upd (o:=.tup [.ref pl,kv,av,.str (Im t ks fs i y).2.2.2]) b0;left;have ax:=(U.trans sX).trans sz;have ag:=ax _ _ Z;have bo:rv.length<sizeLine:=by rw[ae.1,Qb];lia
    refine Cy ag bo ?_;have tz:SameT H8 (upd (upd HX pz (.tup [.ref pl,kv,av,.str (Im t ks fs i y).2.2.2])) pr (.lst (rv++[.ref pz]))):=ax.t.trans (SameT.set ag);refine⟨_,_,_,rv++[.ref pz],rfl,Ac,?_,?_⟩
    ·rw[Qq,bj];refine(ah.mono (LkAt.same tz)).snoc ⟨pz,pl,kv,av,rfl,(SameT.set ag).tup (SqT.of Ac),(tz pl).1 _ aj,?_,(bt.same sC.t).same tz⟩;show KdAt K _ kv (ks.getD (2*i) .num);rw[g0];exact(kk.same sC.t).same tz
    ·exact(sC.trans ax).over ar
   ·rintro O H7 ⟨w7,Eo,Fd,rv,rfl,aq,ae,aa⟩;have e9:I.length=(Cq t ks fs).length:=by unfold Cq;rw[Wm,b8,ao]
    rw[e9,Q9]at ae;left;exact q pr rv H7 ((s1.trans sA).trans aa) bb aq ae
end
noncomputable def Df (w:Str):Nat:=(Az 0 w).2.1.length
theorem Zdw (m:Nat)(w:Str):(Az m w).2.1.length=Df w:=by
 unfold Df Az;by_cases h1:w="num"
 ·rw[if_pos h1,if_pos h1]
 rw[if_neg h1,if_neg h1];by_cases h2:w="truth"
 ·rw[if_pos h2,if_pos h2]
 rw[if_neg h2,if_neg h2];by_cases h3:w="plus"\/w="minus"
 ·rw[if_pos h3,if_pos h3]
 rw[if_neg h3,if_neg h3];by_cases U:w="less"
 ·rw[if_pos U,if_pos U]
 rw[if_neg U,if_neg U];by_cases Y:w="if"
 ·rw[if_pos Y,if_pos Y];rfl
 rw[if_neg Y,if_neg Y];by_cases I:w="gap"\/w="odd"\/w="name"
 ·rw[if_pos I,if_pos I]
 rw[if_neg I,if_neg I];by_cases Z:w="let"
 ·rw[if_pos Z,if_pos Z];rfl
 rw[if_neg Z,if_neg Z];by_cases F:w="fn"
 ·rw[if_pos F,if_pos F];rfl
 rw[if_neg F,if_neg F];by_cases O:w="rec"
 ·rw[if_pos O,if_pos O];rfl
 rw[if_neg O,if_neg O];rfl
inductive AT:Tr->Prop where
 |mk {w:Str} {n:Dt} {ts:List Tr} (hw:C0 w n) (hl:ts.length=Df w) (h:∀t∈ts,AT t):AT (.mk w n ts)
theorem Zcw (A:An)(pl:List Nat)(f:Nat->Ev):∀m j,j<m->E3 A pl f m (pl++[j])=some (f j)
 |0,j,h=>absurd h (Rv _)
 |m+1,j,h=>by
  show(if pl++[j]=pl++[m] then some (f m) else E3 A pl f m (pl++[j]))=_;by_cases e:j=m
  ·rw[e,if_pos rfl]
  ·rw[if_neg λz=>e (by simpa using z)];exact Zcw A pl f m j (by lia)
theorem Zbh (A:An)(pl:List Nat)(f:Nat->Ev)(q:List Nat)(h:∀j,q≠pl++[j]):∀m,E3 A pl f m q=A q
 |0=>rfl
 |m+1=>by
  show(if q=pl++[m] then some (f m) else E3 A pl f m q)=_;rw[if_neg (h m)];exact Zbh A pl f q h m
mutual
theorem Zd5:∀(t:Tr)(pl:List Nat)(sh:Af)(D:Dn)(A:An)(rest:List (List Nat×Tr)),AT t->(A pl).isSome=true ->
  (∀sh2 D2 (A2:An),(∀q,(∀j,¬pl++[j] <+: q)->A2 q=A q)->∃ps sh',KinG rest sh2 D2 A2 ps sh')->∃ps sh',KinG (walk pl t++rest) sh D A ps sh'
 |.mk w n ts,pl,sh,D,A,rest,h,Y,I=>by
  cases h with
  |mk U hl h =>
  obtain⟨e,Z⟩:=Rz.mp Y;obtain⟨ps,sh',k⟩:=Zdf ts pl 0 (sh++(Az sh.length w).2.2.2) (Db D pl 0 (Az sh.length w).2.1) (E3 A pl (λj=>Cv e (nb w n j) (Az sh.length w).2.2.1) (Az sh.length w).2.1.length) rest h
   (λj _ hj=>by rw[Zcw _ _ _ _ _ (by rw[Zdw];lia)];rfl)
   (λsh2 D2 A2 O=>I sh2 D2 A2 λq F=>by
    rw[O q λj _=>F j];exact Zbh A pl _ q (λj z=>F j (by rw[z];exact Qz)) _)
  rw[walk,Ru];exact⟨_,_,.cons Z U k⟩
theorem Zdf:∀(ts:List Tr)(pl:List Nat)(i:Nat)(sh:Af)(D:Dn)(A:An)(rest:List (List Nat×Tr)),(∀t∈ts,AT t)->(∀j,i<=j->j<i+ts.length->(A (pl++[j])).isSome=true) ->
  (∀sh2 D2 (A2:An),(∀q,(∀j,i<=j->¬pl++[j] <+: q)->A2 q=A q)->∃ps sh',KinG rest sh2 D2 A2 ps sh')->∃ps sh',KinG (Br pl i ts++rest) sh D A ps sh'
 |[],pl,i,sh,D,A,rest,_,_,F=>by
  rw[Br,Uj];exact F sh D A λ_ _=>rfl
 |t::r,pl,i,sh,D,A,rest,h,Y,F=>by
  rw[Br,Qi];refine Zd5 t (pl++[i]) sh D A (Br pl (i+1) r++rest) (h t (by simp)) (Y i (Pk _) (by simp)) λsh2 D2 A2 O=>?_;refine Zdf r pl (i+1) sh2 D2 A2 rest (λx hx=>h x (by simp[hx])) (λj h1 h2=>?_) (λI Z A3 hg=>F I Z A3 λq U=>?_)
  ·rw[O _ λj' e=>by have:=e.length_le;simp at this];exact Y j (by lia) (by simp;lia)
  ·rw[hg q λj hj=>U j (by lia),O q λj e=>U i (Pk _) (List.IsPrefix.trans ⟨[j],rfl⟩ e)]
end
theorem Zp4 (h:AT t):∃ps sh',KinG (walk [] t) [.num,.truth] (λ_=>none) (λq=>if q=[] then some (λ_=>none) else none) ps sh':=by
 have:=Zd5 t [] [.num,.truth] (λ_=>none) (λq=>if q=[] then some (λ_=>none) else none) [] h rfl λF I O _=>⟨[],F,.nil⟩;rwa[Qj]at this
structure Ini (sh:Af):Prop where
 ns:∀(i:Nat)(s:Sh),sh[i]?=some s->s.isSame=false
 dn:∀(i a b:Nat),sh[i]?=some (.to a b)->a<i/\b<i
theorem Zl5 (m:Nat)(w:Str)(hm:2<=m):(Az m w).1<m+(Az m w).2.2.2.length/\(∀x∈(Az m w).2.1,x<m+(Az m w).2.2.2.length)/\(∀x∈(Az m w).2.2.1,x<m+(Az m w).2.2.2.length)/\(∀(i:Nat)(s:Sh),(Az m w).2.2.2[i]?=some s->s.isSame=false/\∀a b,s=.to a b->a<m+i/\b<m+i):=by
 have one:∀(i:Nat)(s:Sh),([Sh.any]:Af)[i]?=some s->s.isSame=false/\∀a b,s=.to a b->a<m+i/\b<m+i:=λi s h=>by
  match i,h with
  |0,h=>cases h;exact⟨rfl,λa b e=>by cases e⟩
 have two:∀(i:Nat)(s:Sh),([Sh.any,.any]:Af)[i]?=some s->s.isSame=false/\∀a b,s=.to a b->a<m+i/\b<m+i:=λi s h=>by
  match i,h with
  |0,h=>cases h;exact⟨rfl,λa b e=>by cases e⟩
  |1,h=>cases h;exact⟨rfl,λa b e=>by cases e⟩
 have O:∀(i:Nat)(s:Sh),([Sh.any,.any,.to m (m+1)]:Af)[i]?=some s->s.isSame=false/\∀a b,s=.to a b->a<m+i/\b<m+i:=λi s h=>by
  match i,h with
  |0,h=>cases h;exact⟨rfl,λa b e=>by cases e⟩
  |1,h=>cases h;exact⟨rfl,λa b e=>by cases e⟩
  |2,h=>cases h;exact⟨rfl,λa b e=>by cases e;lia⟩
 have nil:∀(i:Nat)(s:Sh),([]:Af)[i]?=some s->s.isSame=false/\∀a b,s=.to a b->a<m+i/\b<m+i:=λi s h=>by cases h
 have mem:∀{xs:List Nat}{k:Nat},(∀x∈xs,x<k)↔xs.all (λx=>decide (x<k))=true:=by intro xs k;simp
 have fin:∀{k:Nat×List Nat×List Nat×Af}{g:Nat}{as bs:List Nat}{new:Af},k=(g,as,bs,new)->g<m+new.length->(∀x∈as,x<m+new.length)->(∀x∈bs,x<m+new.length)->(∀(i:Nat)(s:Sh),new[i]?=some s->s.isSame=false/\∀a b,s=.to a b->a<m+i/\b<m+i) ->
   k.1<m+k.2.2.2.length/\(∀x∈k.2.1,x<m+k.2.2.2.length)/\(∀x∈k.2.2.1,x<m+k.2.2.2.length)/\(∀(i:Nat)(s:Sh),k.2.2.2[i]?=some s->s.isSame=false/\∀a b,s=.to a b->a<m+i/\b<m+i):=by
  rintro k g as bs new rfl h1 h2 F I;exact⟨h1,h2,F,I⟩
 by_cases h1:w="num"
 ·exact fin (if_pos h1) (by simp;lia) (by simp) (by simp) nil
 by_cases h2:w="truth"
 ·exact fin (by unfold Az;rw[if_neg h1,if_pos h2]) (by simp;lia) (by simp) (by simp) nil
 by_cases F:w="plus"\/w="minus"
 ·exact fin (by unfold Az;rw[if_neg h1,if_neg h2,if_pos F]) (by simp;lia) (by simp;lia) (by simp) nil
 by_cases I:w="less"
 ·exact fin (by unfold Az;rw[if_neg h1,if_neg h2,if_neg F,if_pos I]) (by simp;lia) (by simp;lia) (by simp) nil
 by_cases U:w="if"
 ·exact fin (by unfold Az;rw[if_neg h1,if_neg h2,if_neg F,if_neg I,if_pos U]) (by simp) (by simp;lia) (by simp) one
 by_cases Y:w="gap"\/w="odd"\/w="name"
 ·exact fin (by unfold Az;rw[if_neg h1,if_neg h2,if_neg F,if_neg I,if_neg U,if_pos Y]) (by simp) (by simp) (by simp) one
 by_cases Z:w="let"
 ·exact fin (by unfold Az;rw[if_neg h1,if_neg h2,if_neg F,if_neg I,if_neg U,if_neg Y,if_pos Z]) (by simp) (by simp) (by simp) two
 by_cases h8:w="fn"
 ·exact fin (by unfold Az;rw[if_neg h1,if_neg h2,if_neg F,if_neg I,if_neg U,if_neg Y,if_neg Z,if_pos h8]) (by simp) (by simp) (by simp) O
 by_cases h9:w="rec"
 ·exact fin (by unfold Az;rw[if_neg h1,if_neg h2,if_neg F,if_neg I,if_neg U,if_neg Y,if_neg Z,if_neg h8,if_pos h9]) (by simp) (by simp) (by simp) O
 ·exact fin (by unfold Az;rw[if_neg h1,if_neg h2,if_neg F,if_neg I,if_neg U,if_neg Y,if_neg Z,if_neg h8,if_neg h9]) (by simp) (by simp) (by simp) O
theorem Ze1 (pl q:List Nat)(k:Nat):∀(xs:List Nat)(D:Dn)(i:Nat),Db D pl i xs q=some k->k∈xs\/D q=some k
 |[],D,i,h=>.inr h
 |x::r,D,i,h=>by
  rcases Ze1 pl q k r _ (i+1) h with h|h
  ·exact .inl (Qo _ h)
  ·have h:(if q=pl++[i] then some x else D q)=some k:=h;by_cases e:q=pl++[i]
   ·rw[if_pos e]at h;cases h;exact .inl (by simp)
   ·rw[if_neg e]at h;exact .inr h
theorem Zec (A:An)(pl:List Nat)(f:Nat->Ev)(q:List Nat)(e:Ev):∀m,E3 A pl f m q=some e->A q=some e\/∃j,e=f j
 |0,h=>.inl h
 |m+1,h=>by
  have h:(if q=pl++[m] then some (f m) else E3 A pl f m q)=some e:=h;by_cases z:q=pl++[m]
  ·rw[if_pos z]at h;cases h;exact .inr ⟨m,rfl⟩
  ·rw[if_neg z]at h;exact Zec A pl f q e m h
theorem Zps (h:Cv e ns ks s=some k):k∈ks\/e s=some k:=by
 unfold Cv at h;have F:∀(l:List (Str×Nat))(e:Ev),l.foldl (λe p=>λs=>if s=p.1 then some p.2 else e s) e s=some k->(∃p∈l,p.2=k)\/e s=some k:=by
  intro l
  induction l with
  |nil=>intro e h;exact .inr h
  |cons p r I =>
   intro e h;rcases I _ h with⟨q,h1,h2⟩|h
   ·exact .inl ⟨q,Qo _ h1,h2⟩
   ·have h:(if s=p.1 then some p.2 else e s)=some k:=h;by_cases z:s=p.1
    ·rw[if_pos z]at h;cases h;exact .inl ⟨p,by simp,rfl⟩
    ·rw[if_neg z]at h;exact .inr h
 rcases F _ _ h with⟨p,h1,rfl⟩|h
 ·exact .inl (Ui h1).2
 ·exact .inr h
theorem Zbo (h:KinG rs sh D A ps sh'):Ini sh->2<=sh.length->(∀q k,D q=some k->k<sh.length)->(∀q e s k,A q=some e->e s=some k->k<sh.length)->Ini sh'/\sh.length<=sh'.length/\sh'.length<=sh.length+3*rs.length/\∀p∈ps,p.1<sh'.length/\p.2<sh'.length:=by
 induction h with
 |nil=>exact λh1 _ _ _=>⟨h1,Pk _,by simp,λp O=>by cases O⟩
 | @cons pl w n ts rs sh sh' D A e ps hA aa k ih =>
  intro h1 h2 h3 Z;obtain⟨k1,k2,k3,k4⟩:=Zl5 sh.length w h2;have kl:=(Zgp sh.length w).2;have hl:(sh++(Az sh.length w).2.2.2).length=sh.length+(Az sh.length w).2.2.2.length:=Pr ..;have hg:Dd sh.length w n e<sh.length+(Az sh.length w).2.2.2.length:=by
   unfold Dd;split
   ·cases Y:e (Cz n) with
    |none=>exact k1
    |some k=>have:=Z pl e _ k hA Y;show k<_;lia
   ·exact k1
  have U:Ini (sh++(Az sh.length w).2.2.2):=by
   refine⟨λi s F=>?_,λi a b F=>?_⟩
   ·by_cases hi:i<sh.length
    ·rw[Qh hi]at F;exact h1.ns i s F
    ·rw[Qk (by lia)]at F;exact(k4 _ s F).1
   ·by_cases hi:i<sh.length
    ·rw[Qh hi]at F;exact h1.dn i a b F
    ·rw[Qk (by lia)]at F;have:=(k4 _ _ F).2 a b rfl;lia
  obtain⟨i1,i2,i3,i4⟩:=ih U (by lia) (λq k I=>by
    rcases Ze1 _ _ _ _ _ _ I with I|I
    ·have:=k2 k I;lia
    ·have:=h3 q k I;lia) (λq e' s k I F=>by
    rcases Zec _ _ _ _ _ _ I with I|⟨j,rfl⟩
    ·have:=Z q e' s k I F;lia
    ·rcases Zps F with F|F
     ·have:=k3 k F;lia
     ·have:=Z pl e s k hA F;lia)
  rw[hl]at i2 i3;refine⟨i1,by lia,by rw[Pw];lia,λp O=>?_⟩;rcases Pm.mp O with rfl|O
  ·refine⟨by show Dd sh.length w n e<_;lia,?_⟩;show(D pl).getD (Dd sh.length w n e)<_;cases Y:D pl with
   |none=>show Dd sh.length w n e<_;lia
   |some k=>have:=h3 pl k Y;show k<_;lia
  ·exact i4 p O
def Bd (m:Af):Prop:=∀(i:Nat)(s:Sh),m[i]?=some s->∀p∈s.parts,p<m.length
def Cj (m:Af):Prop:=∀i,i<m.length->∃r,Last m i r
theorem Ini.tot (h:Ini m):Cj m:=λi hi=>⟨i,0,.root (Pj hi) (h.ns i _ (Pj hi))⟩
theorem Ini.bd (h:Ini m):Bd m:=λi s I p F=>by
 have hi:=(Pq.mp I).1;cases s with
 |to a b =>
  have:=h.dn i a b I;simp only[Sh.parts,Pm,P6,or_false]at F;rcases F with rfl|rfl <;> lia
 |same k=>have:=h.ns i _ I;cases this
 |num=>cases F
 |truth=>cases F
 |any=>cases F
theorem Last.lt (h:Last m i r):r<m.length:=by
 obtain⟨s,F,_⟩:=h.at;exact(Pq.mp F).1
theorem Eh (h:m[i]?=some s)(hs:s.isSame=false):Last m i i:=⟨0,.root h hs⟩
theorem Dx {m:Af}{x i:Nat}{s:Sh}(h:i≠x):(m.set x s)[i]?=m[i]?:=Vb (λz=>h z.symm)
theorem Zb4 {m:Af}{x:Nat}{s sx:Sh}(h:m[x]?=some sx):(m.set x s)[x]?=some s:=R4 (Pq.mp h).1
theorem Zay (hx:m[x]?=some sx)(hxs:sx.isSame=false)(hy:m[y]?=some sy)(hys:sy.isSame=false)(ne:x≠y)(h:Last m i r):Last (m.set x (.same y)) i (if r=x then y else r):=by
 obtain⟨n,h⟩:=h;have O:Last (m.set x (.same y)) y y:=Eh (by rw[Dx ne.symm];exact hy) hys
 induction h with
 | @root i s h I =>
  by_cases e:i=x
  ·subst e;rw[if_pos rfl];obtain⟨k,l⟩:=O;exact⟨k+1,.step (Zb4 hx) l⟩
  ·rw[if_neg e];exact Eh (by rw[Dx e];exact h) I
 | @step n i k r h t F =>
  have e:i≠x:=λz=>by rw[z,hx]at h;cases h;cases hxs
  obtain⟨U,l⟩:=F;exact⟨U+1,.step (by rw[Dx e];exact h) l⟩
noncomputable def nr:Af->Nat
 |[]=>0
 |s::m=>(cond s.isSame 0 1)+nr m
theorem On:∀(m:Af)(x y:Nat)(sx:Sh),m[x]?=some sx->sx.isSame=false->nr (m.set x (.same y))+1=nr m
 |[],x,y,sx,h,_=>by cases h
 |s::m,0,y,sx,h,F=>by
  cases h;show(0+nr m)+1=(cond s.isSame 0 1)+nr m;rw[F];show 0+nr m+1=1+nr m;lia
 |s::m,x+1,y,sx,h,F=>by
  have:=On m x y sx (by simpa using h) F;show(cond s.isSame 0 1)+nr (m.set x (.same y))+1=(cond s.isSame 0 1)+nr m;lia
theorem Zew:∀m:Af,nr m<=m.length
 |[]=>Pk _
 |s::m=>by
  have:=Zew m;show(cond s.isSame 0 1)+nr m<=m.length+1;cases s.isSame
  ·show 1+nr m<=_;lia
  ·show 0+nr m<=_;lia
theorem Lw (h:Cj m)(hx:m[x]?=some sx)(hxs:sx.isSame=false)(hy:m[y]?=some sy)(hys:sy.isSame=false)(ne:x≠y):Cj (m.set x (.same y)):=λi hi=>by
 rw[Qp]at hi;obtain⟨r,F⟩:=h i hi;exact⟨_,Zay hx hxs hy hys ne F⟩
theorem Hh (h:Bd m)(hy:m[y]?=some sy):Bd (m.set x (.same y)):=λi s F p I=>by
 rw[Qp];by_cases e:i=x
 ·subst e;have hi:=(Pq.mp F).1;rw[Qp]at hi;rw[R4 hi]at F;cases F;have:p=y:=by simpa [Sh.parts] using I
  rw[this];exact(Pq.mp hy).1
 ·rw[Dx e]at F;exact h i s F p I
theorem Zoe:∀(μ:Nat)(m:Af)(w:List (Nat×Nat)),w.length+3*nr m<=μ->Cj m->Bd m->(∀p∈w,p.1<m.length/\p.2<m.length)->∃n o,n<=μ/\JoinN n m w o/\∀m1,o=some m1->Cj m1/\Bd m1/\m1.length=m.length:=by
 intro μ
 induction μ with
 |zero =>
  intro m w h Z hb hw;have:w=[]:=Re (by lia);subst this;exact⟨0,some m,Pk _,.nil,λm1 e=>by cases e;exact⟨Z,hb,rfl⟩⟩
 |succ μ ih =>
  intro m w h Z hb hw;rcases Sg w with rfl|⟨w1,p,rfl⟩
  ·exact⟨0,some m,P8 _,.nil,λm1 e=>by cases e;exact⟨Z,hb,rfl⟩⟩
  rw[Si]at h hw ⊢;rw[Pr,Qg]at h;have hp:=hw p (by simp);have U:∀p∈w1,p.1<m.length/\p.2<m.length:=λq Y=>hw q (by simp[Y]);obtain⟨l,hl⟩:=Z p.1 hp.1;obtain⟨r,hr⟩:=Z p.2 hp.2;by_cases e:l=r
  ·subst e;obtain⟨n,o,h1,h2,O⟩:=ih m w1 (by lia) Z hb U;exact⟨n+1,o,by lia,.eq hl hr h2,O⟩
  obtain⟨sl,I,aa⟩:=hl.at;obtain⟨sr,F,ae⟩:=hr.at;by_cases ar:sr=.any
  ·subst ar;have:=On m r l _ F rfl;obtain⟨n,o,h1,h2,O⟩:=ih (m.set r (.same l)) w1 (by lia) (Lw Z F rfl I aa (λz=>e z.symm)) (Hh hb I) (by rw[Qp];exact U);rw[Qp]at O;exact⟨n+1,o,by lia,.anyR hl hr e F h2,O⟩
  have ts:=Lw Z I aa F ae e;have bs:=Hh (x:=l) hb F;have ns:=On m l r _ I aa;by_cases al:sl=.any
  ·subst al;obtain⟨n,o,h1,h2,O⟩:=ih (m.set l (.same r)) w1 (by lia) ts bs (by rw[Qp];exact U);rw[Qp]at O;exact⟨n+1,o,by lia,.anyL hl hr e F ar I h2,O⟩
  by_cases tl:sl.wd="to"
  ·by_cases tr:sr.wd="to"
   ·obtain⟨a,b,rfl⟩:=Ze9 tl;obtain⟨c,d,rfl⟩:=Ze9 tr;have b1:=hb l _ I;have b2:=hb r _ F;obtain⟨n,o,h1,h2,O⟩:=ih (m.set l (.same r)) (w1++[(a,c),(b,d)]) (by rw[Pr];show w1.length+2+_<=_;lia) ts bs (by
     rw[Qp];intro q Y;rcases P3.mp Y with Y|Y
     ·exact U q Y
     ·simp only[Pm,P6,or_false]at Y;rcases Y with rfl|rfl
      ·exact⟨b1 a (by simp[Sh.parts]),b2 c (by simp[Sh.parts])⟩
      ·exact⟨b1 b (by simp[Sh.parts]),b2 d (by simp[Sh.parts])⟩)
    rw[Qp]at O;exact⟨n+1,o,by lia,.to hl hr e I F h2,O⟩
   ·exact⟨1,none,by lia,.clash hl hr e I F al ar (.inr tr),λm1 z=>by cases z⟩
  ·exact⟨1,none,by lia,.clash hl hr e I F al ar (.inl tl),λm1 z=>by cases z⟩
noncomputable def un:Nat->(Nat->Bool)->Nat
 |0,_=>0
 |N+1,f=>un N f+cond (f N) 1 0
theorem Ov:∀(N:Nat)(f g:Nat->Bool),(∀i,i<N->f i=g i)->un N f=un N g
 |0,f,g,h=>rfl
 |N+1,f,g,h=>by
  show un N f+cond (f N) 1 0=un N g+cond (g N) 1 0;rw[Ov N f g λi hi=>h i (by lia),h N (by lia)]
theorem Lm:∀(N x:Nat)(f g:Nat->Bool),x<N->f x=true->g x=false->(∀i,i≠x->g i=f i)->un N g+1=un N f
 |0,x,f,g,h,_,_,_=>absurd h (Rv _)
 |N+1,x,f,g,h,h1,h2,F=>by
  show un N g+cond (g N) 1 0+1=un N f+cond (f N) 1 0;by_cases e:x=N
  ·subst e;rw[h1,h2,Ov x g f λi hi=>F i (by lia)];rfl
  ·have:=Lm N x f g (by lia) h1 h2 F;rw[F N (λz=>e z.symm)];lia
theorem Hi:∀(N:Nat)(f:Nat->Bool),un N f<=N
 |0,_=>Pk _
 |N+1,f=>by
  have:=Hi N f;show un N f+cond (f N) 1 0<=N+1;cases f N
  ·show un N f+0<=_;lia
  ·show un N f+1<=_;lia
noncomputable def fr (ps:Ps):Nat->Bool:=λi=>(ps i).isNone
theorem Ziv (ht:Cj sh)(ps:Ps):∀(parts w:List Nat),(∀p∈parts,p<sh.length)->(∀x∈w,x<sh.length)->∃o,Eu sh ps parts w o/\∀w',o=some w'->w'.length<=w.length+parts.length/\∀x∈w',x<sh.length
 |[],w,_,O=>⟨some w,.nil,λw' e=>by cases e;exact⟨by simp,O⟩⟩
 |p::rest,w,U,O=>by
  obtain⟨r,I⟩:=ht p (U p (by simp));by_cases h:ps r=some false
  ·exact⟨none,.hit I h,λw' e=>by cases e⟩
  ·obtain⟨o,h1,h2⟩:=Ziv ht ps rest (w++[r]) (λq Y=>U q (by simp[Y])) (λx F=>by
    rcases P3.mp F with F|F
    ·exact O x F
    ·rw[Py.mp F];exact I.lt)
   refine⟨o,.go I h h1,λw' e=>?_⟩;obtain⟨l,m⟩:=h2 w' e;rw[Pr,Qg]at l;exact⟨by rw[Pw];lia,m⟩
theorem Zov (ht:Cj sh)(hb:Bd sh):∀(μ:Nat)(ps:Ps)(w:List Nat),w.length+3*un sh.length (fr ps)<=μ->(∀x∈w,x<sh.length)->∃n b,n<=μ/\HoldsN sh n ps w b:=by
 intro μ
 induction μ with
 |zero =>
  intro ps w h _;have:w=[]:=Re (by lia);subst this;exact⟨0,false,Pk _,.nil⟩
 |succ μ Y =>
  intro ps w h I;rcases Sg w with rfl|⟨w1,top,rfl⟩
  ·exact⟨0,false,P8 _,.nil⟩
  rw[Si]at h I ⊢;rw[Pr,Qg]at h;have F:=I top (by simp);have U:∀x∈w1,x<sh.length:=λx hx=>I x (by simp[hx]);cases e:ps top with
  |some x =>
   have eu:un sh.length (fr (Bl ps top true))=un sh.length (fr ps):=Ov _ _ _ λi _=>by
    unfold fr Bl;by_cases z:i=top
    ·rw[z,e,if_pos rfl];rfl
    ·rw[if_neg z]
   obtain⟨n,b,h1,h2⟩:=Y (Bl ps top true) w1 (by rw[eu];lia) U;exact⟨n+1,b,by lia,.seen e h2⟩
  |none =>
   have O:=Pj F;have eu:un sh.length (fr (Bl ps top false))+1=un sh.length (fr ps):=Lm _ top _ _ F (by unfold fr;rw[e];rfl) (by unfold fr Bl;rw[if_pos rfl];rfl) (λi hi=>by unfold fr Bl;rw[if_neg hi]);have aa:=Zaz sh[top];obtain⟨o,h1,h2⟩:=Ziv ht (Bl ps top false) sh[top].parts (w1++[top]) (hb top _ O) I;cases o with
   |none=>exact⟨1,true,by lia,.hit e O h1⟩
   |some Z =>
    obtain⟨l,m⟩:=h2 Z rfl;rw[Pr,Qg]at l;obtain⟨n,b,h3,h4⟩:=Y (Bl ps top false) Z (by lia) m;exact⟨n+1,b,by lia,.go e O h1 h4⟩
theorem Mz:∀(ps:List (Nat×Nat))(m:Af),m.length<=200->Cj m->Bd m->(∀p∈ps,p.1<m.length/\p.2<m.length)->∃fs m',FitG ps m fs m'/\Cj m'/\Bd m'/\m'.length=m.length
 |[],m,_,I,hb,_=>⟨[],m,.nil,I,hb,rfl⟩
 | (g,a)::ps,m,hl,I,hb,Z=>by
  have nl:=Zew m;obtain⟨n,o,h1,h2,h3⟩:=Zoe (1+3*nr m) m [(g,a)] (by simp) I hb (λp Y=>by rw[Py.mp Y];exact Z _ (by simp));have F:∀p∈ps,p.1<m.length/\p.2<m.length:=λp Y=>Z p (by simp[Y]);cases o with
  |none =>
   obtain⟨fs,m',k1,k2⟩:=Mz ps m hl I hb F;exact⟨_,m',.clash h2 (by lia) k1,k2⟩
  |some m1 =>
   obtain⟨t1,b1,O⟩:=h3 m1 rfl;obtain⟨r,U⟩:=t1 g (by rw[O];exact(Z (g,a) (by simp)).1);have ul:=Hi m1.length (fr λ_=>none);obtain⟨k,b,k1,k2⟩:=Zov t1 b1 (1+3*un m1.length (fr λ_=>none)) (λ_=>none) [r] (by simp) (λx hx=>by rw[Py.mp hx];exact U.lt);cases b with
   |false =>
    obtain⟨fs,m',j1,j2,j3,j4⟩:=Mz ps m1 (by lia) t1 b1 (by rw[O];exact F);exact⟨_,m',.ok h2 (by lia) U k2 (by lia) j1,j2,j3,by rw[j4,O]⟩
   |true =>
    obtain⟨fs,m',j1,j2⟩:=Mz ps m hl I hb F;exact⟨_,m',.loop h2 (by lia) U k2 (by lia) j1,j2⟩
structure JF (m m1:Af)(w:List (Nat×Nat)):Prop where
 tot:Cj m1
 len:m1.length=m.length
 f1:∀(i r r1:Nat),Last m i r->Last m1 r r1->Last m1 i r1
 f2:∀p∈w,∃r,Last m1 p.1 r/\Last m1 p.2 r
 f3:∀(x a b:Nat),m[x]?=some (.to a b)->eX3 λρ e f=>Last m1 x ρ/\m1[ρ]?=some (.to e f)/\(∃ra,Last m1 a ra/\Last m1 e ra)/\∃rb,Last m1 b rb/\Last m1 f rb
 f5:∀(ρ:Nat)(s:Sh),m1[ρ]?=some s->s.isSame=false->m[ρ]?=some s
 f6:∀C:Nat->Prop,(∀(r a b c:Nat),C r->m1[r]?=some (.to a b)->(Last m1 a c\/Last m1 b c)->C c)->(∀p∈w,∀r,Last m1 p.1 r->C r)->∀(i r:Nat),m[i]?≠m1[i]?->Last m1 i r->C r
theorem Zkq (ht:Cj m)(hb:Bd m):JF m m [] where
 tot:=ht
 len:=rfl
 f1:=λi r r1 h h1=>by
  obtain⟨s,O,ns⟩:=h.at;have:=h1.uniq (Eh O ns);rw[this];exact h
 f2:=λp Z=>by cases Z
 f3:=λx a b I=>by
  have b1:=hb x _ I;obtain⟨U,ha⟩:=ht a (b1 a (by simp[Sh.parts]));obtain⟨Y,F⟩:=ht b (b1 b (by simp[Sh.parts]));exact⟨x,a,b,Eh I rfl,I,⟨U,ha,ha⟩,Y,F,F⟩
 f5:=λρ s h _=>h
 f6:=λC _ _ i r h=>absurd rfl h
theorem Ot (hl:Last m p.1 l)(hr:Last m p.2 r)(hxy:(x=l/\y=r)\/(x=r/\y=l))(hx:m[x]?=some sx)(hxs:sx.isSame=false)(hy:m[y]?=some sy)(hys:sy.isSame=false)(ne:x≠y)(J:JF (m.set x (.same y)) m1 w')(hw:∀q∈w,q∈w')(h3:∀a b,sx=.to a b->∃c d,sy=.to c d/\(a,c)∈w'/\(b,d)∈w')(hn:∀q∈w',q∈w\/∃a b,sx=.to a b/\(q.1=a\/q.1=b)):JF m m1 (w++[p]):=by
 have Lx:Last (m.set x (.same y)) x y:=by
  have:=Zay hx hxs hy hys ne (Eh hx hxs);rwa[if_pos rfl]at this
 have al:y<m1.length:=by rw[J.len,Qp];exact(Pq.mp hy).1
 obtain⟨ρ,U⟩:=J.tot y al;have O:Last m1 x ρ:=J.f1 x y ρ Lx U;have f1:∀i r r1,Last m i r->Last m1 r r1->Last m1 i r1:=λi r' r1 h h1=>by
  have h':=Zay hx hxs hy hys ne h;by_cases e:r'=x
  ·rw[if_pos e]at h';subst e;have:r1=ρ:=h1.uniq O;rw[this];exact J.f1 i y ρ h' U
  ·rw[if_neg e]at h';exact J.f1 i r' r1 h' h1
 have Z:Last m1 p.1 ρ/\Last m1 p.2 ρ:=by
  rcases hxy with⟨rfl,rfl⟩|⟨rfl,rfl⟩
  ·exact⟨f1 _ _ _ hl O,f1 _ _ _ hr U⟩
  ·exact⟨f1 _ _ _ hl U,f1 _ _ _ hr O⟩
 have f3:∀x0 a b,m[x0]?=some (.to a b)->eX3 λρ e f=>Last m1 x0 ρ/\m1[ρ]?=some (.to e f)/\(∃ra,Last m1 a ra/\Last m1 e ra)/\∃rb,Last m1 b rb/\Last m1 f rb:=λx0 a b h=>by
  by_cases e:x0=x
  ·subst e;rw[hx]at h;have h:=Pz h;obtain⟨c,d,ai,ak,am⟩:=h3 a b h;have ag:(m.set x0 (.same y))[y]?=some (.to c d):=by rw[Dx ne.symm,hy,ai]
   obtain⟨F,e,f,k1,k2,⟨ra,k3,k4⟩,rb,k5,k6⟩:=J.f3 y c d ag;have:F=ρ:=k1.uniq U;subst this;obtain⟨an,a1,a2⟩:=J.f2 _ ak;obtain⟨aj,b1,b2⟩:=J.f2 _ am;have e1:an=ra:=a2.uniq k3;have e2:aj=rb:=b2.uniq k5;subst e1 e2;exact⟨F,e,f,O,k2,⟨_,a1,k4⟩,_,b1,k6⟩
  ·exact J.f3 x0 a b (by rw[Dx e];exact h)
 refine⟨J.tot,by rw[J.len,Qp],f1,λq I=>?_,f3,λF s h Y=>?_,λC hC hp i r' hi ae=>?_⟩
 ·rcases P3.mp I with I|I
  ·exact J.f2 q (hw q I)
  ·rw[Py.mp I];exact⟨ρ,Z⟩
 ·have h':=J.f5 F s h Y;by_cases e:F=x
  ·subst e;rw[Zb4 hx]at h';cases h';cases Y
  ·rwa[Dx e]at h'
 ·have aa:C ρ:=hp p (by simp) ρ Z.1;by_cases e:i=x
  ·subst e;rw[ae.uniq O];exact aa
  ·refine J.f6 C hC (λq I s Y=>?_) i r' (by rw[Dx e];exact hi) ae;rcases hn q I with I|⟨a,b,ah,I⟩
   ·exact hp q (by simp[I]) s Y
   ·obtain⟨F,e',f,k1,k2,⟨ra,k3,k4⟩,rb,k5,k6⟩:=f3 x a b (by rw[hx,ah]);have:F=ρ:=k1.uniq O;subst this;rcases I with I|I
    ·rw[I]at Y;rw[Y.uniq k3];exact hC F e' f ra aa k2 (.inl k4)
    ·rw[I]at Y;rw[Y.uniq k5];exact hC F e' f rb aa k2 (.inr k6)
theorem Mo (h:JoinN n m w o)(ho:o=some m1)(ht:Cj m)(hb:Bd m):JF m m1 w:=by
 induction h with
 |nil=>cases ho;exact Zkq ht hb
 | @eq n m w p l o h1 h2 t U =>
  have J:=U ho ht hb;refine⟨J.tot,J.len,J.f1,λq F=>?_,J.f3,J.f5,λC hC hp=>J.f6 C hC λq F=>hp q (by simp[F])⟩;rcases P3.mp F with F|F
  ·exact J.f2 q F
  ·rw[Py.mp F];obtain⟨ρ,ae⟩:=J.tot l (by rw[J.len];exact h1.lt);exact⟨ρ,J.f1 _ _ _ h1 ae,J.f1 _ _ _ h2 ae⟩
 | @anyR n m w p l r o h1 h2 ne I t U =>
  obtain⟨sl,O,aa⟩:=h1.at;exact Ot h1 h2 (.inr ⟨rfl,rfl⟩) I rfl O aa (λz=>ne z.symm) (U ho (Lw ht I rfl O aa (λz=>ne z.symm)) (Hh hb O)) (λq F=>F) (λa b e=>by cases e) (λq F=>.inl F)
 | @anyL n m w p l r sr o h1 h2 ne I hn O t U =>
  obtain⟨ag,Z,Y⟩:=h2.at;rw[I]at Z;cases Z;exact Ot h1 h2 (.inl ⟨rfl,rfl⟩) O rfl I Y ne (U ho (Lw ht O rfl I Y ne) (Hh hb I)) (λq F=>F) (λa b e=>by cases e) (λq F=>.inl F)
 | @to n m w p l r a b c d o h1 h2 ne O I t U =>
  refine Ot h1 h2 (.inl ⟨rfl,rfl⟩) O rfl I rfl ne (U ho (Lw ht O rfl I rfl ne) (Hh hb I)) (λq F=>by simp[F]) (λa' b' e=>by cases e;exact⟨c,d,rfl,by simp,by simp⟩) (λq F=>?_);rcases P3.mp F with F|F
  ·exact .inl F
  ·simp only[Pm,P6,or_false]at F;rcases F with rfl|rfl
   ·exact .inr ⟨a,b,rfl,.inl rfl⟩
   ·exact .inr ⟨a,b,rfl,.inr rfl⟩
 |clash=>cases ho
def Eg (m:Af)(b c:Nat):Prop:=∃s p,m[b]?=some s/\p∈s.parts/\Last m p c
theorem Zqs (h:Eu sh ps parts w (some w')):∃rs,w'=w++rs/\(∀r∈rs,ps r≠some false)/\∀p∈parts,∃r∈rs,Last sh p r:=by
 generalize ho:some w'=o at h
 induction h with
 |nil=>cases ho;exact⟨[],by simp,by simp,by simp⟩
 |hit=>cases ho
 | @go p r rest w o h h2 t I =>
  obtain⟨rs,Z,Y,O⟩:=I ho;refine⟨r::rs,by rw[Z];simp,λq F=>?_,λq F=>?_⟩
  ·rcases Pm.mp F with rfl|F
   ·exact h2
   ·exact Y q F
  ·rcases Pm.mp F with rfl|F
   ·exact⟨r,by simp,h⟩
   ·obtain⟨U,k1,k2⟩:=O q F;exact⟨U,by simp[k1],k2⟩
structure Gy (sh:Af)(ps:Ps)(w:List Nat):Prop where
 bl:∃(rk:Nat->Nat)(N:Nat),(∀b,ps b=some true->rk b<N)/\∀b c,ps b=some true->Eg sh b c->ps c=some true/\rk c<rk b
 gr:∀x,ps x=some false->∃w1 w2,w=w1++x::w2/\x ∉ w2/\∀c,Eg sh x c->ps c=some true\/c∈w2
theorem Zf1 {α:Type}{w w1 w2:List α}{top x:α}(h:w++[top]=w1++x::w2)(hx:x ∉ w2):(x=top/\w2=[])\/(x≠top/\∃w3,w2=w3++[top]/\w=w1++x::w3):=by
 rcases Sg w2 with rfl|⟨w3,z,rfl⟩
 ·have:=Rk h rfl;exact .inl ⟨by simpa using this.2.symm,rfl⟩
 ·rw[Si] at *
  have h':w++[top]=(w1++x::w3)++[z]:=by rw[h];simp
  have:=Rk h' rfl;have e:top=z:=by simpa using this.2
  subst e;exact .inr ⟨λe=>hx (by simp[e]),w3,rfl,this.1⟩
theorem Zsp (h:HoldsN sh n ps w b)(r0:Nat):b=false->Gy sh ps w->(r0∈w\/ps r0=some true)->∃(B:Nat->Prop)(rk:Nat->Nat),B r0/\∀b c,B b->Eg sh b c->B c/\rk c<rk b:=by
 induction h with
 | @nil ps =>
  intro _ g I;obtain⟨rk,N,h1,h2⟩:=g.bl;rcases I with I|I
  ·cases I
  ·exact⟨λb=>ps b=some true,rk,I,h2⟩
 | @seen n ps w top x b h t ih =>
  intro hb g I;have aa:Gy sh (Bl ps top true) w:=by
   have O:∀y,y≠top->∀{v},ps y=v->Bl ps top true y=v:=λy F v hv=>by unfold Bl;rw[if_neg F];exact hv
   have self:Bl ps top true top=some true:=by unfold Bl;rw[if_pos rfl]
   have mono:∀y,ps y=some true->Bl ps top true y=some true:=λy F=>by
    by_cases e:y=top
    ·rw[e];exact self
    ·exact O y e F
   refine⟨?_,λy F=>?_⟩
   ·obtain⟨rk,N,h1,h2⟩:=g.bl;cases x with
    |true =>
     have same:∀y,Bl ps top true y=some true->ps y=some true:=λy F=>by
      by_cases e:y=top
      ·rw[e];exact h
      ·unfold Bl at F;rwa[if_neg e]at F
     exact⟨rk,N,λb hb=>h1 b (same b hb),λb c hb hc=>⟨mono c (h2 b c (same b hb) hc).1,(h2 b c (same b hb) hc).2⟩⟩
    |false =>
     obtain⟨w1,w2,e1,e2,e3⟩:=g.gr top h;have ch:∀c,Eg sh top c->ps c=some true:=by
      rcases Zf1 e1 e2 with⟨_,rfl⟩|⟨e,_⟩
      ·intro c hc;rcases e3 c hc with k|k
       ·exact k
       ·cases k
      ·exact absurd rfl e
     have nt:∀y,y≠top->Bl ps top true y=some true->ps y=some true:=λy e F=>by unfold Bl at F;rwa[if_neg e]at F
     refine⟨λy=>if y=top then N else rk y,N+1,λb hb=>?_,λb c hb hc=>?_⟩
     ·show(if b=top then N else rk b)<N+1;by_cases e:b=top
      ·rw[if_pos e];lia
      ·rw[if_neg e];have:=h1 b (nt b e hb);lia
     ·have U:∀y,ps y=some true->y≠top:=λy F e=>by rw[e,h]at F;cases F
      show Bl ps top true c=some true/\(if c=top then N else rk c)<(if b=top then N else rk b);by_cases e:b=top
      ·rw[if_pos e];have k:=ch c (e ▸ hc);exact⟨mono c k,by rw[if_neg (U c k)];exact h1 c k⟩
      ·rw[if_neg e];obtain⟨k1,k2⟩:=h2 b c (nt b e hb) hc;exact⟨mono c k1,by rw[if_neg (U c k1)];exact k2⟩
   ·have e:y≠top:=λe=>by rw[e,self]at F;cases F
    have Y:ps y=some false:=by unfold Bl at F;rwa[if_neg e]at F
    obtain⟨w1,w2,e1,e2,e3⟩:=g.gr y Y;rcases Zf1 e1 e2 with⟨z,_⟩|⟨_,w3,rfl,k⟩
    ·exact absurd z e
    ·refine⟨w1,w3,k,λz=>e2 (by simp[z]),λc hc=>?_⟩;rcases e3 c hc with q|q
     ·exact .inl (mono c q)
     ·rcases P3.mp q with q|q
      ·exact .inr q
      ·rw[Py.mp q];exact .inl self
  refine ih hb aa ?_;rcases I with I|I
  ·rcases P3.mp I with I|I
   ·exact .inl I
   ·rw[Py.mp I];exact .inr (by unfold Bl;rw[if_pos rfl])
  ·refine .inr ?_;unfold Bl;by_cases e:r0=top
   ·rw[if_pos e]
   ·rw[if_neg e];exact I
 |hit=>intro hb;cases hb
 | @go n ps w w' top s b h hs hp t ih =>
  intro hb g I;obtain⟨rs,rfl,h1,h2⟩:=Zqs hp;have self:Bl ps top false top=some false:=by unfold Bl;rw[if_pos rfl]
  have O:∀y,y≠top->Bl ps top false y=ps y:=λy F=>by unfold Bl;rw[if_neg F]
  have U:∀y,ps y=some true->y≠top:=λy F e=>by rw[e,h]at F;cases F
  have Z:∀y,Bl ps top false y=some true->ps y=some true:=λy F=>by
   by_cases e:y=top
   ·rw[e,self]at F;cases F
   ·rwa[O y e]at F
  refine ih hb ⟨?_,λy F=>?_⟩ ?_
  ·obtain⟨rk,N,k1,k2⟩:=g.bl;exact⟨rk,N,λb hb=>k1 b (Z b hb),λb c hb hc=>by
    obtain⟨q1,q2⟩:=k2 b c (Z b hb) hc;exact⟨by rw[O c (U c q1)];exact q1,q2⟩⟩
  ·by_cases e:y=top
   ·subst e;refine⟨w,rs,by simp,λz=>h1 y z self,λc hc=>?_⟩;obtain⟨s',p,q1,q2,q3⟩:=hc;rw[hs]at q1;cases q1;obtain⟨r,k1,k2⟩:=h2 p q2;rw[q3.uniq k2];exact .inr k1
   ·have Y:=F;rw[O y e]at Y;obtain⟨w1,w2,e1,e2,e3⟩:=g.gr y Y;refine⟨w1,w2++rs,by rw[e1];simp,λz=>?_,λc hc=>?_⟩
    ·rcases P3.mp z with z|z
     ·exact e2 z
     ·exact h1 y z F
    ·rcases e3 c hc with q|q
     ·exact .inl (by rw[O c (U c q)];exact q)
     ·exact .inr (by simp[q])
  ·rcases I with I|I
   ·exact .inl (by
     rcases P3.mp I with I|I
     ·simp[I]
     ·simp[Py.mp I])
   ·exact .inr (by rw[O r0 (U r0 I)];exact I)
theorem Zto (h:HoldsN sh n (λ_=>none) [r0] false):∃(B:Nat->Prop)(rk:Nat->Nat),B r0/\∀b c,B b->Eg sh b c->B c/\rk c<rk b :=
 Zsp h r0 rfl ⟨⟨λ_=>0,0,λb hb=>(by cases hb),λb c hb=>(by cases hb)⟩,λx F=>(by cases F)⟩ (.inl (by simp))
def Fk (m:Af):Prop:=∃rk:Nat->Nat,∀b c,(∃s,m[b]?=some s/\s.isSame=false)->Eg m b c->rk c<rk b
theorem Ini.acy (h:Ini m):Fk m:=⟨λi=>i,λb c _ U=>by
 obtain⟨s,p,h1,h2,I⟩:=U;have hb:=(Pq.mp h1).1;cases s with
 |to x y =>
  have:=h.dn b x y h1;have O:p<b:=by
   simp only[Sh.parts,Pm,P6,or_false]at h2;rcases h2 with rfl|rfl <;> lia
  have F:=Pj (show p<m.length by lia);rw[I.uniq (Eh F (h.ns p _ F))];exact O
 |same k=>have:=h.ns b _ h1;cases this
 |num=>cases h2
 |truth=>cases h2
 |any=>cases h2⟩
noncomputable def mx (f:Nat->Nat):Nat->Nat
 |0=>0
 |n+1=>mx f n+f n+1
theorem Zen (f:Nat->Nat):∀(n i:Nat),i<n->f i<mx f n
 |0,i,h=>absurd h (Rv _)
 |n+1,i,h=>by
  show f i<mx f n+f n+1;by_cases e:i=n
  ·rw[e];lia
  ·have:=Zen f n i (by lia);lia
theorem Zh0 (h:JoinN n m w o):Bd m->∀m1,o=some m1->Bd m1:=by
 induction h with
 |nil=>intro hb m1 e;cases e;exact hb
 |eq _ _ _ F=>exact F
 | @anyR n m w p l r o h1 h2 ne I t F =>
  obtain⟨U,O,_⟩:=h1.at;exact λhb=>F (Hh hb O)
 |anyL h1 h2 ne I Y O t F=>exact λhb=>F (Hh hb I)
 |to h1 h2 ne O I t F=>exact λhb=>F (Hh hb I)
 |clash=>intro _ m1 e;cases e
theorem Zds (J:JF m m1 [(g,a)])(ht:Cj m)(hb:Bd m)(ha:Fk m)(l:Last m1 g r)(h:HoldsN m1 k (λ_=>none) [r] false):Fk m1:=by
 obtain⟨rk,aa⟩:=ha;obtain⟨B,O,h0,hB⟩:=Zto h;have ch:∀(i r':Nat),m[i]?≠m1[i]?->Last m1 i r'->B r':=J.f6 B (λx a b c hx h1 h2=>by
   refine(hB x c hx ?_).1;rcases h2 with h2|h2
   ·exact⟨_,a,h1,by simp[Sh.parts],h2⟩
   ·exact⟨_,b,h1,by simp[Sh.parts],h2⟩)
  (λp hp r' U=>by
   rw[Py.mp hp]at U;rw[U.uniq l];exact h0)
 classical
 refine⟨λv=>if B v then O v else mx O m1.length+rk v,λb c Z he=>?_⟩;show(if B c then O c else mx O m1.length+rk c)<(if B b then O b else mx O m1.length+rk b);by_cases kb:B b
 ·have:=hB b c kb he;rw[if_pos kb,if_pos this.1];exact this.2
 ·rw[if_neg kb];obtain⟨s,p,e1,e2,e3⟩:=he;by_cases kc:B c
  ·rw[if_pos kc];have:=Zen O m1.length c e3.lt;lia
  ·rw[if_neg kc];obtain⟨s',Y,q2⟩:=Z;have hs:m[b]?=some s:=by
    rw[e1]at Y;cases Y;exact J.f5 b s e1 q2
   obtain⟨c0,F⟩:=ht p (hb b s hs p e2);have k1:=aa b c0 ⟨s,hs,by rw[e1]at Y;cases Y;exact q2⟩ ⟨s,p,hs,e2,F⟩;obtain⟨r1,I⟩:=J.tot c0 (by rw[J.len];exact F.lt);have:r1=c:=(J.f1 p c0 r1 F I).uniq e3;subst this;have same:m[c0]?=m1[c0]?:=V8 λz=>kc (ch c0 r1 z I);obtain⟨s0,z1,z2⟩:=F.at;rw[same]at z1;rw[I.uniq (Eh z1 z2)];lia
theorem Zuz (h:FitG ps m fs m'):Cj m->Bd m->Fk m->Fk m':=by
 induction h with
 |nil=>exact λ_ _ h=>h
 |ok j I l h U t F =>
  intro O hb ha;have J:=Mo j rfl O hb;exact F J.tot (Zh0 j hb _ rfl) (Zds J O hb ha l h)
 |clash j I t F=>exact F
 |loop j I l h U t F=>exact F
theorem Mv (td:Td)(a b:Nat):C7 td [a,b]=(if (td a).isNone=true then [a] else [])++(if (td b).isNone=true then [b] else []):=by
 unfold C7;cases ha:(td a).isNone <;> cases hb:(td b).isNone <;> simp[List.filter,ha,hb]
noncomputable def Ck (td:Td):Nat->Bool:=λi=>(td i).isNone
theorem M6 (hr:r<N)(h:td r=none):un N (Ck (Ce td r k))+1=un N (Ck td) :=
 Lm N r _ _ hr (by unfold Ck;rw[h];rfl) (by unfold Ck Ce;rw[if_pos rfl];rfl) (λi hi=>by unfold Ck Ce;rw[if_neg hi])
theorem tell {sh:Af}{rk:Nat->Nat}(ht:Cj sh)(hb:Bd sh)(hrk:∀b c,(∃s,sh[b]?=some s/\s.isSame=false)->Eg sh b c->rk c<rk b):∀(k r:Nat),rk r<k->∀(x c:Nat)(td:Td)(w:List Nat)(A M:Nat),Last sh x r->td r=none ->
  (∀(td2:Td)(c2:Nat),(∀i,(td i).isSome=true->td2 i=td i)->(∀i,rk r<rk i->td2 i=td i)->(td2 r).isSome=true->∃n td',n+A<=M+3*un sh.length (Ck td2)/\ToldN sh n td2 c2 w td') ->
  ∃n td',n+A+1<=M+3*un sh.length (Ck td)/\ToldN sh n td c (w++[x]) td':=by
 intro k
 induction k with
 |zero=>exact λr h=>absurd h (Rv _)
 |succ k ih =>
  intro r hk x c td w A M hl F cont;obtain⟨s,Y,ns⟩:=hl.at;have put:∀(td:Td)(kd:Kd)(c2:Nat)(rs:List Nat),Lasts sh s.parts rs->td r=none->(∀(td2:Td)(c2:Nat),(∀i,(td i).isSome=true->td2 i=td i)->(∀i,rk r<rk i->td2 i=td i)->(td2 r).isSome=true->∃n td',n+A<=M+3*un sh.length (Ck td2)/\ToldN sh n td2 c2 w td') ->
    ∃n td',(n+1)+A+1<=M+3*un sh.length (Ck td)/\ToldN sh n (Ce td r kd) c2 (w++[x]) td':=λtd kd c2 rs hp F cont=>by
   have hu:=M6 (k:=kd) hl.lt F;have self:Ce td r kd r=some kd:=by unfold Ce;rw[if_pos rfl]
   obtain⟨n,td',h1,h2⟩:=cont (Ce td r kd) c2 (λi hi=>by
     unfold Ce;rw[if_neg λe=>by rw[e,F]at hi;cases hi]) (λi hi=>by
     unfold Ce;rw[if_neg λe=>by rw[e]at hi;lia]) (by rw[self];rfl)
   exact⟨n+1,td',by lia,.seen hl Y hp self h2⟩
  cases s with
  |any =>
   obtain⟨n,td',h1,h2⟩:=put td (.any c) (c+1) [] .nil F cont;exact⟨n+1,td',h1,.any hl Y .nil F h2⟩
  |num =>
   obtain⟨n,td',h1,h2⟩:=put td .num c [] .nil F cont;exact⟨n+1,td',h1,.mk hl Y .nil F rfl .num h2⟩
  |truth =>
   obtain⟨n,td',h1,h2⟩:=put td .truth c [] .nil F cont;exact⟨n+1,td',h1,.mk hl Y .nil F rfl .truth h2⟩
  |same q=>cases ns
  |to a b =>
   have bs:=hb r _ Y;obtain⟨Z,la⟩:=ht a (bs a (by simp[Sh.parts]));obtain⟨rb,lb⟩:=ht b (bs b (by simp[Sh.parts]));have ka:=hrk r Z ⟨_,Y,rfl⟩ ⟨_,a,Y,by simp[Sh.parts],la⟩;have kb:=hrk r rb ⟨_,Y,rfl⟩ ⟨_,b,Y,by simp[Sh.parts],lb⟩;have hp:Lasts sh (Sh.to a b).parts [Z,rb]:=.cons la (.cons lb .nil);have ah:Last sh Z Z:=let ⟨_,h1,h2⟩:=la.at;Eh h1 h2;have ag:Last sh rb rb:=let ⟨_,h1,h2⟩:=lb.at;Eh h1 h2;have fin:∀(td:Td)(c:Nat),td r=none->(td Z).isSome=true->(∀(td2:Td)(c2:Nat),(∀i,(td i).isSome=true->td2 i=td i)->(∀i,rk r<rk i->td2 i=td i)->(td2 r).isSome=true->∃n td',n+A<=M+3*un sh.length (Ck td2)/\ToldN sh n td2 c2 w td')->∃n td',n+A+1<=M+3*un sh.length (Ck td)/\ToldN sh n td c (w++[x]) td':=λtd c F U cont=>by
    obtain⟨xa,I⟩:=Rz.mp U;have aa:∀(td:Td)(c:Nat),td r=none->(td Z).isSome=true->(td rb).isSome=true->(∀(td2:Td)(c2:Nat),(∀i,(td i).isSome=true->td2 i=td i)->(∀i,rk r<rk i->td2 i=td i)->(td2 r).isSome=true->∃n td',n+A<=M+3*un sh.length (Ck td2)/\ToldN sh n td2 c2 w td')->∃n td',n+A+1<=M+3*un sh.length (Ck td)/\ToldN sh n td c (w++[x]) td':=λtd c F U ai cont=>by
     obtain⟨xa,I⟩:=Rz.mp U;obtain⟨xb,O⟩:=Rz.mp ai;obtain⟨n,td',h1,h2⟩:=put td (.to xa xb) c _ hp F cont;exact⟨n+1,td',h1,.mk hl Y hp F (by rw[Mv,I,O];rfl) (.to I O) h2⟩
    cases O:td rb with
    |some xb=>exact aa td c F U (by rw[O];rfl) cont
    |none =>
     obtain⟨n,td',h1,h2⟩:=ih rb (by lia) rb c td (w++[x]) (A+1) M ag O λtd2 c2 g1 g2 g3=>by
      obtain⟨n,td',j1,j2⟩:=aa td2 c2 (by rw[g2 r kb];exact F) (by rw[g1 Z U];exact U) g3 λae c3 f1 f2 f3 =>
       cont ae c3 (λi hi=>by rw[f1 i (by rw[g1 i hi];exact hi),g1 i hi]) (λi hi=>by rw[f2 i hi,g2 i (by lia)]) f3
      exact⟨n,td',by lia,j2⟩
     exact⟨n+1,td',by lia,.miss hl Y hp F (by rw[Mv,I,O];rfl) h2⟩
   cases I:td Z with
   |some xa=>exact fin td c F (by rw[I];rfl) cont
   |none =>
    obtain⟨n,td',h1,h2⟩:=ih Z (by lia) Z c td (w++[x]) (A+1) M ah I λtd2 c2 g1 g2 g3=>by
     obtain⟨n,td',j1,j2⟩:=fin td2 c2 (by rw[g2 r ka];exact F) g3 λae c3 f1 f2 f3 =>
      cont ae c3 (λi hi=>by rw[f1 i (by rw[g1 i hi];exact hi),g1 i hi]) (λi hi=>by rw[f2 i hi,g2 i (by lia)]) f3
     exact⟨n,td',by lia,j2⟩
    exact⟨n+1,td',by lia,.miss hl Y hp F (by rw[Mv,I];rfl) h2⟩
theorem Zif (ht:Cj sh)(hb:Bd sh)(ha:Fk sh):∀(k:Nat)(w:List Nat),w.length=k->(∀x∈w,x<sh.length)->∀(td:Td)(c:Nat),∃n td',n<=w.length+3*un sh.length (Ck td)/\ToldN sh n td c w td':=by
 obtain⟨rk,ae⟩:=ha;intro k
 induction k with
 |zero =>
  intro w O _ td c;have:w=[]:=Re O;subst this;exact⟨0,td,P8 _,.nil⟩
 |succ k Y =>
  intro w O hx td c;rcases Sg w with rfl|⟨w1,x,rfl⟩
  ·cases O
  rw[Si]at O hx ⊢;rw[Pr,Qg]at O ⊢;have I:∀y∈w1,y<sh.length:=λy hy=>hx y (by simp[hy]);obtain⟨r,Z⟩:=ht x (hx x (by simp));cases e:td r with
  |some kd =>
   obtain⟨n,td',h1,h2⟩:=Y w1 (by lia) I td c;obtain⟨s,hs,ns⟩:=Z.at;have lp:∀ps:List Nat,(∀p∈ps,p<sh.length)->∃U,Lasts sh ps U:=λps=>by
    induction ps with
    |nil=>exact λ_=>⟨[],.nil⟩
    |cons p ps Y =>
     intro hp;obtain⟨q,hq⟩:=ht p (hp p (by simp));obtain⟨U,F⟩:=Y λz hz=>hp z (by simp[hz]);exact⟨q::U,.cons hq F⟩
   obtain⟨U,F⟩:=lp s.parts (hb r s hs);exact⟨n+1,td',by lia,.seen Z hs F e h2⟩
  |none =>
   obtain⟨n,td',h1,h2⟩:=tell ht hb ae (rk r+1) r (Tg _) x c td w1 0 w1.length Z e λaa c2 _ _ _=>by
    obtain⟨n,td',j1,j2⟩:=Y w1 (by lia) I aa c2;exact⟨n,td',by lia,j2⟩
   exact⟨n,td',by lia,h2⟩
theorem Nd (h:ToldN sh n td c w td'):(∀i k,td i=some k->td' i=some k)/\∀x∈w,∃r k,Last sh x r/\td' r=some k:=by
 have st:∀{td td':Td}{r:Nat}{k:Kd},td r=none->(∀i U,Ce td r k i=some U->td' i=some U)->∀i k,td i=some k->td' i=some k:=λ{td td' r k} hr h i U hi=>h i U (by
  unfold Ce;rw[if_neg λe=>by rw[e,hr]at hi;cases hi];exact hi)
 induction h with
 |nil=>exact⟨λ_ _ h=>h,λx hx=>by cases hx⟩
 | @seen n c x r td td' w rs s k O Z Y h t I =>
  refine⟨I.1,λy F=>?_⟩;rcases P3.mp F with F|F
  ·exact I.2 y F
  ·rw[Py.mp F];exact⟨r,k,O,I.1 r k h⟩
 |miss O Z Y h hm t I=>exact⟨I.1,λy F=>I.2 y (by simp at F ⊢;rcases F with F|F <;> simp[F])⟩
 |any O Z Y h t I=>exact⟨st h I.1,λy F=>I.2 y F⟩
 |mk O Z Y h hm hk t I=>exact⟨st h I.1,λy F=>I.2 y F⟩
theorem Zhk:∀(ps:List (Nat×Nat))(x:Nat),x∈flat ps->∃p∈ps,x=p.1\/x=p.2
 |[],x,h=>by cases h
 |p::ps,x,h=>by
  have h:x∈[p.1,p.2]++flat ps:=h;rcases P3.mp h with h|h
  ·simp only[Pm,P6,or_false]at h;exact⟨p,by simp,h⟩
  ·obtain⟨q,h1,h2⟩:=Zhk ps x h;exact⟨q,by simp[h1],h2⟩
theorem J7 {α β:Type}{R:α->β->Prop}:∀(xs:List α),(∀x∈xs,∃y,R x y)->∃ys:List β,ys.length=xs.length/\∀(j:Nat)(x:α)(y:β),xs[j]?=some x->ys[j]?=some y->R x y
 |[],_=>⟨[],rfl,λj x y h=>by cases h⟩
 |x::xs,h=>by
  obtain⟨y,I⟩:=h x (by simp);obtain⟨ys,h1,h2⟩:=J7 xs λz F=>h z (by simp[F]);refine⟨y::ys,by rw[Pw,Pw,h1],λj a b ha hb=>?_⟩
  match j,ha,hb with
  |0,ha,hb=>cases ha;cases hb;exact I
  |j+1,ha,hb=>exact h2 j a b (by simpa using ha) (by simpa using hb)
theorem Zn0 (h:AT t)(hs:t.size<=40):∃ks fs,K7 t ks fs:=by
 obtain⟨ps,I,Y⟩:=Zp4 h;obtain⟨i1,i2,Z,i4⟩:=Zbo Y ⟨λi s hi=>by
   match i,hi with
   |0,hi=>cases hi;rfl
   |1,hi=>cases hi;rfl,λi a b hi=>by
   match i,hi with
   |0,hi=>cases hi
   |1,hi=>cases hi⟩ (Pk _) (λq k O=>by cases O) (λq e s k O hs=>by
   by_cases z:q=[]
   ·rw[if_pos z]at O;cases O;cases hs
   ·rw[if_neg z]at O;cases O)
 rw[D5]at Z;have Z:I.length<=2+3*t.size:=Z;obtain⟨fs,F,hf,t2,b2,l2⟩:=Mz ps I (by lia) i1.tot i1.bd i4;have a2:=Zuz hf i1.tot i1.bd i1.acy;have aa:ps.length=t.size:=by rw[Y.len,D5]
 obtain⟨N,U,n1,n2⟩:=Zif t2 b2 a2 _ (flat ps).reverse rfl (λx hx=>by
  obtain⟨p,h1,h2⟩:=Zhk ps x (by simpa using hx);have:=i4 p h1;rw[l2];rcases h2 with rfl|rfl <;> lia) (λ_=>none) 0
 have ul:=Hi F.length (Ck λ_=>none);rw[Ub,Kr]at n1;obtain⟨ks,k1,k2⟩:=J7 (R:=λx k=>∃r,Last F x r/\U r=some k) (flat ps) λx hx=>by
  obtain⟨r,k,h1,h2⟩:=(Nd n2).2 x (by simpa using hx);exact⟨k,r,h1,h2⟩
 exact⟨ks,fs,ps,I,F,N,U,Y,hf,n2,by lia,k1,k2⟩
def KdOf (m:Af)(td:Td)(x:Nat)(k:Kd):Prop:=∃r,Last m x r/\td r=some k
inductive MdOk (m:Af)(td:Td):Sh->Kd->Prop where
 |num:MdOk m td .num .num
 |truth:MdOk m td .truth .truth
 |any {c:Nat}:MdOk m td .any (.any c)
 |to {a b:Nat} {x y:Kd} (h1:KdOf m td a x) (h2:KdOf m td b y):MdOk m td (.to a b) (.to x y)
def Gn (m:Af)(td:Td):Prop:=∀r k,td r=some k->∃s,m[r]?=some s/\MdOk m td s k
theorem KdOf.more (h:KdOf m td x k)(e:∀i k,td i=some k->td' i=some k):KdOf m td' x k:=let ⟨r,h1,h2⟩:=h;⟨r,h1,e _ _ h2⟩
theorem MdOk.more (h:MdOk m td s k)(e:∀i k,td i=some k->td' i=some k):MdOk m td' s k:=by
 cases h with
 |num=>exact .num
 |truth=>exact .truth
 |any=>exact .any
 |to h1 h2=>exact .to (h1.more e) (h2.more e)
theorem M8 (h:td r=none):∀i k',td i=some k'->Ce td r k i=some k':=λi k' hi=>by
 show(if i=r then some k else td i)=some k';rw[if_neg (λz=>by rw[z,h]at hi;cases hi)];exact hi
theorem Nj (h:Gn m td)(hr:td r=none)(hs:m[r]?=some s)(hk:MdOk m td s k):Gn m (Ce td r k):=λi F hi=>by
 have hi:(if i=r then some k else td i)=some F:=hi;by_cases z:i=r
 ·rw[if_pos z]at hi;cases hi;exact⟨s,by rw[z];exact hs,hk.more (M8 hr)⟩
 ·rw[if_neg z]at hi;obtain⟨s',h1,h2⟩:=h i F hi;exact⟨s',h1,h2.more (M8 hr)⟩
theorem Zhj (h:ToldN sh n td c w td'):Gn sh td->Gn sh td':=by
 induction h with
 |nil=>exact id
 |seen _ _ _ _ _ F=>exact F
 |miss _ _ _ _ _ _ F=>exact F
 |any hl O I h t F=>exact λg=>F (Nj g h O .any)
 |mk hl O I h hm Y t F =>
  refine λg=>F (Nj g h O ?_);cases Y with
  |num=>exact .num
  |truth=>exact .truth
  |to hx Z =>
   cases I with
   |cons U I =>
    cases I with
    |cons l2 _=>exact .to ⟨_,U,hx⟩ ⟨_,l2,Z⟩
theorem Zq5 {n:Nat}{m:Af}{w:List (Nat×Nat)}{o:Option Af}(h:JoinN n m w o){x:Nat}{s:Sh}(hs:s=.num\/s=.truth):m[x]?=some s->∀m1,o=some m1->m1[x]?=some s:=by
 have I:s≠.any:=by rcases hs with rfl|rfl <;> intro z <;> cases z
 have O:∀a b,s≠.to a b:=λa b=>by rcases hs with rfl|rfl <;> intro z <;> cases z
 induction h with
 |nil=>intro h m1 e;cases e;exact h
 |eq _ _ _ F=>exact F
 |anyR _ _ _ Y _ F=>exact λh=>F (by rw[Dx (λz=>I (by rw[z,Y]at h;exact(Pz h).symm))];exact h)
 |anyL _ _ _ _ _ U _ F=>exact λh=>F (by rw[Dx (λz=>I (by rw[z,U]at h;exact(Pz h).symm))];exact h)
 |to _ _ _ U _ _ F=>exact λh=>F (by rw[Dx (λz=>O _ _ (by rw[z,U]at h;exact(Pz h).symm))];exact h)
 |clash=>intro _ m1 e;cases e
structure Keep (m m':Af):Prop where
 tot:Cj m'
 bd:Bd m'
 k0:∀(x:Nat)(s:Sh),s=.num\/s=.truth->m[x]?=some s->m'[x]?=some s
 k1:∀(i j r:Nat),Last m i r->Last m j r->∃r',Last m' i r'/\Last m' j r'
 k3:∀(x a b:Nat),m[x]?=some (.to a b)->eX3 λρ e f=>Last m' x ρ/\m'[ρ]?=some (.to e f)/\(∃ra,Last m' a ra/\Last m' e ra)/\∃rb,Last m' b rb/\Last m' f rb
theorem Zdt (h:JoinN n m w (some m1))(ht:Cj m)(hb:Bd m):Keep m m1:=by
 have J:=Mo h rfl ht hb;refine⟨J.tot,Zh0 h hb _ rfl,λx s F e=>Zq5 h F e _ rfl,λi j r h1 h2=>?_,J.f3⟩;obtain⟨s,F,_⟩:=h1.at;obtain⟨O,I⟩:=J.tot r (by rw[J.len];exact h1.lt);exact⟨O,J.f1 _ _ _ h1 I,J.f1 _ _ _ h2 I⟩
mutual
inductive Jd:Tr->Af->Ev->Option Nat->List (Nat×Nat)->Af->Prop where
 |mk {w:Str} {n:Dt} {ts:List Tr} {sh sh':Af} {e:Ev} {a:Option Nat} {ps:List (Nat×Nat)} (hs:C0 w n) (hl:ts.length=Df w)
   (k:Gk 0 ts (sh++(Az sh.length w).2.2.2) (λj=>Cv e (nb w n j) (Az sh.length w).2.2.1) (λj=>(Az sh.length w).2.1[j]?) ps sh'):Jd (.mk w n ts) sh e a ((Dd sh.length w n e,a.getD (Dd sh.length w n e))::ps) sh'
inductive Gk:Nat->List Tr->Af->(Nat->Ev)->(Nat->Option Nat)->List (Nat×Nat)->Af->Prop where
 |nil {i:Nat} {sh:Af} {f:Nat->Ev} {d:Nat->Option Nat}:Gk i [] sh f d [] sh
 |cons {i:Nat} {t:Tr} {ts:List Tr} {sh sh1 sh2:Af} {f:Nat->Ev} {d:Nat->Option Nat} {ps1 ps2:List (Nat×Nat)} (h:Jd t sh (f i) (d i) ps1 sh1) (k:Gk (i+1) ts sh1 f d ps2 sh2):Gk i (t::ts) sh f d (ps1++ps2) sh2
end
theorem Zhn (pl q:List Nat)(h:∀j,q≠pl++[j]):∀(xs:List Nat)(D:Dn)(i:Nat),Db D pl i xs q=D q
 |[],D,i=>rfl
 |x::r,D,i=>by
  rw[Db,Zhn pl q h r _ (i+1)];exact if_neg (h i)
theorem Zg6 (pl:List Nat):∀(xs:List Nat)(D:Dn)(i j:Nat),i<=j->j<i+xs.length->Db D pl i xs (pl++[j])=xs[j-i]?
 |[],D,i,j,h,h'=>absurd h' (by simp;lia)
 |x::r,D,i,j,h,h'=>by
  rw[Db];by_cases z:j=i
  ·subst z;have F:∀(xs:List Nat)(D:Dn)(i:Nat),j<i->Db D pl i xs (pl++[j])=D (pl++[j]):=by
    intro xs
    induction xs with
    |nil=>intro D i _;rfl
    |cons y s I =>
     intro D i hi;rw[Db,I _ _ (by lia)];exact if_neg λe=>by simp at e;lia
   rw[F r _ (j+1) (by lia),Sf];exact if_pos rfl
  ·rw[Zg6 pl r _ (i+1) j (by lia) (by rw[Pw]at h';lia),show j-i=(j-(i+1))+1 by lia];rfl
mutual
theorem Zhm:∀(t:Tr)(pl:List Nat)(sh:Af)(D:Dn)(A:An)(rest:List (List Nat×Tr))(ps:List (Nat×Nat))(sh':Af),KinG (walk pl t++rest) sh D A ps sh'->AT t ->
  eX6 λps1 ps2 sh1 D1 A1 e=>ps=ps1++ps2/\A pl=some e/\Jd t sh e (D pl) ps1 sh1/\KinG rest sh1 D1 A1 ps2 sh'/\∀q,(∀j,¬pl++[j] <+: q)->D1 q=D q/\A1 q=A q
 |.mk w n ts,pl,sh,D,A,rest,ps,sh',k,h=>by
  rw[walk,Ru]at k;cases h with
  |mk hw Z h =>
  cases k with
  | @cons _ _ _ _ _ _ _ _ _ e aa hA F k =>
  obtain⟨ps1,ps2,sh1,D1,A1,h1,h2,h3,Y⟩:=Zfj ts pl 0 _ _ _ rest _ _ k h (λj=>Cv e (nb w n j) (Az sh.length w).2.2.1) (λj=>(Az sh.length w).2.1[j]?) (λj _ hj=>by
   have e1:=Zdw sh.length w;exact⟨Zcw _ _ _ _ _ (by lia),Zg6 pl _ _ 0 j (P8 _) (by lia)⟩)
  refine⟨_::ps1,ps2,sh1,D1,A1,e,by rw[h1];rfl,hA,.mk F Z h2,h3,λq I=>?_⟩;have O:∀j,q≠pl++[j]:=λj z=>I j (by rw[z];exact Qz);obtain⟨U,q2⟩:=Y q λj _=>I j;exact⟨by rw[U];exact Zhn pl q O _ _ _,by rw[q2];exact Zbh A pl _ q O _⟩
theorem Zfj:∀(ts:List Tr)(pl:List Nat)(i:Nat)(sh:Af)(D:Dn)(A:An)(rest:List (List Nat×Tr))(ps:List (Nat×Nat))(sh':Af),KinG (Br pl i ts++rest) sh D A ps sh'->(∀t∈ts,AT t) ->
  ∀(f:Nat->Ev)(d:Nat->Option Nat),(∀j,i<=j->j<i+ts.length->A (pl++[j])=some (f j)/\D (pl++[j])=d j)->eX5 λps1 ps2 sh1 D1 A1=>ps=ps1++ps2/\Gk i ts sh f d ps1 sh1/\KinG rest sh1 D1 A1 ps2 sh'/\∀q,(∀j,i<=j->¬pl++[j] <+: q)->D1 q=D q/\A1 q=A q
 |[],pl,i,sh,D,A,rest,ps,sh',k,h,f,d,hd=>⟨[],ps,sh,D,A,rfl,.nil,k,λq _=>⟨rfl,rfl⟩⟩
 |t::ts,pl,i,sh,D,A,rest,ps,sh',k,h,f,d,hd=>by
  rw[Br,Qi]at k;obtain⟨ps1,ps2,sh1,D1,A1,e,h1,h2,h3,h4,U⟩:=Zhm t (pl++[i]) sh D A _ ps sh' k (h t (by simp));have hi:=hd i (Pk _) (by rw[Pw];lia);rw[hi.1]at h2;cases h2;rw[hi.2]at h3;obtain⟨I,F,O,D2,A2,g1,g2,g3,g4⟩:=Zfj ts pl (i+1) sh1 D1 A1 rest ps2 sh' h4 (λu hu=>h u (by simp[hu])) f d λj hj aa=>by
   have hx:=hd j (by lia) (by rw[Pw];lia);have Y:=U (pl++[j]) λj' z=>by
    obtain⟨s,hs⟩:=z;have:=congrArg Qx hs;simp at this
   exact⟨by rw[Y.2];exact hx.1,by rw[Y.1];exact hx.2⟩
  refine⟨ps1++I,F,O,D2,A2,by rw[h1,g1,Qi],.cons h3 g2,g3,λq Z=>?_⟩;obtain⟨q1,q2⟩:=g4 q λj hj=>Z j (by lia);obtain⟨q3,q4⟩:=U q λj z=>Z i (Pk _) ((Rj _ _).trans z);exact⟨by rw[q1,q3],by rw[q2,q4]⟩
end
mutual
theorem Zeq:∀(t:Tr)(pl:List Nat)(sh:Af)(e:Ev)(a:Option Nat)(ps:List (Nat×Nat))(sh':Af),Jd t sh e a ps sh'->ps.length=(walk pl t).length/\sh <+: sh'
 |.mk w n ts,pl,sh,e,a,ps,sh',h=>by
  cases h with
  |mk _ _ k =>
  obtain⟨h1,h2⟩:=Zev ts pl 0 _ _ _ _ _ k;exact⟨by rw[walk,Pw,Pw,h1],(Rj _ _).trans h2⟩
theorem Zev:∀(ts:List Tr)(pl:List Nat)(i:Nat)(sh:Af)(f:Nat->Ev)(d:Nat->Option Nat)(ps:List (Nat×Nat))(sh':Af),Gk i ts sh f d ps sh'->ps.length=(Br pl i ts).length/\sh <+: sh'
 |[],pl,i,sh,f,d,ps,sh',h=>by cases h;exact⟨rfl,Qz⟩
 |t::ts,pl,i,sh,f,d,ps,sh',h=>by
  cases h with
  |cons h k =>
  obtain⟨h1,h2⟩:=Zeq t (pl++[i]) _ _ _ _ _ h;obtain⟨I,F⟩:=Zev ts pl (i+1) _ _ _ _ _ k;exact⟨by rw[Br,Pr,Pr,h1,I],h2.trans F⟩
end
noncomputable abbrev Rf:=List Nat->Option (Kd×Option Kd×Str)
noncomputable def Cd (ar:List (Str×Kd))(s:Str):Option Kd:=ar.foldl (λo p=>if p.1=s then some p.2 else o) none
noncomputable def Os:Kd->Kd
 |.to x _=>x
 |k=>k
noncomputable def Gr (w:Str)(h:Kd)(ws:List Kd):List Kd:=if w="let" then [ws.getD 0 .num] else if w="fn" then [Os h] else if w="rec" then [h,Os h] else []
noncomputable def Ew (w:Str)(n:Dt)(h:Kd)(j:Nat)(ws:List Kd)(ar:List (Str×Kd)):List (Str×Kd):=ar++(nb w n j).zip (Gr w h ws)
noncomputable def Ec:List Str:=["gap","odd","num","truth","name","plus","minus","less","if","call","let","fn","rec"]
inductive WT:Tr->Prop where
 |mk {w:Str} {n:Dt} {ts:List Tr} (hw:w∈Ec) (h:∀t∈ts,WT t):WT (.mk w n ts)
structure Zg5 (w:Str)(n:Dt)(h:Kd)(ar:List (Str×Kd)):Prop where
 num:w="num" -> h=.num
 truth:w="truth" -> h=.truth
 name:w="name" -> Cd ar (Cz n)=none\/Cd ar (Cz n)=some h
inductive F8:Str->Kd->List Kd->Prop where
 |nil {w:Str} {h:Kd} (hw:w∈(["gap","odd","num","truth","name"]:List Str)):F8 w h []
 |plus {w:Str} (hw:w="plus"\/w="minus"):F8 w .num [.num,.num]
 |less:F8 "less" .truth [.num,.num]
 |ite {h:Kd}:F8 "if" h [.truth,h,h]
 |call {h x:Kd}:F8 "call" h [.to x h,x]
 |lt {h x:Kd}:F8 "let" h [x,h]
 |fn {w:Str} {x y:Kd} (hw:w="fn"\/w="rec"):F8 w (.to x y) [y]
theorem Zcb (ar:List (Str×Kd))(x s:Str)(k:Kd):Cd (ar++[(x,k)]) s=if x=s then some k else Cd ar s:=by unfold Cd;rw[R8];rfl
theorem Zja {m:Nat}{w:Str}{n:Dt}{e:Ev}(h:w≠"name"):Dd m w n e=(Az m w).1:=if_neg h
mutual
theorem Zet:∀(t:Tr)(pl:List Nat),∀x∈walk pl t,pl <+: x.1
 |.mk w n ts,pl=>λx F=>by
  rw[walk]at F;rcases Pm.mp F with rfl|F
  ·exact Qz
  ·obtain⟨j,_,h⟩:=Nm ts pl 0 x F;exact(Rj _ _).trans h
theorem Nm:∀(ts:List Tr)(pl:List Nat)(i:Nat),∀x∈Br pl i ts,∃j,i<=j/\pl++[j] <+: x.1
 |[],pl,i=>λx F=>by rw[Br]at F;cases F
 |t::ts,pl,i=>λx F=>by
  rw[Br]at F;rcases P3.mp F with F|F
  ·exact⟨i,Pk _,Zet t (pl++[i]) x F⟩
  ·obtain⟨j,h1,h2⟩:=Nm ts pl (i+1) x F;exact⟨j,by lia,h2⟩
end
theorem Zn6 (h:pl++[i] <+: q)(g:pl++[j] <+: q):i=j:=by
 obtain⟨r,I⟩:=h;obtain⟨s,F⟩:=g;rw[Qi]at I F;have:=List.append_cancel_left (I.trans F.symm);injection this
mutual
theorem Zbg:∀(t:Tr)(pl:List Nat),((walk pl t).map (·.1)).Nodup
 |.mk w n ts,pl=>by
  rw[walk,Q3];refine Sb.mpr ⟨λh=>?_,Zi0 ts pl 0⟩;obtain⟨x,I,e⟩:=Q7.mp h;obtain⟨j,_,s,F⟩:=Nm ts pl 0 x I;have:x.1=pl:=e;rw[this]at F;have:=congrArg Qx F;simp at this
theorem Zi0:∀(ts:List Tr)(pl:List Nat)(i:Nat),((Br pl i ts).map (·.1)).Nodup
 |[],pl,i=>by rw[Br];exact Vq
 |t::ts,pl,i=>by
  rw[Br,Qv];refine List.nodup_append.mpr ⟨Zbg t (pl++[i]),Zi0 ts pl (i+1),λa ha b hb e=>?_⟩;obtain⟨x,Y,I⟩:=Q7.mp ha;obtain⟨y,O,U⟩:=Q7.mp hb;have h1:=Zet t (pl++[i]) x Y;obtain⟨j,Z,h2⟩:=Nm ts pl (i+1) y O;have F:x.1=y.1:=I.trans (e.trans U.symm);rw[F]at h1;have:=Zn6 h1 h2;lia
end
noncomputable def RG (rows:List Rw):Rf:=rows.foldl (λR r=>λq=>if q=r.1 then some r.2 else R q) λ_=>none
theorem Zfa (q:List Nat):∀(more:List Rw)(R:Rf),(∀r∈more,r.1≠q)->more.foldl (λR r=>λq=>if q=r.1 then some r.2 else R q) R q=R q
 |[],R,_=>rfl
 |r::more,R,h=>by
  rw[Sd,Zfa q more _ λx F=>h x (Qo _ F)];exact if_neg λe=>h r (by simp) e.symm
theorem Zqr {rows:List Rw}{i:Nat}{r:Rw}(h:rows[i]?=some r)(nd:(rows.map (·.1)).Nodup):RG rows r.1=some r.2:=by
 obtain⟨hi,O⟩:=Pq.mp h;have e:rows=rows.take i++r::rows.drop (i+1):=by rw[<- O,<- Rn hi,Wa]
 rw[e]at nd ⊢;rw[Qv,Q3]at nd;have n2:=(List.nodup_append.mp nd).2.1;have I:=(Sb.mp n2).1;unfold RG;rw[R8,Sd,Zfa r.1 _ _ λx F z=>I (by rw[<- z];exact List.mem_map_of_mem F)];exact if_pos rfl
theorem Zh3:∀{ps:List (Nat×Nat)}{i:Nat}{p:Nat×Nat},ps[i]?=some p->(flat ps)[2*i]?=some p.1/\(flat ps)[2*i+1]?=some p.2
 |[],i,p,h=>by simp at h
 |x::ps,0,p,h=>by cases h;exact⟨rfl,rfl⟩
 |x::ps,i+1,p,h=>by
  obtain⟨h1,h2⟩:=Zh3 (ps:=ps) (i:=i) (p:=p) h;exact⟨h1,h2⟩
noncomputable def Bz:Kd->Nat
 |.to x y=>max (Bz x) (Bz y)+1
 |_=>0
noncomputable def F0:Kd->Dt
 |.num=>.tup [.flat (.str "num")]
 |.truth=>.tup [.flat (.str "truth")]
 |.any n=>.tup [.flat (.str "any"),.flat (.int (n:Nat))]
 |.to x y=>.tup [.flat (.str "to"),F0 x,F0 y]
theorem KdAt.d (h:KdAt K H v k):IsD K H (Bz k+1) v (F0 k):=by
 induction h with
 |num q =>
  refine .tup q rfl λj v d h h'=>?_
  match j,h,h' with
  |0,h,h'=>cases h;cases h';exact .flat rfl
 |truth q =>
  refine .tup q rfl λj v d h h'=>?_
  match j,h,h' with
  |0,h,h'=>cases h;cases h';exact .flat rfl
 |any q =>
  refine .tup q rfl λj v d h h'=>?_
  match j,h,h' with
  |0,h,h'=>cases h;cases h';exact .flat rfl
  |1,h,h'=>cases h;cases h';exact .flat rfl
 | @to a u v x y q U O F I =>
  refine .tup q rfl λj v d h h'=>?_
  match j,h,h' with
  |0,h,h'=>cases h;cases h';exact .flat rfl
  |1,h,h'=>cases h;cases h';exact F.up (Nat.succ_le_succ (Nat.le_max_left _ _))
  |2,h,h'=>cases h;cases h';exact I.up (Nat.succ_le_succ (Nat.le_max_right _ _))
theorem KdAt.ref (h:KdAt K H v k):∃a,v=.ref a:=by cases h <;> exact⟨_,rfl⟩
def Mx (N:Nat)(td:Td):Prop:=∀r k,td r=some k->Bz k+un N (Ck td)<=N
theorem Zg7 (h:Mx N td)(hr:r<N)(hn:td r=none)(hk:Bz k+un N (Ck td)<=N+1):Mx N (Ce td r k):=λi F hi=>by
 have e:=M6 (k:=k) hr hn;have hi:(if i=r then some k else td i)=some F:=hi;by_cases z:i=r
 ·rw[if_pos z]at hi;cases hi;lia
 ·rw[if_neg z]at hi;have:=h i F hi;lia
theorem Zpw (h:ToldN sh n td c w td'):Mx sh.length td->Mx sh.length td':=by
 induction h with
 |nil=>exact id
 |seen _ _ _ _ _ F=>exact F
 |miss _ _ _ _ _ _ F=>exact F
 | @any n c x r td td' w O I hs Z h t F =>
  refine λg=>F (Zg7 g I.lt h ?_);have:=Hi sh.length (Ck td);show 0+_<=_;lia
 | @mk n c x r td td' w O s k I hs Z h hm U t F =>
  refine λg=>F (Zg7 g I.lt h ?_);have:=Hi sh.length (Ck td);cases U with
  |num=>show 0+_<=_;lia
  |truth=>show 0+_<=_;lia
  |to hx Y =>
   have:=g _ _ hx;have:=g _ _ Y;show max _ _+1+_<=_;lia
theorem Zg1 (h:FitG ps m fs m'):Cj m->Bd m->m'.length=m.length:=by
 induction h with
 |nil=>exact λ_ _=>rfl
 |ok j I l h U t F =>
  intro O hb;have k:=Zdt j O hb;rw[F k.tot k.bd];exact(Mo j rfl O hb).len
 |clash j I t F=>exact F
 |loop j I l h U t F=>exact F
def RDp (R:Rf):Prop:=∀q r,R q=some r->Bz r.1<=130/\∀a,r.2.1=some a->Bz a<=130
theorem Zs6 (h:RG rows q=some r):∃x∈rows,x.2=r:=by
 unfold RG at h;have F:∀(l:List Rw)(R:Rf),l.foldl (λR r=>λq=>if q=r.1 then some r.2 else R q) R q=some r->(∃x∈l,x.2=r)\/R q=some r:=by
  intro l
  induction l with
  |nil=>intro R h;exact .inr h
  |cons y l I =>
   intro R h;rcases I _ h with⟨x,h1,h2⟩|h
   ·exact .inl ⟨x,Qo _ h1,h2⟩
   ·have h:(if q=y.1 then some y.2 else R q)=some r:=h;by_cases z:q=y.1
    ·rw[if_pos z]at h;exact .inl ⟨y,by simp,Pz h⟩
    ·rw[if_neg z]at h;exact .inr h
 rcases F _ _ h with h|h
 ·exact h
 ·cases h
theorem Zqa (h:K7 t ks fs)(hz:t.size<=40):RDp (RG (Cq t ks fs)):=by
 obtain⟨ps,ag,aa,N,ae,hk,hf,ht,_,hl,F⟩:=h.ex;have Z:Ini [.num,.truth]:=⟨λi s h=>by
  match i,h with
  |0,h=>cases h;rfl
  |1,h=>cases h;rfl,λi a b h=>by
  match i,h with
  |0,h=>cases h
  |1,h=>cases h⟩
 obtain⟨I,l1,l2,l3⟩:=Zbo hk Z (Pk _) (λq k h=>by cases h) (λq e s k h h'=>by
  by_cases z:q=[]
  ·rw[if_pos z]at h;cases h;cases h'
  ·rw[if_neg z]at h;cases h)
 have e2:=Zg1 hf I.tot I.bd;have T:=Zpw ht λr k h=>by cases h
 have hw:(walk [] t).length=t.size:=D5 [] t;rw[hw]at l2;have l4:([Sh.num,Sh.truth]:List Sh).length=2:=rfl;have dk:∀j:Nat,Bz (ks.getD j .num)<=130:=λj=>by
  rw[Qm];cases U:ks[j]? with
  |none=>exact P8 _
  |some k =>
   have Y:=(Pq.mp U).1;obtain⟨r,_,O⟩:=F j _ k (Pj (by lia)) U;have:=T r k O;show Bz k<=130;lia
 intro q r O;obtain⟨x,F,rfl⟩:=Zs6 O;unfold Cq at F;obtain⟨i,hi,rfl⟩:=List.mem_mapIdx.mp F;refine⟨dk _,λa ha=>?_⟩;have ha:(if ((walk [] t)[i]).1=[] then none else some (ks.getD (2*i+1) .num))=some a:=ha;by_cases z:((walk [] t)[i]).1=[]
 ·rw[if_pos z]at ha;cases ha
 ·rw[if_neg z]at ha;cases ha;exact dk _
noncomputable def Be:Kd->List Nat->List Nat
 |.any n,s=>if n∈s then s else s++[n]
 |.to x y,s=>Be y (Be x s)
 |_,s=>s
def KB (c:Nat):Kd->Prop
 |.any n=>n<c
 |.to x y=>KB c x/\KB c y
 |_=>True
theorem KB.mono (h:c<=c'):∀{k:Kd},KB c k->KB c' k
 |.num,_=>trivial
 |.truth,_=>trivial
 |.any n,z=>Qa z h
 |.to x y,z=>⟨KB.mono h z.1,KB.mono h z.2⟩
theorem F6:∀{k:Kd},KB c k->Be k (Pn c)=Pn c
 |.num,_=>rfl
 |.truth,_=>rfl
 |.any n,z=>if_pos (Q0.mpr z)
 |.to x y,z=>by rw[Be,F6 z.1,F6 z.2]
theorem Zo5 (c:Nat):Be (.any c) (Pn c)=Pn (c+1):=by
 rw[Be,if_neg (λh=>Q2 _ (Q0.mp h)),W2]
def TdB (c:Nat)(td:Td):Prop:=∀r k,td r=some k->KB c k
theorem Zh5 (h:Last sh x r):Last sh r r:=by
 obtain⟨s,F,ns⟩:=h.at;exact Eh F ns
theorem Zp6:∀(n:Nat)(c x r:Nat)(td td':Td)(w:List Nat),ToldN sh n td c (w++[x]) td'->Last sh x r->Gn sh td->TdB c td->c+un sh.length (Ck td)<=sh.length ->
  eX4 λn' c' td1 k=>n'<n/\ToldN sh n' td1 c' w td'/\(∀i k,td i=some k->td1 i=some k)/\td1 r=some k/\Gn sh td1/\TdB c' td1/\c<=c'/\Be k (Pn c)=Pn c'/\c'+un sh.length (Ck td1)<=sh.length:=by
 intro n
 induction n using Nat.strongRecOn with
 |_ n ih =>
 intro c x r td td' w h hl ok bd hc;rcases h.inv with⟨z,_⟩|⟨w1,x1,r1,s,rs,n',ew,en,ao,hs,Y,h⟩
 ·simp at z
 obtain⟨rfl,e2⟩:=Rk ew rfl;cases e2;have er:=hl.uniq ao;subst er;rcases h with⟨k,hk,t⟩|⟨p,q,hn,I,t⟩|⟨hn,I,rfl,t⟩|⟨k,hn,I,hk,t⟩
 ·exact⟨n',c,td,k,by lia,t,λ_ _ h=>h,hk,ok,bd,Pk _,F6 (bd _ _ hk),hc⟩
 ·obtain⟨s0,ag,ai⟩:=hl.at;rw[hs]at ag;cases ag;have ak:∃a b,s=.to a b:=by
   cases s with
   |to a b=>exact⟨a,b,rfl⟩
   |same k=>cases ai
   |num=>cases Y;cases I
   |truth=>cases Y;cases I
   |any=>cases Y;cases I
  obtain⟨a,b,rfl⟩:=ak;cases Y with
  | @cons _ ra _ _ la Y =>
  cases Y with
  | @cons _ rb _ _ lb Y =>
  cases Y;have J7:(p=ra/\td ra=none)\/(p=rb/\∃kx,td ra=some kx):=by
   rw[Mv]at I;cases ha:td ra with
   |none =>
    rw[ha,if_pos (show(none:Option Kd).isNone=true from rfl)]at I;injection I with h1;exact .inl ⟨h1.symm,rfl⟩
   |some kx =>
    rw[ha,if_neg (by simp),Uj]at I;cases hb:td rb with
    |none =>
     rw[hb,if_pos (show(none:Option Kd).isNone=true from rfl)]at I;injection I with h1;exact .inr ⟨h1.symm,kx,rfl⟩
    |some ky=>rw[hb,if_neg (by simp)]at I;cases I
  have lp:Last sh p p:=by
   rcases J7 with⟨rfl,_⟩|⟨rfl,_⟩
   ·exact Zh5 la
   ·exact Zh5 lb
  obtain⟨n1,c1,td1,kp,h1,t1,x1,g1,an,b1,al,s1,ap⟩:=ih n' (by lia) c p p td td' (w++[x]) t lp ok bd hc;obtain⟨n2,c2,O,k,h2,t2,Z,g2,F,b2,aa,s2,U⟩:=ih n1 (by lia) c1 x r td1 td' w t1 hl an b1 ap;refine⟨n2,c2,O,k,by lia,t2,λi k h=>Z i k (x1 i k h),g2,F,b2,by lia,?_,U⟩;obtain⟨s',ah,mk⟩:=F r k g2;rw[hs]at ah;cases ah;cases mk with
  | @to _ _ kx ky q1 q2 =>
  obtain⟨ar,l1,e1⟩:=q1;obtain⟨aq,l2,e2⟩:=q2;rw[l1.uniq la]at e1;rw[l2.uniq lb]at e2;rcases J7 with⟨rfl,_⟩|⟨rfl,aj,ae⟩
  ·have ek:kp=kx:=Pz ((Z _ _ g1).symm.trans e1);subst ek;rw[Be,F6 (b1 _ _ g1)]at s2;rw[Be,s1,s2]
  ·have ek:kp=ky:=Pz ((Z _ _ g1).symm.trans e2);subst ek;have ex:aj=kx:=Pz ((Z _ _ (x1 _ _ ae)).symm.trans e1);subst ex;rw[Be,F6 ((bd _ _ ae).mono al),F6 (b1 _ _ g1)]at s2;rw[Be,F6 (bd _ _ ae),s1,s2]
 ·have b1:TdB (c+1) (Ce td r (.any c)):=λi k hi=>by
   have hi:(if i=r then some (Kd.any c) else td i)=some k:=hi;by_cases z:i=r
   ·rw[if_pos z]at hi;cases hi;exact Tg c
   ·rw[if_neg z]at hi;exact(bd _ _ hi).mono (Tp _)
  have am:=M6 (k:=.any c) hl.lt hn;obtain⟨n2,c2,O,k,h2,t2,Z,g2,F,b2,aa,s2,U⟩:=ih n' (by lia) (c+1) x r _ td' w t hl (Nj ok hn hs .any) b1 (by lia);have ek:k=.any c:=Pz (g2.symm.trans (Z r _ (if_pos rfl)));subst ek;rw[F6 (show KB (c+1) (.any c) from Tg c)]at s2;exact⟨n2,c2,O,_,by lia,t2,λi k h=>Z i k (M8 hn i k h),g2,F,b2,by lia,by rw[Zo5,s2],U⟩
 ·have kb:KB c k:=by
   cases hk with
   |num=>trivial
   |truth=>trivial
   |to hx hy=>exact⟨bd _ _ hx,bd _ _ hy⟩
  have mk:MdOk sh td s k:=by
   cases hk with
   |num=>exact .num
   |truth=>exact .truth
   |to hx hy =>
    cases Y with
    |cons l1 Y =>
     cases Y with
     |cons l2 _=>exact .to ⟨_,l1,hx⟩ ⟨_,l2,hy⟩
  have b1:TdB c (Ce td r k):=λi k' hi=>by
   have hi:(if i=r then some k else td i)=some k':=hi;by_cases z:i=r
   ·rw[if_pos z]at hi;cases hi;exact kb
   ·rw[if_neg z]at hi;exact bd _ _ hi
  have am:=M6 (k:=k) hl.lt hn;obtain⟨n2,c2,O,k2,h2,t2,Z,g2,F,b2,aa,s2,U⟩:=ih n' (by lia) c x r _ td' w t hl (Nj ok hn hs mk) b1 (by lia);have ek:k2=k:=Pz (g2.symm.trans (Z r _ (if_pos rfl)));subst ek;exact⟨n2,c2,O,_,by lia,t2,λi k h=>Z i k (M8 hn i k h),g2,F,b2,aa,s2,U⟩
theorem Zh9:∀(ws:List Nat)(n c:Nat)(td td':Td),ToldN sh n td c ws.reverse td'->Gn sh td->TdB c td->c+un sh.length (Ck td)<=sh.length->∃c',c'<=sh.length/\∀ks:List Kd,ks.length=ws.length->(∀(j x:Nat)(k:Kd),ws[j]?=some x->ks[j]?=some k->∃r,Last sh x r/\td' r=some k)->ks.foldl (λs k=>Be k s) (Pn c)=Pn c'
 |[],n,c,td,td',h,ok,bd,hc=>⟨c,by lia,λks F _=>by rw[Re F];rfl⟩
 |x::ws,n,c,td,td',h,ok,bd,hc=>by
  rw[List.reverse_cons]at h;have hx:∃r,Last sh x r:=by
   rcases h.inv with⟨z,_⟩|⟨w1,x1,r1,s,rs,n',ew,en,U,_⟩
   ·simp at z
   ·obtain⟨_,e2⟩:=Rk ew rfl;cases e2;exact⟨_,U⟩
  obtain⟨r,Z⟩:=hx;obtain⟨n1,c1,O,k,h1,t1,x1,g1,I,b1,aa,s1,Y⟩:=Zp6 n c x r td td' _ h Z ok bd hc;obtain⟨c2,l2,h2⟩:=Zh9 ws n1 c1 O td' t1 I b1 Y;refine⟨c2,l2,λks F hk=>?_⟩
  match ks,F with
  |k0::ks,F =>
   obtain⟨r0,l0,e0⟩:=hk 0 x k0 rfl rfl;have ek:k0=k:=by
    rw[l0.uniq Z,(Nd t1).1 _ _ g1]at e0;exact(Pz e0).symm
   subst ek;rw[Sd,s1];exact h2 ks (by simpa using F) λj=>hk (j+1)
theorem Zdc (h:Eu sh ps parts w o):(o=none->∃p∈parts,∃r,Last sh p r/\ps r=some false)/\∀w',o=some w'->∃rs,w'=w++rs/\∀r∈rs,∃p∈parts,Last sh p r:=by
 induction h with
 |nil=>exact⟨λe=>(nomatch e),λw' e=>⟨[],by cases e;rw[Qj],λr h=>nomatch h⟩⟩
 |hit h h2=>exact⟨λ_=>⟨_,by simp,_,h,h2⟩,λw' e=>nomatch e⟩
 | @go p r rest w o h h2 t O =>
  refine⟨λe=>?_,λw' e=>?_⟩
  ·obtain⟨p,hp,r,I,h4⟩:=O.1 e;exact⟨p,Qo _ hp,r,I,h4⟩
  ·obtain⟨rs,Z,I⟩:=O.2 w' e;refine⟨r::rs,by rw[Z,Qi];rfl,λx F=>?_⟩;rcases Pm.mp F with rfl|F
   ·exact⟨p,by simp,h⟩
   ·obtain⟨p',Y,U⟩:=I x F;exact⟨p',Qo _ Y,U⟩
theorem Zne {sh:Af}{rk:Nat->Nat}(hrk:∀b c,(∃s,sh[b]?=some s/\s.isSame=false)->Eg sh b c->rk c<rk b){n:Nat}{ps:Ps}{w:List Nat}{b:Bool}(h:HoldsN sh n ps w b):b=true->(∀y∈w,∃s,sh[y]?=some s/\s.isSame=false)->(∀x,ps x=some false->∃w1 w2,w=w1++x::w2/\∀y∈w2,rk y<rk x)->False:=by
 induction h with
 |nil=>intro e;cases e
 | @seen n ps w top x b h t ih =>
  intro e Z hg;refine ih e (λy F=>Z y (Rr _ F)) λy F=>?_;have U:(if y=top then some true else ps y)=some false:=F;have ny:y≠top:=λz=>by rw[if_pos z]at U;cases U
  rw[if_neg ny]at U;obtain⟨w1,w2,O,h2⟩:=hg y U;rcases Sg w2 with rfl|⟨w3,z,rfl⟩
  ·obtain⟨_,I⟩:=Rk O rfl;cases I;exact absurd rfl ny
  ·rw[Si]at O h2;have Y:w++[top]=(w1++y::w3)++[z]:=by rw[O];simp
   obtain⟨I,_⟩:=Rk Y rfl;exact⟨w1,w3,I,λv hv=>h2 v (Rr _ hv)⟩
 | @hit ps w top s h hs hp =>
  intro _ Z hg;obtain⟨p,ag,r,h3,h4⟩:=(Zdc hp).1 rfl;have eg:Eg sh top r:=⟨s,p,hs,ag,h3⟩;have lt:=hrk top r (Z top (by simp)) eg;have ae:(if r=top then some false else ps r)=some false:=h4;by_cases z:r=top
  ·rw[z]at lt;exact Q2 _ lt
  ·rw[if_neg z]at ae;obtain⟨w1,w2,O,h2⟩:=hg r ae;rcases Sg w2 with rfl|⟨w3,v,rfl⟩
   ·obtain⟨_,I⟩:=Rk O rfl;cases I;exact z rfl
   ·rw[Si]at O h2;have Y:w++[top]=(w1++r::w3)++[v]:=by rw[O];simp
    obtain⟨_,I⟩:=Rk Y rfl;cases I;have:=h2 top (by simp);lia
 | @go n ps w w' top s b h hs hp t ih =>
  intro e Z hg;obtain⟨rs,O,h3⟩:=(Zdc hp).2 w' rfl;have lt:∀r∈rs,rk r<rk top:=λr hr=>by
   obtain⟨p,h5,h6⟩:=h3 r hr;exact hrk top r (Z top (by simp)) ⟨s,p,hs,h5,h6⟩
  refine ih e (λy F=>?_) λx hx=>?_
  ·rw[O]at F;rcases P3.mp F with F|F
   ·exact Z y F
   ·obtain⟨p,h5,h6⟩:=h3 y F;exact h6.at
  ·have aa:(if x=top then some false else ps x)=some false:=hx;by_cases z:x=top
   ·exact⟨w,rs,by rw[O,z];simp,by rw[z];exact lt⟩
   ·rw[if_neg z]at aa;obtain⟨w1,w2,I,h4⟩:=hg x aa;refine⟨w1,w2++rs,by rw[O,I];simp,λy F=>?_⟩;rcases P3.mp F with F|F
    ·exact h4 y F
    ·have h6:rk top<rk x:=by
      rcases Sg w2 with rfl|⟨w3,v,rfl⟩
      ·obtain⟨_,e3⟩:=Rk I rfl;cases e3;exact absurd rfl z
      ·rw[Si]at I h4;have ah:w++[top]=(w1++x::w3)++[v]:=by rw[I];simp
       obtain⟨_,e3⟩:=Rk ah rfl;cases e3;exact h4 top (by simp)
     have:=lt y F;lia
theorem Zqd (ha:Fk sh)(hl:Last sh x r)(h:HoldsN sh n (λ_=>none) [r] true):False:=by
 obtain⟨U,F⟩:=ha;exact Zne F h rfl (λy I=>by rw[Py.mp I];exact hl.at) λx O=>by cases O
mutual
theorem Zhh:∀(t:Tr)(p0:List Nat)(x:List Nat×Tr),x∈walk p0 t->∃rel,x.1=p0++rel/\∀w n ts,x.2=.mk w n ts->∀j,Cf t (rel++[j])=Cf t rel++[nb w n j]
 |.mk w n ts,p0,x,I=>by
  rw[walk]at I;rcases Pm.mp I with rfl|I
  ·refine⟨[],by simp,λO U F e j=>?_⟩;cases e;show Cf (.mk w n ts) [j]=Cf (.mk w n ts) []++[nb w n j];have Y:∀u:Tr,Cf u []=[]:=λu=>by cases u;rfl
   rw[Y (.mk w n ts),Cf];cases ts[j]? with
   |none=>rfl
   |some u=>show nb w n j::Cf u []=_;rw[Y];rfl
  ·obtain⟨k,rel,u,Z,e,h⟩:=Ze0 ts p0 0 x I;refine⟨(0+k)::rel,by rw[e];simp,λO U F e' j=>?_⟩;rw[Rc,Ru,Ks Z,Ks Z,h O U F e' j];rfl
theorem Ze0:∀(ts:List Tr)(p0:List Nat)(i:Nat)(x:List Nat×Tr),x∈Br p0 i ts->eX3 λk rel u=>ts[k]?=some u/\x.1=p0++[i+k]++rel/\∀w n ts',x.2=.mk w n ts'->∀j,Cf u (rel++[j])=Cf u rel++[nb w n j]
 |[],p0,i,x,F=>by rw[Br]at F;cases F
 |t::ts,p0,i,x,F=>by
  rw[Br]at F;rcases P3.mp F with F|F
  ·obtain⟨rel,e,h⟩:=Zhh t (p0++[i]) x F;exact⟨0,rel,t,rfl,e,h⟩
  ·obtain⟨k,rel,u,I,e,h⟩:=Ze0 ts p0 (i+1) x F;exact⟨k+1,rel,u,I,by rw[e,show i+1+k=i+(k+1) by lia],h⟩
end
theorem Zu6 (h:(pl,Tr.mk w n ts)∈walk [] t)(j:Nat):Cm t (pl++[j])=Cm t pl++nb w n j:=by
 obtain⟨F,e,I⟩:=Zhh t [] _ h;have e:pl=[]++F:=e;rw[Uj]at e;subst e;unfold Cm;rw[I w n ts rfl j,List.flatten_append];simp
theorem Ziq (x:Str):∀(d:Nat)(l:List Str),Cc x d l=none↔x ∉ l
 |_,[]=>by simp[Cc]
 |d,y::r=>by
  rw[Cc];have F:=Ziq x (d+1) r;cases h:Cc x (d+1) r with
  |some k =>
   rw[h]at F;have:x∈r:=by
    by_cases z:x∈r
    ·exact z
    ·exact absurd (F.mpr z) (by simp)
   simp[this]
  |none =>
   rw[h]at F;have nr:=F.mp rfl;by_cases z:y=x
   ·simp[z]
   ·simp[z,nr];exact λe=>z e.symm
theorem ini0:Ini [.num,.truth]:=⟨λi s h=>by
  match i,h with
  |0,h=>cases h;rfl
  |1,h=>cases h;rfl,λi a b h=>by
  match i,h with
  |0,h=>cases h
  |1,h=>cases h⟩
section
variable {P:Program}{w:World}{K:Ph}{mg:Str->Option Value}{base:Heap}
def ShL (H:Hp)(v:V)(ms:List Int):Prop:=∃p,v=.ref p/\H p=some (.lst (ms.map V.int))
noncomputable def tot (mss:List (List Int)):Nat:=(mss.map Qx).sum
theorem Zq2 (mss:List (List Int))(ms:List Int):tot (mss++[ms])=tot mss+ms.length:=by simp[tot]
inductive Zqc (K:Ph)(vs:List V)(H:Hp)(Q:VK)(e9:XK):Prop
 |mk (a:Addr) (ns:List Int) (m:Nat) (z:Int) (_:vs=[.ref a,.int (m:Nat),.int z]) (_:H a=some (.lst (ns.map V.int))) (_:ns.length<=63) (_:(m=1\/m=2\/m=3)) (_:∀(L:Addr)(us:List V)(mss:List (List Int))(H':Hp),Same H H'->H' L=some (.lst us)->Al (ShL H') us mss->mss.length=m->tot mss=ns.length->Q (.ref L) H')
def Zbl (K:Ph):Sp:=Zqc K
theorem Zcg (ns:List Int)(lo hi:Option Int):∃ms:List Int,Cb (ns.map V.int) lo hi=ms.map V.int/\ms.length=min (HT.sIx ns.length ns.length hi-HT.sIx ns.length 0 lo) (ns.length-HT.sIx ns.length 0 lo):=by
 unfold Cb;rw[Pp,<- List.map_drop,<- List.map_take];exact⟨_,rfl,by rw[Qb,Ug]⟩
theorem Zpp (ns:List Int)(lo hi:Nat)(h1:lo<=hi)(h2:hi<=ns.length):∃ms:List Int,Cb (ns.map V.int) (some (lo:Int)) (some (hi:Int))=ms.map V.int/\ms.length=hi-lo:=by
 obtain⟨ms,e,l⟩:=Zcg ns (some (lo:Int)) (some (hi:Int));refine⟨ms,e,?_⟩;rw[l,HT.sIx_nat,HT.sIx_nat];lia
def ShJ (H:Hp)(D:Addr)(n:Nat)(ys:List V)(H':Hp)(i:Nat):Prop:=∃mss,Al (λv F=>∃p,v=.ref p/\p≠D/\H' p=some (.lst (F.map V.int))) ys mss/\mss.length=i/\tot mss=n/\Same H H'
theorem ShJ.put {H H' H2:Hp}{D p:Addr}{n n' i:Nat}{ys:List V}{ms:List Int}{o:HO}(h:ShJ H D n ys H' i)(hD:H D=none)(s:Same H' H2)(np:p≠D)(e:H2 p=some (.lst (ms.map V.int)))(hn:n+ms.length=n'):ShJ H D n' (ys++[.ref p]) (upd H2 D o) (i+1):=by
 obtain⟨F,Y,O,U,sm⟩:=h;refine⟨F++[ms],(Y.mono ?_).snoc ⟨p,rfl,np,by rw[Ai np];exact e⟩,by simp[O],by rw[Zq2,U,hn],(sm.trans s).over hD⟩;rintro v x ⟨q,rfl,I,eq⟩;exact⟨q,rfl,I,by rw[Ai I];exact s _ _ eq⟩
theorem ShJ.fin (h:ShJ H D n ys H' i):∃mss,Al (ShL H') ys mss/\mss.length=i/\tot mss=n/\Same H H':=by
 obtain⟨mss,O,F,I,sm⟩:=h;exact⟨mss,O.mono λv x ⟨q,e,_,eq⟩=>⟨q,e,eq⟩,F,I,sm⟩
theorem ShJ.nil (hD:H D=none):ShJ H D 0 [] (upd H D o) 0:=⟨[],.nil,rfl,rfl,Same.upd hD⟩
theorem Zln:(["_law_k","_law_rest","_law_at"]:List Str).Nodup:=by right
theorem Zs7:(["_law_k","_law_rest","_law_many","_law_size"]:List Str).Nodup:=by right
theorem sc_law_shares:Bm ["_law_rest","_law_many","_law_turn","_law_at","_law_size"] ["_law_rest","_law_many","_law_turn"] (Bh K8):=by walk_at "sc"
theorem Zsq (F:Fun K "_law_shares" "_law_shares" K8 f fd)(T:Txt K mg):A8 P w K mg base A9 1 f fd ["_law_rest","_law_many","_law_turn"] (Zbl K):=by
 refine F.okq sc_law_shares (λvs H Q E h=>?_) (λae A outer s H vs Q E hr h=>?_)
 ·obtain⟨a,ns,m,z,rfl,_⟩:=h;rfl
 ·obtain⟨a,ns,m,z,rfl,ha,hn,hm,q⟩:=h;refine⟨_,Ae (Au (Aw (Bf K hr.u200) (A4 B7 (qv 2) Ad) Ad (A0 _)) (Ae (Lp (i:=3) sc_law_shares.nd rfl (Or.inr rfl) (A4 B7 (A4 D8 (qv 2) Ad) (qv 1)))
   (Ag (Ar (Jx (N:=["_law_k","_law_rest","_law_at"]) (σ0:=Dr 1 [0,3]) rfl (E7 rfl (by right) (by right) (by right)) (Gg rfl T.range (Aa (qv 1) Ab)) (E5 rfl (by rfl)) (λ_ _ _ _=>Bb (i:=0) Zln rfl (Or.inl rfl)) (λ_ _ _ _=>Fy) (λ_ _ _ _=>Oc (Aw (Bf K hr.u200) (qv 0) (qv 2) (A0 _)) (qv 1) (Bc Ab)))))) Ay)
   (Ae (Lp (i:=4) sc_law_shares.nd rfl (Or.inr rfl) (B6 (Dc K) (by rfl) T.len (by right) (Aa (qv 0) Ab)))
   (Ag (Ar (Jx (N:=["_law_k","_law_rest","_law_many","_law_size"]) (σ0:=Dr 1 [0,1,4]) rfl (E7 rfl (by right) (by right) (by right)) (Gg rfl T.range (Aa (qv 1) Ab)) (E5 rfl (by rfl)) (λ_ _ _ _=>Bb (i:=0) Zs7 rfl (Or.inl rfl)) (λ_ _ _ _=>Fy) (λ_ _ _ _=>Er (Fm K) (qv 1) (Dm (A4 D8 (A4 G8 (qv 3) (qv 0)) (qv 2))) (Dm (A4 D8 (A4 G8 (qv 3) (A4 (D7 K) (qv 0) Ad)) (qv 2)))))))),?_⟩
  have bg:=big;have m0:(0:Int)<(m:Int):=by lia
  have m3:m<=3:=by lia
  left;refine Bk (λ_=>?_) (λ_=>?_)
  ·left;refine s_rI m0 ?_;have z0:=Sq (z / 3) (show(m:Int)≠0 by lia);have z1:=Sl (z / 3) m0;generalize z / 3 % (m:Int)=k at z0 z1;left;refine⟨by lia,by lia,λD Z=>?_⟩;have nD:=A6 ha Z;refine Kw (n:=(m:Int).toNat) (Pv:=λi ys O H'=>∃kv,O=[kv,some (.ref a),some (.int k)]/\ShJ H D (if k<(i:Int) then ns.length else 0) ys H' i) ⟨none,rfl,by rw[if_neg (by lia)];exact ShJ.nil Z⟩ ?_ ?_
   ·rintro i ys O H' hi I ⟨kv,rfl,J⟩;have aa:ys.length=i:=by obtain⟨U,al,hl,_⟩:=J;rw[al.1,hl]
    have sm:Same H H':=by obtain⟨U,_,_,_,sm⟩:=J;exact sm
    left;refine Bk (λc=>?_) (λc=>?_)
    ·have c:(0:Int)+(i:Int)=k:=by simpa using c
     left;refine⟨_,I,by lia,_,Ac,_,rfl,J.put Z (Same.refl _) nD (sm _ _ ha) ?_⟩;have n1:¬k<(i:Int):=by lia
     have n2:k<((i+1:Nat):Int):=by lia
     rw[if_neg n1,if_pos n2];lia
    ·have c:¬(0:Int)+(i:Int)=k:=λe=>c (by simpa using e);left;refine⟨Bo,λp hp=>?_⟩;have np:p≠D:=(A6 I hp).symm;refine⟨_,(Same.upd hp) _ _ I,by lia,_,Ac,_,rfl,J.put (ms:=[]) Z (Same.upd hp) np Ac ?_⟩;by_cases h1:k<(i:Int)
     ·have n2:k<((i+1:Nat):Int):=by lia
      rw[if_pos h1,if_pos n2];rfl
     ·have n2:¬k<((i+1:Nat):Int):=by lia
      rw[if_neg h1,if_neg n2];rfl
   ·rintro ys O H' I ⟨kv,rfl,J⟩;rw[if_pos (by lia)]at J;obtain⟨U,al,hl,ht,sm⟩:=J.fin;exact q D ys U H' sm I al (by lia) ht
  ·left;refine D0 (SqL.of ha) ?_;left;refine⟨by lia,by lia,λD Z=>?_⟩;have nD:=A6 ha Z;have Y:∀i:Nat,(((ns.map V.int).length:Nat):Int)*(i:Int) / (m:Int)=((ns.length*i / m:Nat):Int):=λi=>by rw[Pp];push_cast;rfl
   have mono:∀i:Nat,ns.length*i / m<=ns.length*(i+1) / m:=λi=>Nat.div_le_div_right (Nat.mul_le_mul_left _ (by lia));have top:∀i:Nat,i<=m->ns.length*i / m<=ns.length:=λi hi=>Nat.div_le_of_le_mul (by rw[Nat.mul_comm m];exact Nat.mul_le_mul_left _ hi);refine Kw (n:=(m:Int).toNat) (Pv:=λi ys O H'=>∃kv,O=[kv,some (.ref a),some (.int (m:Nat)),some (.int ((ns.map V.int).length:Nat))]/\ShJ H D (ns.length*i / m) ys H' i) ⟨none,rfl,by rw[Nat.mul_zero,Nat.zero_div];exact ShJ.nil Z⟩ ?_ ?_
   ·rintro i ys O H' hi I ⟨kv,rfl,J⟩;have aa:ys.length=i:=by obtain⟨U,al,hl,_⟩:=J;rw[al.1,hl]
    have sm:Same H H':=by obtain⟨U,_,_,_,sm⟩:=J;exact sm
    have e0:(0:Int)+(i:Int)=(i:Int):=by lia
    have e1:(i:Int)+1=((i+1:Nat):Int):=by push_cast;rfl
    have ag:(ns.map V.int).length=ns.length:=Pp ..;rw[e0];left;refine s_mul_r (by lia) (by lia) ?_;left;refine s_rI ⟨m0,by lia⟩ ?_;left;refine s_mul_r (by lia) (by lia) ?_;left;refine s_rI ⟨m0,by lia⟩ ?_;rw[e1,Y i,Y (i+1)];left;refine Jq (SqL.of (sm _ _ ha)) λp hp=>?_;obtain⟨ms,ec,lc⟩:=Zpp ns _ _ (mono i) (top (i+1) (by lia));rw[ec];have np:p≠D:=(A6 I hp).symm;have:=mono i;exact⟨_,(Same.upd hp) _ _ I,by lia,_,Ac,_,rfl,J.put Z (Same.upd hp) np Ac (by lia)⟩
   ·rintro ys O H' I ⟨kv,rfl,J⟩;have e:(m:Int).toNat=m:=rfl;rw[e,Nat.mul_div_cancel _ (by lia)]at J;obtain⟨U,al,hl,ht,sm⟩:=J.fin;exact q D ys U H' sm I al hl ht
end
structure SolM (θ:Nat->Kd)(m:Af):Prop where
 num:∀i:Nat,m[i]?=some .num->θ i=.num/\i=0
 truth:∀i:Nat,m[i]?=some .truth->θ i=.truth/\i=1
 to:∀i a b:Nat,m[i]?=some (.to a b)->θ i=.to (θ a) (θ b)
 same:∀i k:Nat,m[i]?=some (.same k)->θ i=θ k
theorem SolM.last (S:SolM θ m)(h:Last m i r):θ i=θ r:=by
 obtain⟨n,h⟩:=h
 induction h with
 |root _ _=>rfl
 |step e t F=>exact(S.same _ _ e).trans F
theorem SolM.set (S:SolM θ m)(e:θ x=θ y):SolM θ (m.set x (.same y)):=by
 have F:∀(i:Nat)(s:Sh),(m.set x (.same y))[i]?=some s->(i=x/\s=.same y)\/m[i]?=some s:=λi s h=>by
  by_cases z:i=x
  ·subst z;by_cases hi:i<m.length
   ·rw[R4 hi]at h;cases h;exact .inl ⟨rfl,rfl⟩
   ·rw[Rq (by rw[Qp];lia)]at h;cases h
  ·rw[Dx z]at h;exact .inr h
 refine⟨λi h=>?_,λi h=>?_,λi a b h=>?_,λi k h=>?_⟩
 ·rcases F i _ h with⟨_,z⟩|h
  ·cases z
  ·exact S.num i h
 ·rcases F i _ h with⟨_,z⟩|h
  ·cases z
  ·exact S.truth i h
 ·rcases F i _ h with⟨_,z⟩|h
  ·cases z
  ·exact S.to i a b h
 ·rcases F i _ h with⟨rfl,z⟩|h
  ·cases z;exact e
  ·exact S.same i k h
theorem Zc5 (h:JoinN n m w o):SolM θ m->(∀p∈w,θ p.1=θ p.2)->∃m1,o=some m1/\SolM θ m1:=by
 induction h with
 |nil=>exact λS _=>⟨_,rfl,S⟩
 | @eq n m w p l o h1 h2 t Y=>exact λS O=>Y S λq I=>O q (Rr _ I)
 | @anyR n m w p l r o h1 h2 ne F t Y =>
  intro S O;have e:=O p (by simp);rw[S.last h1,S.last h2]at e;exact Y (S.set e.symm) λq I=>O q (Rr _ I)
 | @anyL n m w p l r Z o h1 h2 ne F hn U t Y =>
  intro S O;have e:=O p (by simp);rw[S.last h1,S.last h2]at e;exact Y (S.set e) λq I=>O q (Rr _ I)
 | @to n m w p l r a b c d o h1 h2 ne U F t Y =>
  intro S O;have e:=O p (by simp);rw[S.last h1,S.last h2]at e;have e2:=e;rw[S.to _ _ _ U,S.to _ _ _ F]at e2;injection e2 with e3 e4;refine Y (S.set e) λq I=>?_;rcases P3.mp I with I|I
  ·exact O q (Rr _ I)
  ·simp at I;rcases I with rfl|rfl
   ·exact e3
   ·exact e4
 | @clash m w p l r sl Z h1 h2 ne U F nl nr nt =>
  intro S O;have e:=O p (by simp);rw[S.last h1,S.last h2]at e;obtain⟨s1,g1,n1⟩:=h1.at;obtain⟨s2,g2,n2⟩:=h2.at;rw[U]at g1;rw[F]at g2;cases g1;cases g2;exfalso;cases sl with
  |num =>
   have a:=S.num _ U;rw[a.1]at e;cases Z with
   |num=>exact ne (a.2.trans (S.num _ F).2.symm)
   |truth=>rw[(S.truth _ F).1]at e;cases e
   |any=>exact nr rfl
   |to c d=>rw[S.to _ _ _ F]at e;cases e
   |same k=>cases n2
  |truth =>
   have a:=S.truth _ U;rw[a.1]at e;cases Z with
   |num=>rw[(S.num _ F).1]at e;cases e
   |truth=>exact ne (a.2.trans (S.truth _ F).2.symm)
   |any=>exact nr rfl
   |to c d=>rw[S.to _ _ _ F]at e;cases e
   |same k=>cases n2
  |any=>exact nl rfl
  |to c d =>
   rw[S.to _ _ _ U]at e;cases Z with
   |num=>rw[(S.num _ F).1]at e;cases e
   |truth=>rw[(S.truth _ F).1]at e;cases e
   |any=>exact nr rfl
   |to c' d'=>rcases nt with z|z <;> exact z rfl
   |same k=>cases n2
  |same k=>cases n1
theorem Za5 (S:SolM θ m):Fk m:=⟨λi=>Bz (θ i),λb c ⟨s,O,ns⟩ ⟨s',p,I,F,U⟩=>by
 rw[O]at I;cases I;show Bz (θ c)<Bz (θ b);rw[<- S.last U];cases s with
 |to x y =>
  rw[S.to _ _ _ O];simp[Sh.parts]at F;show Bz (θ p)<max (Bz (θ x)) (Bz (θ y))+1;rcases F with rfl|rfl
  ·lia
  ·lia
 |same k=>cases ns
 |num=>simp[Sh.parts]at F
 |truth=>simp[Sh.parts]at F
 |any=>simp[Sh.parts]at F⟩
def D4 (th:List Kd)(sh:Af):Prop:=∀(i:Nat)(s:Sh),sh[i]?=some s->(s=.num/\i=0/\th[i]?=some .num)\/(s=.truth/\i=1/\th[i]?=some .truth)\/(s=.any/\∃k,th[i]?=some k)\/eX4 λa b x y=>s=.to a b/\th[a]?=some x/\th[b]?=some y/\th[i]?=some (.to x y)
theorem Cs {th th':List Kd}(h:th <+: th'){i:Nat}{k:Kd}(e:th[i]?=some k):th'[i]?=some k:=by
 obtain⟨r,F⟩:=h;rw[<- F,Qh (Pq.mp e).1];exact e
noncomputable def Fi (w:Str)(h:Kd)(ws:List Kd):List Kd :=
 if w="if"\/w="gap"\/w="odd"\/w="name" then [h] else if w="let" then [ws.getD 0 .num,h] else if w="fn"\/w="rec" then (match h with|.to x y=>[x,y,.to x y]|k=>[k,k,.to k k]) else if w="call" then [ws.getD 1 .num,h,.to (ws.getD 1 .num) h] else []
structure Zr4 (th:List Kd)(sh:Af)(w:Str)(n:Dt)(h:Kd)(ws:List Kd):Prop where
 len:(Fi w h ws).length=(Az sh.length w).2.2.2.length
 sol:D4 (th++Fi w h ws) (sh++(Az sh.length w).2.2.2)
 giv:w≠"name" -> (th++Fi w h ws)[(Az sh.length w).1]?=some h
 nam:w="name" -> (th++Fi w h ws)[sh.length]?=some h
 arg:∀j:Nat,(Az sh.length w).2.1.length=ws.length/\∀(x:Nat)(k:Kd),(Az sh.length w).2.1[j]?=some x->ws[j]?=some k->(th++Fi w h ws)[x]?=some k
 env:(Az sh.length w).2.2.1.length=(Gr w h ws).length/\∀(j x:Nat)(k:Kd),(Az sh.length w).2.2.1[j]?=some x->(Gr w h ws)[j]?=some k->(th++Fi w h ws)[x]?=some k
theorem Nb (S:D4 th sh)(hl:th.length=sh.length)(hn:∀(i:Nat)(s:Sh),nw[i]?=some s->(s=.any/\∃k,bl[i]?=some k)\/eX4 λa b x y=>s=.to a b/\(th++bl)[a]?=some x/\(th++bl)[b]?=some y/\bl[i]?=some (.to x y)):D4 (th++bl) (sh++nw):=λi s I=>by
 have pr:th <+: th++bl:=Rj _ _;by_cases z:i<sh.length
 ·rw[Qh z]at I;rcases S i s I with⟨h1,h2,F⟩|⟨h1,h2,F⟩|⟨h1,k,F⟩|⟨a,b,x,y,h1,h2,F,O⟩
  ·exact .inl ⟨h1,h2,Cs pr F⟩
  ·exact .inr (.inl ⟨h1,h2,Cs pr F⟩)
  ·exact .inr (.inr (.inl ⟨h1,k,Cs pr F⟩))
  ·exact .inr (.inr (.inr ⟨a,b,x,y,h1,Cs pr h2,Cs pr F,Cs pr O⟩))
 ·rw[Qk (by lia)]at I;have e:(th++bl)[i]?=bl[i-sh.length]?:=by rw[Qk (by lia),hl]
  rw[e];rcases hn _ s I with⟨h1,h2⟩|⟨a,b,x,y,h1,h2,F,O⟩
  ·exact .inr (.inr (.inl ⟨h1,h2⟩))
  ·exact .inr (.inr (.inr ⟨a,b,x,y,h1,h2,F,O⟩))
theorem Zq4 (S:D4 th sh)(hl:th.length=sh.length)(t0:th[0]?=some .num)(t1:th[1]?=some .truth)(ak:F8 w h ws)(lf:Zg5 w n h ar):Zr4 th sh w n h ws:=by
 have U:∀(bl:List Kd)(i:Nat),(th++bl)[sh.length+i]?=bl[i]?:=λbl i=>by rw[Qk (by lia),hl,Nat.add_sub_cancel_left]
 have O:∀bl:List Kd,(th++bl)[sh.length]?=bl[0]?:=λbl=>U bl 0;have Y:∀bl:List Kd,(th++bl)[0]?=some .num:=λbl=>Cs (Rj _ _) t0;have u1:∀bl:List Kd,(th++bl)[1]?=some .truth:=λbl=>Cs (Rj _ _) t1;have none:∀(j x:Nat)(k:Kd){P:Prop},([]:List Nat)[j]?=some x->P:=λj x k P h=>by simp at h
 have s0:∀bl:List Kd,D4 (th++bl) (sh++[]):=λbl=>by
  refine Nb S hl λi s h=>?_;simp at h
 have sa:∀(k:Kd)(r:List Kd),D4 (th++k::r) (sh++[.any]):=λk r=>Nb S hl λi s h=>by
  match i,h with
  |0,h=>cases h;exact .inl ⟨rfl,k,rfl⟩
 have st:∀x y:Kd,D4 (th++[x,y,.to x y]) (sh++[.any,.any,.to sh.length (sh.length+1)]):=λx y=>Nb S hl λi s h=>by
  match i,h with
  |0,h=>cases h;exact .inl ⟨rfl,x,rfl⟩
  |1,h=>cases h;exact .inl ⟨rfl,y,rfl⟩
  |2,h=>cases h;exact .inr ⟨_,_,x,y,rfl,O _,U _ 1,rfl⟩
 cases ak with
 |nil Z =>
  simp only[Pm,P6,or_false]at Z;rcases Z with rfl|rfl|rfl|rfl|rfl
  ·exact⟨rfl,sa h [],λ_=>O _,λz=>absurd z (by right),λj=>⟨rfl,λx k e=>none j x k e⟩,rfl,λj x k e=>none j x k e⟩
  ·exact⟨rfl,sa h [],λ_=>O _,λz=>absurd z (by right),λj=>⟨rfl,λx k e=>none j x k e⟩,rfl,λj x k e=>none j x k e⟩
  ·obtain rfl:=lf.num rfl;exact⟨rfl,s0 [],λ_=>Y _,λz=>absurd z (by right),λj=>⟨rfl,λx k e=>none j x k e⟩,rfl,λj x k e=>none j x k e⟩
  ·obtain rfl:=lf.truth rfl;exact⟨rfl,s0 [],λ_=>u1 _,λz=>absurd z (by right),λj=>⟨rfl,λx k e=>none j x k e⟩,rfl,λj x k e=>none j x k e⟩
  ·exact⟨rfl,sa h [],λz=>absurd rfl z,λ_=>O _,λj=>⟨rfl,λx k e=>none j x k e⟩,rfl,λj x k e=>none j x k e⟩
 |plus Z =>
  rcases Z with rfl|rfl
  all_goals
   refine⟨rfl,s0 [],λ_=>Y _,λz=>absurd z (by right),λj=>⟨rfl,λx k F I=>?_⟩,rfl,λj x k e=>none j x k e⟩
   match j,F,I with
   |0,F,I=>cases F;cases I;exact Y _
   |1,F,I=>cases F;cases I;exact Y _
 |less =>
  refine⟨rfl,s0 [],λ_=>u1 _,λz=>absurd z (by right),λj=>⟨rfl,λx k F I=>?_⟩,rfl,λj x k e=>none j x k e⟩
  match j,F,I with
  |0,F,I=>cases F;cases I;exact Y _
  |1,F,I=>cases F;cases I;exact Y _
 |ite =>
  refine⟨rfl,sa h [],λ_=>O _,λz=>absurd z (by right),λj=>⟨rfl,λx k F I=>?_⟩,rfl,λj x k e=>none j x k e⟩
  match j,F,I with
  |0,F,I=>cases F;cases I;exact u1 _
  |1,F,I=>cases F;cases I;exact O _
  |2,F,I=>cases F;cases I;exact O _
 | @call _ x =>
  refine⟨rfl,st x h,λ_=>U _ 1,λz=>absurd z (by right),λj=>⟨rfl,λx k F I=>?_⟩,rfl,λj x k e=>none j x k e⟩
  match j,F,I with
  |0,F,I=>cases F;cases I;exact U _ 2
  |1,F,I=>cases F;cases I;exact O _
 | @lt _ x =>
  refine⟨rfl,?_,λ_=>U _ 1,λz=>absurd z (by right),λj=>⟨rfl,λx k F I=>?_⟩,rfl,λj x k F I=>?_⟩
  ·exact Nb S hl λi s h'=>by
    match i,h' with
    |0,h'=>cases h';exact .inl ⟨rfl,x,rfl⟩
    |1,h'=>cases h';exact .inl ⟨rfl,h,rfl⟩
  ·match j,F,I with
   |0,F,I=>cases F;cases I;exact O _
   |1,F,I=>cases F;cases I;exact U _ 1
  ·match j,F,I with
   |0,F,I=>cases F;cases I;exact O _
 | @fn _ x y Z =>
  rcases Z with rfl|rfl
  ·refine⟨rfl,st x y,λ_=>U _ 2,λz=>absurd z (by right),λj=>⟨rfl,λx k F I=>?_⟩,rfl,λj x k F I=>?_⟩
   ·match j,F,I with
    |0,F,I=>cases F;cases I;exact U _ 1
   ·match j,F,I with
    |0,F,I=>cases F;cases I;exact O _
  ·refine⟨rfl,st x y,λ_=>U _ 2,λz=>absurd z (by right),λj=>⟨rfl,λx k F I=>?_⟩,rfl,λj x k F I=>?_⟩
   ·match j,F,I with
    |0,F,I=>cases F;cases I;exact U _ 1
   ·match j,F,I with
    |0,F,I=>cases F;cases I;exact U _ 2
    |1,F,I=>cases F;cases I;exact O _
theorem Zc1 (S:D4 th sh):SolM (λi=>th.getD i .num) sh:=by
 have g:∀{i:Nat}{k:Kd},th[i]?=some k->th.getD i .num=k:=λh=>by rw[Qm,h];rfl
 refine⟨λi h=>?_,λi h=>?_,λi a b h=>?_,λi k h=>?_⟩
 ·rcases S i _ h with⟨_,h2,F⟩|⟨z,_⟩|⟨z,_⟩|⟨_,_,_,_,z,_⟩
  ·exact⟨g F,h2⟩
  all_goals cases z
 ·rcases S i _ h with⟨z,_⟩|⟨_,h2,F⟩|⟨z,_⟩|⟨_,_,_,_,z,_⟩
  ·cases z
  ·exact⟨g F,h2⟩
  all_goals cases z
 ·rcases S i _ h with⟨z,_⟩|⟨z,_⟩|⟨z,_⟩|⟨_,_,x,y,z,h1,h2,F⟩
  ·cases z
  ·cases z
  ·cases z
  ·cases z;show th.getD i .num=.to (th.getD a .num) (th.getD b .num);rw[g h1,g h2,g F]
 ·rcases S i _ h with⟨z,_⟩|⟨z,_⟩|⟨z,_⟩|⟨_,_,_,_,z,_⟩ <;> cases z
noncomputable def Am (ρ:Nat->Kd):Kd->Kd
 |.any n=>ρ n
 |.to x y=>.to (Am ρ x) (Am ρ y)
 |.num=>.num
 |.truth=>.truth
noncomputable def Bs:Kd->Nat
 |.to x y=>Bs x+Bs y+1
 |_=>1
theorem Iz:∀k:Kd,1<=Bs k
 |.to x y=>by rw[Bs];lia
 |.num=>Pk _
 |.truth=>Pk _
 |.any _=>Pk _
inductive In (m:Nat):Kd->Prop where
 |any:In m (.any m)
 |l {x y:Kd} (h:In m x):In m (.to x y)
 |r {x y:Kd} (h:In m y):In m (.to x y)
noncomputable abbrev Kn:=Nat->Option Kd
noncomputable def El (σ:Kn)(n:Nat)(k:Kd):Kn:=λm=>if m=n then some k else σ m
inductive PutR (σ:Kn):Kd->Kd->Prop where
 |num:PutR σ .num .num
 |truth:PutR σ .truth .truth
 |free {n:Nat} (h:σ n=none):PutR σ (.any n) (.any n)
 |step {n:Nat} {k k':Kd} (h:σ n=some k) (t:PutR σ k k'):PutR σ (.any n) k'
 |to {x y x' y':Kd} (hx:PutR σ x x') (hy:PutR σ y y'):PutR σ (.to x y) (.to x' y')
theorem PutR.det (h:PutR σ k a):∀{b:Kd},PutR σ k b->a=b:=by
 induction h with
 |num=>intro b h';cases h';rfl
 |truth=>intro b h';cases h';rfl
 |free h=>intro b h';cases h' with
  |free _=>rfl
  |step h2 _=>rw[h]at h2;cases h2
 |step h _ F=>intro b h';cases h' with
  |free h2=>rw[h]at h2;cases h2
  |step h2 I=>rw[h]at h2;cases h2;exact F I
 |to _ _ i1 i2=>intro b h';cases h' with
  |to h1 h2=>rw[i1 h1,i2 h2]
def B2 (θ:Nat->Kd)(σ:Kn):Prop:=∀n k,σ n=some k->θ n=Am θ k
theorem Cp (R:B2 θ σ)(h:PutR σ k k'):Am θ k'=Am θ k:=by
 induction h with
 |num=>rfl
 |truth=>rfl
 |free _=>rfl
 |step h _ F=>rw[F];exact(R _ _ h).symm
 |to _ _ i1 i2=>rw[Am,Am,i1,i2]
theorem Fn (h:PutR σ k k'):∀m,In m k'->σ m=none:=by
 induction h with
 |num=>intro m h;cases h
 |truth=>intro m h;cases h
 |free h=>intro m h';cases h';exact h
 |step _ _ F=>exact F
 |to _ _ i1 i2 =>
  intro m h;cases h with
  |l h=>exact i1 m h
  |r h=>exact i2 m h
structure Tri (σ:Kn)(rk:Nat->Nat)(c:Nat):Prop where
 lt:∀n k,σ n=some k->rk n<c
 up:∀n k m,σ n=some k->In m k->σ m≠none->rk n<rk m
theorem Mn (T:Tri σ rk c):∀(d:Nat)(k:Kd),(∀m,In m k->σ m≠none->c<=rk m+d)->∃k',PutR σ k k'
 |d,.num,_=>⟨_,.num⟩
 |d,.truth,_=>⟨_,.truth⟩
 |d,.to x y,h=>by
  obtain⟨x',Y⟩:=Mn T d x λm F=>h m (.l F);obtain⟨Z,U⟩:=Mn T d y λm F=>h m (.r F);exact⟨_,.to Y U⟩
 |0,.any n,h=>by
  cases e:σ n with
  |none=>exact⟨_,.free e⟩
  |some k =>
   have:=h n .any (by rw[e];intro z;cases z);have:=T.lt n k e;lia
 |d+1,.any n,h=>by
  cases e:σ n with
  |none=>exact⟨_,.free e⟩
  |some k =>
   have h1:=h n .any (by rw[e];intro z;cases z);obtain⟨k',O⟩:=Mn T d k λm F I=>by
    have:=T.up n k m e F I;lia
   exact⟨k',.step e O⟩
termination_by d k=>(d,Bs k)
decreasing_by
 all_goals simp_wf
 all_goals first|(apply Prod.Lex.right;have:=Iz x;have:=Iz y;simp only[Bs];lia)|(apply Prod.Lex.left;lia)
theorem Tri.put (T:Tri σ rk c)(k:Kd):∃k',PutR σ k k':=Mn T c k λm _ _=>Nat.le_add_left _ _
theorem Tri.own (T:Tri σ rk c):∃θ:Nat->Kd,B2 θ σ/\∀k k',PutR σ k k'->Am θ k=k':=by
 let θ:Nat->Kd:=λn=>Uh (T.put (.any n));have F:∀n,PutR σ (.any n) (θ n):=λn=>Ri (T.put (.any n));have I:∀{k k':Kd},PutR σ k k'->Am θ k=k':=by
  intro k k' h
  induction h with
  |num=>rfl
  |truth=>rfl
  |free h=>exact(F _).det (.free h)
  |step h t _=>exact(F _).det (.step h t)
  |to _ _ i1 i2=>rw[Am,i1,i2]
 refine⟨θ,λn k e=>?_,λk k' h=>I h⟩;obtain⟨k',O⟩:=T.put k;rw[I O];exact(F n).det (.step e O)
inductive PutD (σ:Kn):Nat->Kd->Kd->Prop where
 |num {N:Nat}:PutD σ (N+1) .num .num
 |truth {N:Nat}:PutD σ (N+1) .truth .truth
 |free {N n:Nat} (h:σ n=none):PutD σ (N+1) (.any n) (.any n)
 |step {N n:Nat} {k k':Kd} (h:σ n=some k) (t:PutD σ N k k'):PutD σ (N+1) (.any n) k'
 |to {N:Nat} {x y x' y':Kd} (hx:PutD σ N x x') (hy:PutD σ N y y'):PutD σ (N+1) (.to x y) (.to x' y')
theorem PutD.up (h:PutD σ N k k'):∀{M:Nat},N<=M->PutD σ M k k':=by
 induction h with
 |num=>intro M F;obtain⟨M,rfl⟩:∃m,M=m+1:=⟨M-1,by lia⟩;exact .num
 |truth=>intro M F;obtain⟨M,rfl⟩:∃m,M=m+1:=⟨M-1,by lia⟩;exact .truth
 |free h=>intro M F;obtain⟨M,rfl⟩:∃m,M=m+1:=⟨M-1,by lia⟩;exact .free h
 |step h _ I=>intro M F;obtain⟨M,rfl⟩:∃m,M=m+1:=⟨M-1,by lia⟩;exact .step h (I (by lia))
 |to _ _ i1 i2=>intro M F;obtain⟨M,rfl⟩:∃m,M=m+1:=⟨M-1,by lia⟩;exact .to (i1 (by lia)) (i2 (by lia))
theorem Nk (T:Tri σ rk c)(h:PutR σ k k'):∀r,(∀m,In m k->σ m≠none->r<=rk m)->PutD σ (Bz k'+(c-r)+1) k k':=by
 induction h with
 |num=>exact λr _=>.num
 |truth=>exact λr _=>.truth
 |free h=>exact λr _=>.free h
 | @step n k k' h _ Z =>
  intro r O;have h1:=O n .any (by rw[h];intro z;cases z);have h2:=T.lt n k h;have:=Z (r+1) λm I F=>by
   have:=T.up n k m h I F;lia
  exact .step h (this.up (by lia))
 | @to x y Y U _ _ i1 i2 =>
  intro r O;have d1:=(i1 r λm I F=>O m (.l I) F);have d2:=(i2 r λm I F=>O m (.r I) F);have e:Bz (.to Y U)=max (Bz Y) (Bz U)+1:=rfl;exact .to (d1.up (by lia)) (d2.up (by lia))
noncomputable def Ee (i:Nat):Kd:=.to (.any (2*i)) (.any (2*i+1))
inductive Jn (s:Kd):Kd->Prop where
 |self {x y:Kd} (e:s=.to x y):Jn s (.to x y)
 |l {x y:Kd} (h:Jn s x):Jn s (.to x y)
 |r {x y:Kd} (h:Jn s y):Jn s (.to x y)
def Lb (M:Nat)(σ:Kn)(k:Kd):Prop:=∀s,Jn s k->∃i,i<M/\∀θ,B2 θ σ->Am θ s=Am θ (Ee i)
def Bn (M:Nat)(k:Kd):Prop:=∀m,In m k->m<2*M
structure KOk (M:Nat)(σ:Kn)(k:Kd):Prop where
 l:Lb M σ k
 b:Bn M k
theorem KOk.mono (h:KOk M σ k)(e:∀θ,B2 θ σ'->B2 θ σ):KOk M σ' k:=⟨λs F=>let ⟨i,h1,h2⟩:=h.l s F;⟨i,h1,λθ R=>h2 θ (e θ R)⟩,h.b⟩
theorem KOk.fst (h:KOk M σ (.to x y)):KOk M σ x:=⟨λs F=>h.l s (.l F),λm I=>h.b m (.l I)⟩
theorem KOk.snd (h:KOk M σ (.to x y)):KOk M σ y:=⟨λs F=>h.l s (.r F),λm I=>h.b m (.r I)⟩
structure KnOk (M:Nat)(σ:Kn)(rk:Nat->Nat)(c:Nat):Prop where
 t:Tri σ rk c
 f:c+un (2*M) (λn=>(σ n).isNone)<=2*M
 k:∀n k,σ n=some k->KOk M σ k
theorem Es (S:∀n k,σ n=some k->KOk M σ k)(h:PutR σ k k'):KOk M σ k->KOk M σ k':=by
 induction h with
 |num=>exact id
 |truth=>exact id
 |free _=>exact id
 |step h _ O=>exact λ_=>O (S _ _ h)
 | @to x y x' y' hx Z i1 i2 =>
  intro g;have F:=i1 g.fst;have I:=i2 g.snd;refine⟨λs U=>?_,λm Y=>?_⟩
  ·cases U with
   |self e =>
    obtain⟨i,h1,h2⟩:=g.l _ (.self rfl);refine⟨i,h1,λθ R=>?_⟩;rw[e,<- h2 θ R];exact Cp R (.to hx Z)
   |l h=>exact F.l s h
   |r h=>exact I.l s h
  ·cases Y with
   |l h=>exact F.b m h
   |r h=>exact I.b m h
theorem Ku:∀(M:Nat)(l:List Nat),l.Nodup->(∀x∈l,x<M)->l.length<=M
 |0,l,_,h=>by
  cases l with
  |nil=>exact Pk _
  |cons x r=>exact absurd (h x (by simp)) (Rv _)
 |M+1,l,I,h=>by
  have h1:=Ku M (l.erase M) (I.erase _) λx F=>by
   have h2:=h x (List.mem_of_mem_erase F);have O:x≠M:=λz=>by
    rw[z]at F;exact I.not_mem_erase F
   lia
  rw[List.length_erase]at h1;split at h1 <;> lia
theorem Zis (h:In m k):Bs (θ m)<=Bs (Am θ k):=by
 induction h with
 |any=>exact Pk _
 |l _ F=>rw[Am,Bs];lia
 |r _ F=>rw[Am,Bs];lia
theorem Zg0 (h:In m k)(ne:k≠.any m):Bs (θ m)<Bs (Am θ k):=by
 cases h with
 |any=>exact absurd rfl ne
 |l h=>have:=Zis (θ:=θ) h;rw[Am,Bs];lia
 |r h=>have:=Zis (θ:=θ) h;rw[Am,Bs];lia
theorem Zan (R:B2 θ σ):∀(k:Kd)(P:List Nat),Lb M σ k->P.Nodup->(∀i∈P,i<M/\Bs (Am θ k)<Bs (Am θ (Ee i)))->Bz k+P.length<=M
 |.num,P,_,O,F=>by have:=Ku M P O λx U=>(F x U).1;show 0+_<=_;lia
 |.truth,P,_,O,F=>by have:=Ku M P O λx U=>(F x U).1;show 0+_<=_;lia
 |.any _,P,_,O,F=>by have:=Ku M P O λx U=>(F x U).1;show 0+_<=_;lia
 |.to x y,P,Z,O,F=>by
  obtain⟨i,h1,h2⟩:=Z _ (.self rfl);have e:=congrArg Bs (h2 θ R);have es:Bs (Am θ (.to x y))=Bs (Am θ x)+Bs (Am θ y)+1:=by rw[Am,Bs]
  have hi:i ∉ P:=λz=>by have:=(F i z).2;lia
  have n':(i::P).Nodup:=Sb.mpr ⟨hi,O⟩;have px:=Iz (Am θ x);have py:=Iz (Am θ y);have d1:=Zan R x (i::P) (λs Y=>Z s (.l Y)) n' λj I=>by
   rcases Pm.mp I with rfl|I
   ·exact⟨h1,by lia⟩
   ·have:=F j I;exact⟨this.1,by lia⟩
  have d2:=Zan R y (i::P) (λs Y=>Z s (.r Y)) n' λj I=>by
   rcases Pm.mp I with rfl|I
   ·exact⟨h1,by lia⟩
   ·have:=F j I;exact⟨this.1,by lia⟩
  rw[Pw]at d1 d2;show max _ _+1+_<=_;lia
theorem KnOk.deep {M:Nat}{σ:Kn}{rk:Nat->Nat}{c:Nat}(S:KnOk M σ rk c){k:Kd}(h:KOk M σ k):Bz k<=M:=by
 obtain⟨θ,R,_⟩:=S.t.own;have:=Zan R k [] h.l Vq (λi h=>nomatch h);simpa using this
inductive C1:Nat->Kn->Kd->Kd->Option Kn->Prop where
 |eq {N:Nat} {σ:Kn} {a b k:Kd} (ha:PutR σ a k) (hb:PutR σ b k):C1 (N+1) σ a b (some σ)
 |bl {N n:Nat} {σ:Kn} {a b b':Kd} (ha:PutR σ a (.any n)) (hb:PutR σ b b') (ne:Kd.any n≠b') (ni:¬In n b'):C1 (N+1) σ a b (some (El σ n b'))
 |br {N n:Nat} {σ:Kn} {a b a':Kd} (ha:PutR σ a a') (hb:PutR σ b (.any n)) (na:∀m,a'≠.any m) (ni:¬In n a'):C1 (N+1) σ a b (some (El σ n a'))
 |clash {N:Nat} {σ:Kn} {a b a' b':Kd} (ha:PutR σ a a') (hb:PutR σ b b') (ne:a'≠b') (h1:∀m,a'=.any m->In m b') (h2:∀m,b'=.any m->In m a') (nt:(∀x y,a'≠.to x y)\/∀x y,b'≠.to x y):C1 (N+1) σ a b none
 |toT {N:Nat} {σ σ1:Kn} {a b x y x' y':Kd} {o:Option Kn} (ha:PutR σ a (.to x y)) (hb:PutR σ b (.to x' y')) (ne:Kd.to x y≠.to x' y') (k1:C1 N σ x x' (some σ1)) (k2:C1 N σ1 y y' o):C1 (N+1) σ a b o
 |toF {N:Nat} {σ:Kn} {a b x y x' y':Kd} (ha:PutR σ a (.to x y)) (hb:PutR σ b (.to x' y')) (ne:Kd.to x y≠.to x' y') (k1:C1 N σ x x' none):C1 (N+1) σ a b none
theorem O7 (hn:σ n=none)(R:B2 θ (El σ n k)):B2 θ σ/\θ n=Am θ k:=by
 refine⟨λm F e=>R m F ?_,R n k (if_pos rfl)⟩;have ne:m≠n:=λz=>by rw[z,hn]at e;cases e
 show(if m=n then some k else σ m)=some F;rw[if_neg ne];exact e
theorem Jw (h:C1 N σ a b o):∀σ',o=some σ'->∀θ,B2 θ σ'->B2 θ σ/\Am θ a=Am θ b:=by
 induction h with
 |eq ha hb=>intro σ' e θ R;cases e;exact⟨R,by rw[<- Cp R ha,<- Cp R hb]⟩
 |bl ha hb ne U =>
  intro σ' e θ R;cases e;obtain⟨F,I⟩:=O7 (Fn ha _ .any) R;exact⟨F,by rw[<- Cp F ha,<- Cp F hb];exact I⟩
 |br ha hb Z U =>
  intro σ' e θ R;cases e;obtain⟨F,I⟩:=O7 (Fn hb _ .any) R;exact⟨F,by rw[<- Cp F ha,<- Cp F hb];exact I.symm⟩
 |clash=>intro σ' e;cases e
 |toT ha hb ne k1 k2 i1 i2 =>
  intro σ' e θ R;obtain⟨F,Y⟩:=i2 σ' e θ R;obtain⟨O,I⟩:=i1 _ rfl θ F;exact⟨O,by rw[<- Cp O ha,<- Cp O hb,Am,Am,I,Y]⟩
 |toF=>intro σ' e;cases e
theorem Zfx (h:C1 N σ a b o):B2 θ σ->Am θ a=Am θ b->∃σ',o=some σ'/\B2 θ σ':=by
 have put:∀{σ:Kn}{n:Nat}{k:Kd},σ n=none->B2 θ σ->θ n=Am θ k->B2 θ (El σ n k):=λ{σ n k} hn R e m Y F=>by
  have F:(if m=n then some k else σ m)=some Y:=F;by_cases z:m=n
  ·rw[if_pos z]at F;cases F;rw[z];exact e
  ·rw[if_neg z]at F;exact R m Y F
 induction h with
 |eq ha hb=>exact λR _=>⟨_,rfl,R⟩
 |bl ha hb ne Z =>
  intro R e;rw[<- Cp R ha,<- Cp R hb]at e;exact⟨_,rfl,put (Fn ha _ .any) R e⟩
 |br ha hb na Z =>
  intro R e;rw[<- Cp R ha,<- Cp R hb]at e;exact⟨_,rfl,put (Fn hb _ .any) R e.symm⟩
 | @clash N σ a b a' I ha hb ne h1 h2 nt =>
  intro R e;rw[<- Cp R ha,<- Cp R hb]at e;exfalso;have ez:=congrArg Bs e;cases a' with
  |any m =>
   have:=Zg0 (θ:=θ) (h1 m rfl) (λz=>ne z.symm);have:Bs (Am θ (.any m))=Bs (θ m):=rfl;lia
  |num =>
   cases I with
   |any m=>have:=h2 m rfl;cases this
   |num=>exact ne rfl
   |truth=>cases e
   |to x y=>cases e
  |truth =>
   cases I with
   |any m=>have:=h2 m rfl;cases this
   |num=>cases e
   |truth=>exact ne rfl
   |to x y=>cases e
  |to x y =>
   cases I with
   |any m =>
    have:=Zg0 (θ:=θ) (h2 m rfl) ne;have:Bs (Am θ (.any m))=Bs (θ m):=rfl;lia
   |num=>cases e
   |truth=>cases e
   |to x' y' =>
    rcases nt with z|z
    ·exact z x y rfl
    ·exact z x' y' rfl
 |toT ha hb ne k1 k2 i1 i2 =>
  intro R e;rw[<- Cp R ha,<- Cp R hb,Am,Am]at e;injection e with e1 e2;obtain⟨O,z,U⟩:=i1 R e1;cases z;exact i2 U e2
 |toF ha hb ne k1 i1 =>
  intro R e;rw[<- Cp R ha,<- Cp R hb,Am,Am]at e;injection e with e1 e2;obtain⟨O,z,U⟩:=i1 R e1;cases z
theorem Zi8 (S:KnOk M σ rk c)(hn:σ n=none)(hb:n<2*M)(hk:KOk M σ k)(hf:∀m,In m k->σ m=none)(ni:¬In n k):KnOk M (El σ n k) (λm=>if m=n then c else rk m) (c+1):=by
 have mono:∀θ,B2 θ (El σ n k)->B2 θ σ:=λθ R=>(O7 hn R).1;have get:∀{m:Nat}{F:Kd},El σ n k m=some F->(m=n/\F=k)\/(m≠n/\σ m=some F):=λ{m F} h=>by
  have h:(if m=n then some k else σ m)=some F:=h;by_cases z:m=n
  ·rw[if_pos z]at h;cases h;exact .inl ⟨z,rfl⟩
  ·rw[if_neg z]at h;exact .inr ⟨z,h⟩
 refine⟨⟨λm F h=>?_,λm F j h O U=>?_⟩,?_,λm F h=>?_⟩
 ·rcases get h with⟨z,_⟩|⟨z,h⟩
  ·show(if m=n then c else rk m)<c+1;rw[if_pos z];lia
  ·show(if m=n then c else rk m)<c+1;rw[if_neg z];have:=S.t.lt m F h;lia
 ·rcases get h with⟨z,rfl⟩|⟨z,h⟩
  ·exfalso;have I:j≠n:=λz=>ni (z ▸ O);apply U;show(if j=n then some F else σ j)=none;rw[if_neg I];exact hf j O
  ·show(if m=n then c else rk m)<(if j=n then c else rk j);rw[if_neg z];by_cases zj:j=n
   ·rw[if_pos zj];exact S.t.lt m F h
   ·rw[if_neg zj];refine S.t.up m F j h O λz2=>U ?_;show(if j=n then some k else σ j)=none;rw[if_neg zj];exact z2
 ·have:=Lm (2*M) n (λm=>(σ m).isNone) (λm=>(El σ n k m).isNone) hb (by show(σ n).isNone=true;rw[hn];rfl) (by show(if n=n then some k else σ n).isNone=false;rw[if_pos rfl];rfl) (λi hi=>by show(if i=n then some k else σ i).isNone=_;rw[if_neg hi]);have:=S.f;lia
 ·rcases get h with⟨z,rfl⟩|⟨z,h⟩
  ·exact hk.mono mono
  ·exact(S.k m F h).mono mono
theorem Hq (h:C1 N σ a b o):∀σ',o=some σ'->∀rk c,KnOk M σ rk c->KOk M σ a->KOk M σ b->∃rk' c',KnOk M σ' rk' c':=by
 induction h with
 |eq ha hb=>intro σ' e rk c S _ _;cases e;exact⟨rk,c,S⟩
 |bl ha hb ne O =>
  intro σ' e rk c S I F;cases e;exact⟨_,_,Zi8 S (Fn ha _ .any) ((Es S.k ha I).b _ .any) (Es S.k hb F) (Fn hb) O⟩
 |br ha hb na O =>
  intro σ' e rk c S I F;cases e;exact⟨_,_,Zi8 S (Fn hb _ .any) ((Es S.k hb F).b _ .any) (Es S.k ha I) (Fn ha) O⟩
 |clash=>intro σ' e;cases e
 |toT ha hb ne k1 k2 i1 i2 =>
  intro σ' e rk c S I F;have Y:=Es S.k ha I;have Z:=Es S.k hb F;obtain⟨U,c1,S1⟩:=i1 _ rfl rk c S Y.fst Z.fst;have mono:∀θ,B2 θ _->B2 θ _:=λθ R=>(Jw k1 _ rfl θ R).1;exact i2 σ' e U c1 S1 (Y.snd.mono mono) (Z.snd.mono mono)
 |toF=>intro σ' e;cases e
theorem Zcr:∀(N:Nat)(P:List Nat)(σ:Kn)(rk:Nat->Nat)(c:Nat)(a b:Kd),KnOk M σ rk c->KOk M σ a->KOk M σ b->P.Nodup->N+P.length=M+1->(∀i∈P,i<M/\∀θ,B2 θ σ->Bs (Am θ a)<Bs (Am θ (Ee i)))->∃o,C1 N σ a b o
 |0,P,σ,rk,c,a,b,S,ka,kb,hn,hl,I=>by
  have:=Ku M P hn λx hx=>(I x hx).1;lia
 |N+1,P,σ,rk,c,a,b,S,ka,kb,hn,hl,I=>by
  obtain⟨a',ha⟩:=S.t.put a;obtain⟨U,hb⟩:=S.t.put b;have Z:=Es S.k ha ka;have lb:=Es S.k hb kb;by_cases e:a'=U
  ·subst e;exact⟨_,.eq ha hb⟩
  cases a' with
  |any n =>
   by_cases i:In n U
   ·refine⟨_,.clash ha hb e (λm z=>by cases z;exact i) (λm z=>?_) (.inl λx y z=>by cases z)⟩;rw[z]at i e;cases i;exact absurd rfl e
   ·exact⟨_,.bl ha hb e i⟩
  |num =>
   cases U with
   |any n=>exact⟨_,.br ha hb (λm z=>by cases z) (λz=>by cases z)⟩
   |num=>exact absurd rfl e
   |truth=>exact⟨_,.clash ha hb e (λm z=>by cases z) (λm z=>by cases z) (.inl λx y z=>by cases z)⟩
   |to x y=>exact⟨_,.clash ha hb e (λm z=>by cases z) (λm z=>by cases z) (.inl λx y z=>by cases z)⟩
  |truth =>
   cases U with
   |any n=>exact⟨_,.br ha hb (λm z=>by cases z) (λz=>by cases z)⟩
   |truth=>exact absurd rfl e
   |num=>exact⟨_,.clash ha hb e (λm z=>by cases z) (λm z=>by cases z) (.inl λx y z=>by cases z)⟩
   |to x y=>exact⟨_,.clash ha hb e (λm z=>by cases z) (λm z=>by cases z) (.inl λx y z=>by cases z)⟩
  |to x y =>
   cases U with
   |any n =>
    by_cases i:In n (.to x y)
    ·exact⟨_,.clash ha hb e (λm z=>by cases z) (λm z=>by cases z;exact i) (.inr λx y z=>by cases z)⟩
    ·exact⟨_,.br ha hb (λm z=>by cases z) i⟩
   |num=>exact⟨_,.clash ha hb e (λm z=>by cases z) (λm z=>by cases z) (.inr λx y z=>by cases z)⟩
   |truth=>exact⟨_,.clash ha hb e (λm z=>by cases z) (λm z=>by cases z) (.inr λx y z=>by cases z)⟩
   |to x' y' =>
    obtain⟨i,h1,h2⟩:=Z.l _ (.self rfl);have sz:∀θ,B2 θ σ->Bs (Am θ x)<Bs (Am θ (Ee i))/\Bs (Am θ y)<Bs (Am θ (Ee i))/\Bs (Am θ (Ee i))=Bs (Am θ a):=λθ R=>by
     have e1:=congrArg Bs (h2 θ R);have e2:=congrArg Bs (Cp R ha);have es:Bs (Am θ (.to x y))=Bs (Am θ x)+Bs (Am θ y)+1:=by rw[Am,Bs]
     have:=Iz (Am θ x);have:=Iz (Am θ y);exact⟨by lia,by lia,by lia⟩
    obtain⟨Y,R0,_⟩:=S.t.own;have hi:i ∉ P:=λz=>by
     have a1:=(I i z).2 Y R0;have a2:=(sz Y R0).2.2;lia
    have n':(i::P).Nodup:=Sb.mpr ⟨hi,hn⟩;obtain⟨o1,k1⟩:=Zcr N (i::P) σ rk c x x' S Z.fst lb.fst n' (by rw[Pw];lia) λj F=>by
     rcases Pm.mp F with rfl|F
     ·exact⟨h1,λθ R=>(sz θ R).1⟩
     ·refine⟨(I j F).1,λθ R=>?_⟩;have a1:=(I j F).2 θ R;have a2:=sz θ R;lia
    cases o1 with
    |none=>exact⟨_,.toF ha hb e k1⟩
    |some O =>
     obtain⟨aa,c1,S1⟩:=Hq k1 O rfl rk c S Z.fst lb.fst;have mono:∀θ,B2 θ O->B2 θ σ:=λθ R=>(Jw k1 _ rfl θ R).1;obtain⟨o,k2⟩:=Zcr N (i::P) O aa c1 y y' S1 (Z.snd.mono mono) (lb.snd.mono mono) n' (by rw[Pw];lia) λj F=>by
      rcases Pm.mp F with rfl|F
      ·exact⟨h1,λθ R=>(sz θ (mono θ R)).2.1⟩
      ·refine⟨(I j F).1,λθ R=>?_⟩;have a1:=(I j F).2 θ (mono θ R);have a2:=sz θ (mono θ R);lia
     exact⟨o,.toT ha hb e k1 k2⟩
noncomputable def Ci (i:Nat):Kd:=.any (2*i)
noncomputable def twoK (i:Nat):Kd:=.any (2*i+1)
noncomputable def Bx (w:Str)(n:Dt)(i:Nat)(ar:List (Str×Kd)):Kd :=
 if w="num"\/w="plus"\/w="minus" then .num else if w="truth"\/w="less" then .truth else if w="fn"\/w="rec" then Ee i else if w="let"\/w="call" then twoK i else if w="name" then (Cd ar (Cz n)).getD (Ci i) else Ci i
noncomputable def Bj (w:Str)(i:Nat):List Kd :=
 if w="plus"\/w="minus"\/w="less" then [.num,.num] else if w="if" then [.truth,Ci i,Ci i] else if w="call" then [Ee i,Ci i] else if w="let" then [Ci i,twoK i] else if w="fn"\/w="rec" then [twoK i] else []
mutual
noncomputable def B1:Nat->List (Str×Kd)->Option Kd->Tr->List (Kd×Option Kd)
 |i,F,ask,.mk w n ts=>(Bx w n i F,ask)::Ca (i+1) w n i F 0 ts
noncomputable def Ca:Nat->Str->Dt->Nat->List (Str×Kd)->Nat->List Tr->List (Kd×Option Kd)
 |_,_,_,_,_,_,[]=>[]
 |s,w,n,i,F,j,t::ts=>B1 s (Ew w n (Bx w n i F) j (Bj w i) F) ((Bj w i)[j]?) t++Ca (s+t.size) w n i F (j+1) ts
end
theorem Zrp (hw:w∈Ec)(n:Dt)(i:Nat)(ar:List (Str×Kd)):F8 w (Bx w n i ar) (Bj w i)/\Zg5 w n (Bx w n i ar) ar:=by
 simp only[Ec,Pm,P6,or_false]at hw;rcases hw with rfl|rfl|rfl|rfl|rfl|rfl|rfl|rfl|rfl|rfl|rfl|rfl|rfl
 ·exact⟨.nil (by simp),λz=>absurd z (by right),λz=>absurd z (by right),λz=>absurd z (by right)⟩
 ·exact⟨.nil (by simp),λz=>absurd z (by right),λz=>absurd z (by right),λz=>absurd z (by right)⟩
 ·exact⟨.nil (by simp),λ_=>rfl,λz=>absurd z (by right),λz=>absurd z (by right)⟩
 ·exact⟨.nil (by simp),λz=>absurd z (by right),λ_=>rfl,λz=>absurd z (by right)⟩
 ·refine⟨.nil (by simp),λz=>absurd z (by right),λz=>absurd z (by right),λ_=>?_⟩;cases e:Cd ar (Cz n) with
  |none=>exact .inl rfl
  |some k =>
   refine .inr ?_;show some k=some ((Cd ar (Cz n)).getD (Ci i));rw[e];rfl
 ·exact⟨.plus (.inl rfl),λz=>absurd z (by right),λz=>absurd z (by right),λz=>absurd z (by right)⟩
 ·exact⟨.plus (.inr rfl),λz=>absurd z (by right),λz=>absurd z (by right),λz=>absurd z (by right)⟩
 ·exact⟨.less,λz=>absurd z (by right),λz=>absurd z (by right),λz=>absurd z (by right)⟩
 ·exact⟨.ite,λz=>absurd z (by right),λz=>absurd z (by right),λz=>absurd z (by right)⟩
 ·exact⟨.call,λz=>absurd z (by right),λz=>absurd z (by right),λz=>absurd z (by right)⟩
 ·exact⟨.lt,λz=>absurd z (by right),λz=>absurd z (by right),λz=>absurd z (by right)⟩
 ·exact⟨.fn (.inl rfl),λz=>absurd z (by right),λz=>absurd z (by right),λz=>absurd z (by right)⟩
 ·exact⟨.fn (.inr rfl),λz=>absurd z (by right),λz=>absurd z (by right),λz=>absurd z (by right)⟩
def RelN (th:List Kd)(e:Ev)(ar:List (Str×Kd)):Prop:=∀s,(e s=none/\Cd ar s=none)\/∃x k,e s=some x/\Cd ar s=some k/\th[x]?=some k
theorem RelN.more (h:RelN th e ar)(p:th <+: th'):RelN th' e ar:=λs=>(h s).imp id λ⟨x,k,h1,h2,F⟩=>⟨x,k,h1,h2,Cs p F⟩
theorem Zhq:∀(ns:List Str)(xs:List Nat)(ks:List Kd)(e:Ev)(ar:List (Str×Kd)),RelN th e ar->xs.length=ks.length->(∀(j x:Nat)(k:Kd),xs[j]?=some x->ks[j]?=some k->th[x]?=some k)->RelN th (Cv e ns xs) (ar++ns.zip ks)
 |[],xs,ks,e,ar,h,_,_=>by rw[Vg,Qj];exact h
 |n::ns,[],[],e,ar,h,_,_=>by rw[List.zip_nil_right,Qj];exact h
 |n::ns,[],_::_,e,ar,h,F,_=>by cases F
 |n::ns,_::_,[],e,ar,h,F,_=>by cases F
 |n::ns,x::xs,k::ks,e,ar,h,F,O=>by
  have h2:=Zhq ns xs ks (λs=>if s=n then some x else e s) (ar++[(n,k)]) (λs=>by
   show((if s=n then some x else e s)=none/\_)\/∃x' k',(if s=n then some x else e s)=some x'/\_;rw[Zcb];by_cases z:s=n
   ·rw[if_pos z,if_pos z.symm];exact .inr ⟨x,k,rfl,rfl,O 0 x k rfl rfl⟩
   ·rw[if_neg z,if_neg (λq=>z q.symm)];exact h s) (by simpa using F) λj x k U I=>O (j+1) x k (by simpa using U) (by simpa using I)
  rw[Qi]at h2;exact h2
def AskR (th:List Kd)(a:Option Nat)(ask:Option Kd):Prop:=(a=none/\ask=none)\/∃x k,a=some x/\ask=some k/\th[x]?=some k
mutual
theorem ow_t:∀(t:Tr)(i:Nat)(ar:List (Str×Kd))(ask:Option Kd)(sh:Af)(e:Ev)(a:Option Nat)(ps:List (Nat×Nat))(sh':Af)(th:List Kd),WT t->Jd t sh e a ps sh'->th.length=sh.length->D4 th sh->th[0]?=some .num->th[1]?=some .truth->RelN th e ar->AskR th a ask ->
  ∃th',th <+: th'/\th'.length=sh'.length/\D4 th' sh'/\ps.length=(B1 i ar ask t).length/\∀(j:Nat)(p:Nat×Nat)(r:Kd×Option Kd),ps[j]?=some p->(B1 i ar ask t)[j]?=some r->th'[p.1]?=some r.1/\th'[p.2]?=some (r.2.getD r.1)
 |.mk w n ts,i,ar,ask,sh,e,a,ps,sh',th,G,o,hl,S,t0,t1,Z,ha=>by
  cases G with
  |mk hw hc =>
  cases o with
  | @mk _ _ _ _ _ _ _ Y hs ae k =>
  obtain⟨ak,lf⟩:=Zrp hw n i ar;have B:=Zq4 (n:=n) S hl t0 t1 ak lf;have pr:th <+: th++Fi w (Bx w n i ar) (Bj w i):=Rj _ _;have U:(th++Fi w (Bx w n i ar) (Bj w i)).length=(sh++(Az sh.length w).2.2.2).length:=by rw[Pr,Pr,B.len,hl]
  obtain⟨th',O,p2,p3,p4,p5⟩:=ow_l ts 0 (i+1) w n i ar _ _ _ Y sh' (th++Fi w (Bx w n i ar) (Bj w i)) hc k U B.sol (Cs pr t0) (Cs pr t1) (λj=>Zhq _ _ _ _ _ (Z.more pr) B.env.1 B.env.2) (λj=>by
   have aa:=(B.arg j).1;by_cases hj:j<(Bj w i).length
   ·have e1:(Bj w i)[j]?=some ((Bj w i)[j]):=Pj hj;have e2:(Az sh.length w).2.1[j]?=some ((Az sh.length w).2.1[j]'(by lia)):=Pj (by lia);exact .inr ⟨_,_,e2,e1,(B.arg j).2 _ _ e2 e1⟩
   ·exact .inl ⟨Rq (by lia),Rq (by lia)⟩)
  have g1:(th++Fi w (Bx w n i ar) (Bj w i))[Dd sh.length w n e]?=some (Bx w n i ar):=by
   by_cases F:w="name"
   ·subst F;show(th++Fi "name" (Bx "name" n i ar) (Bj "name" i))[(e (Cz n)).getD sh.length]?=some (Bx "name" n i ar);rcases Z (Cz n) with⟨I,hy⟩|⟨x,k,I,hy,hz⟩
    ·rw[I];exact B.nam rfl
    ·rw[I];have eg:Bx "name" n i ar=k:=by show(Cd ar (Cz n)).getD (Ci i)=k;rw[hy];rfl
     rw[eg];exact Cs (Rj _ _) hz
   ·rw[Zja F];exact B.giv F
  have eo:B1 i ar ask (.mk w n ts)=(Bx w n i ar,ask)::Ca (i+1) w n i ar 0 ts:=by rw[B1]
  rw[eo];refine⟨th',pr.trans O,p2,p3,by rw[Pw,Pw,p4],λj p r hp hk=>?_⟩;cases j with
  |zero =>
   cases hp;cases hk;refine⟨Cs O g1,?_⟩;rcases ha with⟨rfl,rfl⟩|⟨x,k,rfl,rfl,I⟩
   ·exact Cs O g1
   ·exact Cs (pr.trans O) I
  |succ j=>exact p5 j p r (by simpa using hp) (by simpa using hk)
theorem ow_l:∀(ts:List Tr)(j s:Nat)(w:Str)(n:Dt)(i:Nat)(ar:List (Str×Kd))(sh:Af)(f:Nat->Ev)(d:Nat->Option Nat)(ps:List (Nat×Nat))(sh':Af)(th:List Kd),(∀t∈ts,WT t)->Gk j ts sh f d ps sh'->th.length=sh.length->D4 th sh->th[0]?=some .num->th[1]?=some .truth->(∀j,RelN th (f j) (Ew w n (Bx w n i ar) j (Bj w i) ar))->(∀j,AskR th (d j) ((Bj w i)[j]?)) ->
  ∃th',th <+: th'/\th'.length=sh'.length/\D4 th' sh'/\ps.length=(Ca s w n i ar j ts).length/\∀(q:Nat)(p:Nat×Nat)(r:Kd×Option Kd),ps[q]?=some p->(Ca s w n i ar j ts)[q]?=some r->th'[p.1]?=some r.1/\th'[p.2]?=some (r.2.getD r.1)
 |[],j,s,w,n,i,ar,sh,f,d,ps,sh',th,G,o,hl,S,t0,t1,U,hd=>by
  cases o;exact⟨th,Qz,hl,S,by rw[Ca];rfl,λi p k F=>by simp at F⟩
 |t::ts,j,s,w,n,i,ar,sh,f,d,ps,sh',th,G,o,hl,S,t0,t1,U,hd=>by
  cases o with
  | @cons _ _ _ _ ah _ _ _ Z ae o1 o2 =>
  obtain⟨ag,I,p2,p3,p4,p5⟩:=ow_t t s _ _ _ _ _ _ _ _ (G t (by simp)) o1 hl S t0 t1 (U j) (hd j);obtain⟨aa,Y,q2,q3,q4,q5⟩:=ow_l ts (j+1) (s+t.size) w n i ar _ _ _ _ _ _ (λu hu=>G u (by simp[hu])) o2 p2 p3 (Cs I t0) (Cs I t1) (λj=>(U j).more I) (λj=>(hd j).imp id λ⟨x,k,h1,h2,h3⟩=>⟨x,k,h1,h2,Cs I h3⟩);have eo:Ca s w n i ar j (t::ts)=B1 s (Ew w n (Bx w n i ar) j (Bj w i) ar) ((Bj w i)[j]?) t++Ca (s+t.size) w n i ar (j+1) ts:=by rw[Ca]
  rw[eo];refine⟨aa,I.trans Y,q2,q3,by rw[Pr,Pr,p4,q4],λq p r F O=>?_⟩;by_cases hq:q<Z.length
  ·rw[Qh hq]at F;rw[Qh (by lia)]at O;obtain⟨g1,g2⟩:=p5 q p r F O;exact⟨Cs Y g1,Cs Y g2⟩
  ·rw[Qk (by lia)]at F;rw[Qk (by lia)]at O;exact q5 _ p r F (by rw[p4];exact O)
end
mutual
theorem Hf:∀(t:Tr){i:Nat}{ar:List (Str×Kd)}{ask:Option Kd},(B1 i ar ask t).length=t.size
 |.mk w n ts,i,ar,ask=>by rw[B1,Pw,Tr.size,Zdv ts];lia
theorem Zdv:∀(ts:List Tr){s:Nat}{w:Str}{n:Dt}{i:Nat}{ar:List (Str×Kd)}{j:Nat},(Ca s w n i ar j ts).length=Ax ts
 |[],s,w,n,i,ar,j=>by rw[Ca,Ax];rfl
 |t::ts,s,w,n,i,ar,j=>by rw[Ca,Pr,Hf t,Zdv ts,Ax]
end
def Od (P:Nat->Kd->Prop)(e:Ev)(ar:List (Str×Kd)):Prop:=∀s,(e s=none/\Cd ar s=none)\/∃x k,e s=some x/\Cd ar s=some k/\P x k
theorem Zfz:∀(ns:List Str)(xs:List Nat)(ks:List Kd)(e:Ev)(ar:List (Str×Kd)),Od P e ar->xs.length=ks.length->(∀(j x:Nat)(k:Kd),xs[j]?=some x->ks[j]?=some k->P x k)->Od P (Cv e ns xs) (ar++ns.zip ks)
 |[],xs,ks,e,ar,h,_,_=>by rw[Vg,Qj];exact h
 |n::ns,[],[],e,ar,h,_,_=>by rw[List.zip_nil_right,Qj];exact h
 |n::ns,[],_::_,e,ar,h,F,_=>by cases F
 |n::ns,_::_,[],e,ar,h,F,_=>by cases F
 |n::ns,x::xs,k::ks,e,ar,h,F,O=>by
  have h2:=Zfz ns xs ks (λs=>if s=n then some x else e s) (ar++[(n,k)]) (λs=>by
   show((if s=n then some x else e s)=none/\_)\/∃x' k',(if s=n then some x else e s)=some x'/\_;rw[Zcb];by_cases z:s=n
   ·rw[if_pos z,if_pos z.symm];exact .inr ⟨x,k,rfl,rfl,O 0 x k rfl rfl⟩
   ·rw[if_neg z,if_neg (λq=>z q.symm)];exact h s) (by simpa using F) λj x k U I=>O (j+1) x k (by simpa using U) (by simpa using I)
  rw[Qi]at h2;exact h2
structure FmQ (Θ θ':Nat->Kd)(m i:Nat)(w:Str)(n:Dt)(ar:List (Str×Kd)):Prop where
 giv:w≠"name" -> Θ (Az m w).1=Am θ' (Bx w n i ar)
 nam:w="name" -> Θ m=Am θ' (Ci i)
 argl:(Az m w).2.1.length=(Bj w i).length
 arg:∀(j x:Nat)(k:Kd),(Az m w).2.1[j]?=some x->(Bj w i)[j]?=some k->Θ x=Am θ' k
 envl:(Az m w).2.2.1.length=(Gr w (Bx w n i ar) (Bj w i)).length
 env:∀(j x:Nat)(k:Kd),(Az m w).2.2.1[j]?=some x->(Gr w (Bx w n i ar) (Bj w i))[j]?=some k->Θ x=Am θ' k
theorem fm_q (hw:w∈Ec)(h0:Θ 0=.num)(h1:Θ 1=.truth)(e1:θ' (2*i)=Θ m)(e2:θ' (2*i+1)=Θ (m+1))(e3:(w="fn"\/w="rec"\/w="call")->Θ (m+2)=.to (Θ m) (Θ (m+1))):FmQ Θ θ' m i w n ar:=by
 have k1:Am θ' (Ci i)=Θ m:=e1;have k2:Am θ' (twoK i)=Θ (m+1):=e2;have k3:Am θ' (Ee i)=.to (Θ m) (Θ (m+1)):=by show Kd.to (θ' (2*i)) (θ' (2*i+1))=_;rw[e1,e2]
 simp only[Ec,Pm,P6,or_false]at hw;have F:∀{P:Nat->Kd->Prop}(j x:Nat)(k:Kd),([]:List Nat)[j]?=some x->([]:List Kd)[j]?=some k->P x k:=λj x k h=>by simp at h
 have c1:∀{P:Nat->Kd->Prop}{a:Nat}{b:Kd},P a b->∀(j x:Nat)(k:Kd),[a][j]?=some x->[b][j]?=some k->P x k:=λ{P a b} h j x k O I=>by
  match j,O,I with
  |0,O,I=>cases O;cases I;exact h
 have Z:∀{P:Nat->Kd->Prop}{a Y:Nat}{b U:Kd},P a b->P Y U->∀(j x:Nat)(k:Kd),[a,Y][j]?=some x->[b,U][j]?=some k->P x k:=λ{P a Y b U} h h' j x k O I=>by
  match j,O,I with
  |0,O,I=>cases O;cases I;exact h
  |1,O,I=>cases O;cases I;exact h'
 have c3:∀{P:Nat->Kd->Prop}{a Y a2:Nat}{b U b2:Kd},P a b->P Y U->P a2 b2->∀(j x:Nat)(k:Kd),[a,Y,a2][j]?=some x->[b,U,b2][j]?=some k->P x k:=λ{P a Y a2 b U b2} h h' h2 j x k O I=>by
  match j,O,I with
  |0,O,I=>cases O;cases I;exact h
  |1,O,I=>cases O;cases I;exact h'
  |2,O,I=>cases O;cases I;exact h2
 rcases hw with rfl|rfl|rfl|rfl|rfl|rfl|rfl|rfl|rfl|rfl|rfl|rfl|rfl
 ·exact⟨λ_=>k1.symm,λz=>absurd z (by right),rfl,F,rfl,F⟩
 ·exact⟨λ_=>k1.symm,λz=>absurd z (by right),rfl,F,rfl,F⟩
 ·exact⟨λ_=>h0,λz=>absurd z (by right),rfl,F,rfl,F⟩
 ·exact⟨λ_=>h1,λz=>absurd z (by right),rfl,F,rfl,F⟩
 ·exact⟨λz=>absurd rfl z,λ_=>k1.symm,rfl,F,rfl,F⟩
 ·exact⟨λ_=>h0,λz=>absurd z (by right),rfl,Z h0 h0,rfl,F⟩
 ·exact⟨λ_=>h0,λz=>absurd z (by right),rfl,Z h0 h0,rfl,F⟩
 ·exact⟨λ_=>h1,λz=>absurd z (by right),rfl,Z h0 h0,rfl,F⟩
 ·exact⟨λ_=>k1.symm,λz=>absurd z (by right),rfl,c3 h1 k1.symm k1.symm,rfl,F⟩
 ·exact⟨λ_=>k2.symm,λz=>absurd z (by right),rfl,Z ((e3 (.inr (.inr rfl))).trans k3.symm) k1.symm,rfl,F⟩
 ·exact⟨λ_=>k2.symm,λz=>absurd z (by right),rfl,Z k1.symm k2.symm,rfl,c1 k1.symm⟩
 ·exact⟨λ_=>(e3 (.inl rfl)).trans k3.symm,λz=>absurd z (by right),rfl,c1 k2.symm,rfl,c1 k1.symm⟩
 ·exact⟨λ_=>(e3 (.inr (.inl rfl))).trans k3.symm,λz=>absurd z (by right),rfl,c1 k2.symm,rfl,Z ((e3 (.inr (.inl rfl))).trans k3.symm) k1.symm⟩
theorem Zqo {m:Nat}{w:Str}(h:w="fn"\/w="rec"\/w="call"):(Az m w).2.2.2=[.any,.any,.to m (m+1)]:=by
 rcases h with rfl|rfl|rfl <;> rfl
def AskQ (Θ θ':Nat->Kd)(a:Option Nat)(ask:Option Kd):Prop:=(a=none/\ask=none)\/∃x k,a=some x/\ask=some k/\Θ x=Am θ' k
def BsQ (Θ θ':Nat->Kd)(i:Nat)(bs:List Nat):Prop:=∀q b,bs[q]?=some b->θ' (2*(i+q))=Θ b/\θ' (2*(i+q)+1)=Θ (b+1)
theorem BsQ.l (h:BsQ Θ θ' i (b1++b2)):BsQ Θ θ' i b1:=λq b e=>h q b (by rw[Qh (Pq.mp e).1];exact e)
theorem BsQ.r (h:BsQ Θ θ' i (b1++b2)):BsQ Θ θ' (i+b1.length) b2:=λq b e=>by
 have:=h (b1.length+q) b (by rw[Qk (by lia),Nat.add_sub_cancel_left];exact e);rw[<- Nat.add_assoc]at this;exact this
mutual
theorem ow_b:∀(t:Tr)(i:Nat)(ar:List (Str×Kd))(ask:Option Kd)(sh:Af)(e:Ev)(a:Option Nat)(ps:List (Nat×Nat))(sh':Af),WT t->Jd t sh e a ps sh'->sh <+: sh'/\∃bs:List Nat,bs.length=t.size/\∀(F:Af)(Θ θ':Nat->Kd),sh' <+: F->SolM Θ F->Θ 0=.num->Θ 1=.truth->BsQ Θ θ' i bs->Od (λx k=>Θ x=Am θ' k) e ar->AskQ Θ θ' a ask->∀(j:Nat)(p:Nat×Nat)(r:Kd×Option Kd),ps[j]?=some p->(B1 i ar ask t)[j]?=some r->Θ p.1=Am θ' r.1/\Θ p.2=Am θ' (r.2.getD r.1)
 |.mk w n ts,i,ar,ask,sh,e,a,ps,sh',G,o=>by
  cases G with
  |mk hw hc =>
  cases o with
  | @mk _ _ _ _ _ _ _ ae hs ah k =>
  obtain⟨pre,bs,Y,hb⟩:=Zgj ts 0 (i+1) w n i ar _ _ _ ae sh' hc k;refine⟨(Rj _ _).trans pre,sh.length::bs,by rw[Pw,Tr.size,Y];lia,λF Θ θ' hF S h0 h1 hB U ha=>?_⟩;obtain⟨b1,b2⟩:=hB 0 sh.length rfl;rw[Nat.add_zero]at b1 b2;have Q:=fm_q (n:=n) (ar:=ar) hw h0 h1 b1 b2 (λz=>by
   have pF:=pre.trans hF;rw[Zqo z]at pF;refine S.to _ _ _ ?_;obtain⟨r,U⟩:=pF;rw[<- U,Qh (by simp),Qk (by lia)];simp)
  have Z:BsQ Θ θ' (i+1) bs:=λq b e=>by
   have:=hB (q+1) b (by simpa using e);rw[show i+(q+1)=i+1+q by lia]at this;exact this
  have aa:=hb F Θ θ' hF S h0 h1 Z (λj=>Zfz _ _ _ _ _ U Q.envl Q.env) (λj=>by
   have ag:=Q.argl;by_cases hj:j<(Bj w i).length
   ·have e1:(Bj w i)[j]?=some ((Bj w i)[j]):=Pj hj;have e2:(Az sh.length w).2.1[j]?=some ((Az sh.length w).2.1[j]'(by lia)):=Pj (by lia);exact .inr ⟨_,_,e2,e1,Q.arg j _ _ e2 e1⟩
   ·exact .inl ⟨Rq (by lia),Rq (by lia)⟩)
  have g1:Θ (Dd sh.length w n e)=Am θ' (Bx w n i ar):=by
   by_cases I:w="name"
   ·subst I;show Θ ((e (Cz n)).getD sh.length)=Am θ' ((Cd ar (Cz n)).getD (Ci i));rcases U (Cz n) with⟨O,hy⟩|⟨x,k,O,hy,hz⟩
    ·rw[O,hy];exact Q.nam rfl
    ·rw[O,hy];exact hz
   ·rw[Zja I];exact Q.giv I
  have eo:B1 i ar ask (.mk w n ts)=(Bx w n i ar,ask)::Ca (i+1) w n i ar 0 ts:=by rw[B1]
  rw[eo];intro j p r hp hk;cases j with
  |zero =>
   cases hp;cases hk;refine⟨g1,?_⟩;rcases ha with⟨rfl,rfl⟩|⟨x,k,rfl,rfl,O⟩
   ·exact g1
   ·exact O
  |succ j=>exact aa j p r (by simpa using hp) (by simpa using hk)
theorem Zgj:∀(ts:List Tr)(j s:Nat)(w:Str)(n:Dt)(i:Nat)(ar:List (Str×Kd))(sh:Af)(f:Nat->Ev)(d:Nat->Option Nat)(ps:List (Nat×Nat))(sh':Af),(∀t∈ts,WT t)->Gk j ts sh f d ps sh'->sh <+: sh'/\∃bs:List Nat,bs.length=Ax ts/\∀(F:Af)(Θ θ':Nat->Kd),sh' <+: F->SolM Θ F->Θ 0=.num->Θ 1=.truth->BsQ Θ θ' s bs->(∀j,Od (λx k=>Θ x=Am θ' k) (f j) (Ew w n (Bx w n i ar) j (Bj w i) ar))->(∀j,AskQ Θ θ' (d j) ((Bj w i)[j]?))->∀(q:Nat)(p:Nat×Nat)(r:Kd×Option Kd),ps[q]?=some p->(Ca s w n i ar j ts)[q]?=some r->Θ p.1=Am θ' r.1/\Θ p.2=Am θ' (r.2.getD r.1)
 |[],j,s,w,n,i,ar,sh,f,d,ps,sh',G,o=>by
  cases o;exact⟨Qz,[],by rw[Ax];rfl,λF Θ θ' _ _ _ _ _ _ _ q p r I=>by simp at I⟩
 |t::ts,j,s,w,n,i,ar,sh,f,d,ps,sh',G,o=>by
  cases o with
  | @cons _ _ _ _ ai _ _ _ O ah o1 o2 =>
  obtain⟨ae,ag,l1,k1⟩:=ow_b t s (Ew w n (Bx w n i ar) j (Bj w i) ar) ((Bj w i)[j]?) _ _ _ _ _ (G t (by simp)) o1;obtain⟨U,aa,l2,k2⟩:=Zgj ts (j+1) (s+t.size) w n i ar _ _ _ _ _ (λu hu=>G u (by simp[hu])) o2;have eo:Ca s w n i ar j (t::ts)=B1 s (Ew w n (Bx w n i ar) j (Bj w i) ar) ((Bj w i)[j]?) t++Ca (s+t.size) w n i ar (j+1) ts:=by rw[Ca]
  rw[eo];refine⟨ae.trans U,ag++aa,by rw[Pr,l1,l2,Ax],λF Θ θ' hF S h0 h1 hB hr hd q p r I Z=>?_⟩;have a1:=k1 F Θ θ' (U.trans hF) S h0 h1 hB.l (hr j) (hd j);have a2:=k2 F Θ θ' hF S h0 h1 (by rw[<- l1];exact hB.r) hr hd;have Y:O.length=(B1 s (Ew w n (Bx w n i ar) j (Bj w i) ar) ((Bj w i)[j]?) t).length:=by rw[Hf t,(Zeq t [] _ _ _ _ _ o1).1,D5]
  by_cases hq:q<O.length
  ·rw[Qh hq]at I;rw[Qh (by lia)]at Z;exact a1 q p r I Z
  ·rw[Qk (by lia)]at I;rw[Qk (by lia)]at Z;exact a2 _ p r I (by rw[Y];exact Z)
end
theorem Zfe (ht:Cj m)(hb:Bd m)(ha:Fk m)(h0:∀i,m[i]?=some .num->i=0)(h1:∀i,m[i]?=some .truth->i=1)(tk:Gn m td):∃Θ:Nat->Kd,SolM Θ m/\∀x r k,Last m x r->td r=some k->Θ x=k:=by
 obtain⟨n,Z,_,hn⟩:=Zif ht hb ha _ (Pn m.length) rfl (λx U=>Q0.mp U) td 0;have tok:=Zhj hn tk;have all:=(Nd hn).2;have root:∀x,x<m.length->∃r k,Last m x r/\Z r=some k:=λx U=>all x (Q0.mpr U);let Θ:Nat->Kd:=λx=>if h:x<m.length then Uh (Ri (root x h)) else .num
 have I:∀x,x<m.length->∃r,Last m x r/\Z r=some (Θ x):=λx U=>by
  have e:Θ x=Uh (Ri (root x U)):=dif_pos U;rw[e];exact⟨_,Ri (Ri (root x U))⟩
 have Y:∀{x r:Nat}{k:Kd},Last m x r->Z r=some k->Θ x=k:=λ{x r k} hl F=>by
  have U:x<m.length:=by
   obtain⟨n,h⟩:=hl;cases h with
   |root h _=>exact(Pq.mp h).1
   |step h _=>exact(Pq.mp h).1
  obtain⟨r',h1,h2⟩:=I x U;rw[h1.uniq hl,F]at h2;exact(Pz h2).symm
 refine⟨Θ,⟨λi h=>⟨?_,h0 i h⟩,λi h=>⟨?_,h1 i h⟩,λi a b h=>?_,λi k h=>?_⟩,λx r k hl F=>Y hl ((Nd hn).1 r k F)⟩
 ·obtain⟨r,l,e⟩:=I i (Pq.mp h).1;have:=l.uniq (Eh h rfl);subst this;obtain⟨s,O,F⟩:=tok _ _ e;rw[h]at O;cases O;generalize Θ r=kk at F;cases F;rfl
 ·obtain⟨r,l,e⟩:=I i (Pq.mp h).1;have:=l.uniq (Eh h rfl);subst this;obtain⟨s,O,F⟩:=tok _ _ e;rw[h]at O;cases O;generalize Θ r=kk at F;cases F;rfl
 ·obtain⟨r,l,e⟩:=I i (Pq.mp h).1;have:=l.uniq (Eh h rfl);subst this;obtain⟨s,O,F⟩:=tok _ _ e;rw[h]at O;cases O;generalize hkk:Θ r=kk at F;cases F with
  |to k1 k2 =>
   obtain⟨ra,la,ea⟩:=k1;obtain⟨rb,lb,eb⟩:=k2;rw[Y la ea,Y lb eb]
 ·obtain⟨r,l,e⟩:=I i (Pq.mp h).1;obtain⟨nn,hl⟩:=l;cases hl with
  |root h2 O=>rw[h]at h2;cases h2;cases O
  |step h2 t =>
   rw[h]at h2;cases h2;exact(Y ⟨_,t⟩ e).symm
theorem Zqq (ht:Cj m)(hb:Bd m)(ha:Fk m)(h0:∀i,m[i]?=some .num->i=0)(h1:∀i,m[i]?=some .truth->i=1):∃Θ:Nat->Kd,SolM Θ m :=
 let ⟨Θ,S,_⟩:=Zfe (td:=λ_=>none) ht hb ha h0 h1 (λr k e=>by cases e)
 ⟨Θ,S⟩
theorem Zp8 (h:JoinN n m w o):∀m1,o=some m1->SolM Θ m1->SolM Θ m/\∀p∈w,Θ p.1=Θ p.2:=by
 have I:∀{m:Af}{x y:Nat}{U:Sh},m[x]?=some U->SolM Θ (m.set x (.same y))->Θ x=Θ y/\(∀i s,i≠x->m[i]?=some s->(m.set x (.same y))[i]?=some s):=λ{m x y U} hx S=>⟨S.same x y (Zb4 hx),λi s hi hs=>by rw[Dx hi];exact hs⟩;have O:∀{m:Af}{x y:Nat}{U:Sh},m[x]?=some U->SolM Θ (m.set x (.same y))->(U=.num->False)->(U=.truth->False)->(∀k,U=.same k->False)->(∀a b,U=.to a b->Θ x=.to (Θ a) (Θ b))->SolM Θ m:=λ{m x y U} hx S n1 n2 n3 n4=>by
  obtain⟨_,u⟩:=I hx S;refine⟨λi h=>?_,λi h=>?_,λi a b h=>?_,λi k h=>?_⟩
  ·by_cases z:i=x
   ·rw[z,hx]at h;cases h;exact(n1 rfl).elim
   ·exact S.num i (u i _ z h)
  ·by_cases z:i=x
   ·rw[z,hx]at h;cases h;exact(n2 rfl).elim
   ·exact S.truth i (u i _ z h)
  ·by_cases z:i=x
   ·rw[z,hx]at h;cases h;rw[z];exact n4 a b rfl
   ·exact S.to i a b (u i _ z h)
  ·by_cases z:i=x
   ·rw[z,hx]at h;cases h;exact(n3 k rfl).elim
   ·exact S.same i k (u i _ z h)
 induction h with
 |nil=>intro m1 e S;cases e;exact⟨S,λp hp=>nomatch hp⟩
 |eq h1 h2 _ Z =>
  intro m1 e S;obtain⟨S1,Y⟩:=Z m1 e S;refine⟨S1,λq F=>?_⟩;rcases P3.mp F with F|F
  ·exact Y q F
  ·rw[Py.mp F,S1.last h1,S1.last h2]
 |anyR h1 h2 ne hr _ Z =>
  intro m1 e S;obtain⟨S1,Y⟩:=Z m1 e S;have S0:=O hr S1 (λz=>by cases z) (λz=>by cases z) (λk z=>by cases z) (λa b z=>by cases z);refine⟨S0,λq F=>?_⟩;rcases P3.mp F with F|F
  ·exact Y q F
  ·rw[Py.mp F,S0.last h1,S0.last h2];exact(I hr S1).1.symm
 |anyL h1 h2 ne hr hn hl _ Z =>
  intro m1 e S;obtain⟨S1,Y⟩:=Z m1 e S;have S0:=O hl S1 (λz=>by cases z) (λz=>by cases z) (λk z=>by cases z) (λa b z=>by cases z);refine⟨S0,λq F=>?_⟩;rcases P3.mp F with F|F
  ·exact Y q F
  ·rw[Py.mp F,S0.last h1,S0.last h2];exact(I hl S1).1
 | @to n m w p l r a b c d o h1 h2 ne hl hr _ Z =>
  intro m1 e S;obtain⟨S1,Y⟩:=Z m1 e S;obtain⟨aa,u⟩:=I hl S1;have er:=S1.to r c d (u r _ (λz=>ne z.symm) hr);have ac:Θ a=Θ c:=Y (a,c) (by simp);have bd:Θ b=Θ d:=Y (b,d) (by simp);have S0:=O hl S1 (λz=>by cases z) (λz=>by cases z) (λk z=>by cases z) (λx y z=>by cases z;rw[aa,er,ac,bd]);refine⟨S0,λq F=>?_⟩;rcases P3.mp F with F|F
  ·exact Y q (Rr _ F)
  ·rw[Py.mp F,S0.last h1,S0.last h2];exact aa
 |clash=>intro m1 e;cases e
def Bas (M:Nat)(k:Kd):Prop:=k=.num\/k=.truth\/(∃u,u<2*M/\k=.any u)\/∃i,i<M/\k=Ee i
theorem Bas.ok (h:Bas M k)(σ:Kn):KOk M σ k:=by
 rcases h with rfl|rfl|⟨u,F,rfl⟩|⟨i,hi,rfl⟩
 ·exact⟨(λs h=>nomatch h),(λm h=>nomatch h)⟩
 ·exact⟨(λs h=>nomatch h),(λm h=>nomatch h)⟩
 ·exact⟨(λs h=>nomatch h),λm h=>by cases h;exact F⟩
 ·refine⟨λs h=>?_,λm h=>?_⟩
  ·cases h with
   |self e=>exact⟨i,hi,λθ _=>by rw[e];rfl⟩
   |l h=>cases h
   |r h=>cases h
  ·cases h with
   |l h=>cases h;lia
   |r h=>cases h;lia
theorem Zry (h:∀x∈ar,Bas M x.2)(e:Cd ar s=some k):Bas M k:=by
 unfold Cd at e;have I:∀(l:List (Str×Kd))(o:Option Kd),(∀x∈l,Bas M x.2)->(∀k,o=some k->Bas M k)->l.foldl (λo p=>if p.1=s then some p.2 else o) o=some k->Bas M k:=by
  intro l
  induction l with
  |nil=>exact λo _ h e=>h k e
  |cons p l U =>
   intro o O Y e;rw[Sd]at e;refine U _ (λx hx=>O x (Qo _ hx)) (λZ F=>?_) e;by_cases c:p.1=s
   ·rw[if_pos c]at F;cases F;exact O p (by simp)
   ·rw[if_neg c]at F;exact Y Z F
 exact I ar none h (λk e=>by cases e) e
theorem Zfu (hi:i<M)(h:∀x∈ar,Bas M x.2):Bas M (Bx w n i ar):=by
 have F:Bas M (Ci i):=.inr (.inr (.inl ⟨2*i,by lia,rfl⟩));have I:Bas M (twoK i):=.inr (.inr (.inl ⟨2*i+1,by lia,rfl⟩));unfold Bx;split
 ·exact .inl rfl
 split
 ·exact .inr (.inl rfl)
 split
 ·exact .inr (.inr (.inr ⟨i,hi,rfl⟩))
 split
 ·exact I
 split
 ·cases e:Cd ar (Cz n) with
  |none=>exact F
  |some k=>exact Zry h e
 ·exact F
theorem Zde (hi:i<M):∀k∈Bj w i,Bas M k:=by
 have Y:Bas M (Ci i):=.inr (.inr (.inl ⟨2*i,by lia,rfl⟩));have I:Bas M (twoK i):=.inr (.inr (.inl ⟨2*i+1,by lia,rfl⟩));have U:Bas M (Ee i):=.inr (.inr (.inr ⟨i,hi,rfl⟩));have Z:Bas M .num:=.inl rfl;have O:Bas M .truth:=.inr (.inl rfl);unfold Bj;intro k F;split at F
 ·simp only[Pm,P6,or_false]at F;rcases F with rfl|rfl <;> assumption
 split at F
 ·simp only[Pm,P6,or_false]at F;rcases F with rfl|rfl|rfl <;> assumption
 split at F
 ·simp only[Pm,P6,or_false]at F;rcases F with rfl|rfl <;> assumption
 split at F
 ·simp only[Pm,P6,or_false]at F;rcases F with rfl|rfl <;> assumption
 split at F
 ·rw[Py.mp F];exact I
 ·cases F
theorem Zi7 (h:Bas M k):Bas M (Os k):=by
 rcases h with rfl|rfl|⟨u,F,rfl⟩|⟨i,hi,rfl⟩
 ·exact .inl rfl
 ·exact .inr (.inl rfl)
 ·exact .inr (.inr (.inl ⟨u,F,rfl⟩))
 ·exact .inr (.inr (.inl ⟨2*i,by lia,rfl⟩))
theorem Zt2 (hi:i<M)(h:∀x∈ar,Bas M x.2):∀x∈Ew w n (Bx w n i ar) j (Bj w i) ar,Bas M x.2:=by
 intro x I;unfold Ew at I;rcases P3.mp I with I|I
 ·exact h x I
 ·have F:=(Ui I).2;have g:=Zfu hi (w:=w) (n:=n) h;unfold Gr at F;split at F
  ·rw[Py.mp F];cases e:(Bj w i)[0]? with
   |none=>rw[Qm,e];exact .inl rfl
   |some k=>rw[Qm,e];exact Zde hi k (Qu e)
  split at F
  ·rw[Py.mp F];exact Zi7 g
  split at F
  ·simp only[Pm,P6,or_false]at F;rcases F with e|e
   ·rw[e];exact g
   ·rw[e];exact Zi7 g
  ·cases F
def Kx (M:Nat)(r:Kd×Option Kd):Prop:=Bas M r.1/\∀a,r.2=some a->Bas M a
mutual
theorem Zbm {M:Nat}:∀(t:Tr)(i:Nat)(ar:List (Str×Kd))(ask:Option Kd),i+t.size<=M->(∀x∈ar,Bas M x.2)->(∀a,ask=some a->Bas M a)->∀r∈B1 i ar ask t,Kx M r
 |.mk w n ts,i,ar,ask,hi,h,ha,r,F=>by
  rw[Tr.size]at hi;rw[B1]at F;rcases Pm.mp F with e|F
  ·rw[e];exact⟨Zfu (by lia) h,ha⟩
  ·exact Zc8 ts (i+1) w n i ar 0 (by lia) (by lia) h r F
theorem Zc8 {M:Nat}:∀(ts:List Tr)(s:Nat)(w:Str)(n:Dt)(i:Nat)(ar:List (Str×Kd))(j:Nat),i<M->s+Ax ts<=M->(∀x∈ar,Bas M x.2)->∀r∈Ca s w n i ar j ts,Kx M r
 |[],s,w,n,i,ar,j,hi,I,h,r,F=>by rw[Ca]at F;cases F
 |t::ts,s,w,n,i,ar,j,hi,I,h,r,F=>by
  rw[Ax]at I;rw[Ca]at F;rcases P3.mp F with F|F
  ·exact Zbm t s _ _ (by lia) (Zt2 hi h) (λa e=>Zde hi a (Qu e)) r F
  ·exact Zc8 ts (s+t.size) w n i ar (j+1) hi (by lia) h r F
end
def EqR (θ:Nat->Kd)(r:Kd×Option Kd):Prop:=Am θ r.1=Am θ (r.2.getD r.1)
inductive E2 (M:Nat):List (Kd×Option Kd)->Kn->List Bool->Kn->Prop where
 |nil {σ:Kn}:E2 M [] σ [] σ
 |top {k:Kd} {rs:List (Kd×Option Kd)} {σ σ':Kn} {fs:List Bool} (t:E2 M rs σ fs σ'):E2 M ((k,none)::rs) σ (true::fs) σ'
 |ok {k a:Kd} {rs:List (Kd×Option Kd)} {σ σ1 σ':Kn} {fs:List Bool} (s:C1 (M+1) σ k a (some σ1)) (t:E2 M rs σ1 fs σ'):E2 M ((k,some a)::rs) σ (true::fs) σ'
 |no {k a:Kd} {rs:List (Kd×Option Kd)} {σ σ':Kn} {fs:List Bool} (s:C1 (M+1) σ k a none) (t:E2 M rs σ fs σ'):E2 M ((k,some a)::rs) σ (false::fs) σ'
theorem Oh:∀(rs:List (Kd×Option Kd))(σ:Kn)(rk:Nat->Nat)(c:Nat),KnOk M σ rk c->(∀r∈rs,Kx M r)->∃fs σ',E2 M rs σ fs σ'
 |[],σ,rk,c,S,h=>⟨_,_,.nil⟩
 | (k,none)::rs,σ,rk,c,S,h=>by
  obtain⟨fs,σ',t⟩:=Oh rs σ rk c S λr F=>h r (Qo _ F);exact⟨_,_,.top t⟩
 | (k,some a)::rs,σ,rk,c,S,h=>by
  obtain⟨h1,h2⟩:=h (k,some a) (by simp);obtain⟨o,s⟩:=Zcr (M+1) [] σ rk c k a S (h1.ok σ) ((h2 a rfl).ok σ) Vq rfl (λi h=>nomatch h);cases o with
  |none =>
   obtain⟨fs,σ',t⟩:=Oh rs σ rk c S λr F=>h r (Qo _ F);exact⟨_,_,.no s t⟩
  |some I =>
   obtain⟨O,c1,S1⟩:=Hq s I rfl rk c S (h1.ok σ) ((h2 a rfl).ok σ);obtain⟨fs,σ',t⟩:=Oh rs I O c1 S1 λr F=>h r (Qo _ F);exact⟨_,_,.ok s t⟩
theorem kn0 (M:Nat):KnOk M (λ_=>none) (λ_=>0) 0:=⟨⟨λn k e=>(by cases e),λn k m e=>(by cases e)⟩,by rw[Rc];exact Hi _ _,λn k e=>(by cases e)⟩
theorem Zua (h:JoinN n m w o):∀m1,o=some m1->∀(i:Nat)(s:Sh),m1[i]?=some s->s.isSame=false->m[i]?=some s:=by
 have st:∀{m:Af}{x y i:Nat}{s:Sh},(m.set x (.same y))[i]?=some s->s.isSame=false->m[i]?=some s:=λ{m x y i s} h F=>by
  by_cases z:i=x
  ·subst z;by_cases O:i<m.length
   ·rw[R4 O]at h;cases h;cases F
   ·rw[Rq (by rw[Qp];lia)]at h;cases h
  ·rw[Dx z]at h;exact h
 induction h with
 |nil=>intro m1 e i s h _;cases e;exact h
 |eq _ _ _ I=>exact I
 |anyR _ _ _ _ _ I=>exact λm1 e i s h F=>st (I m1 e i s h F) F
 |anyL _ _ _ _ _ _ _ I=>exact λm1 e i s h F=>st (I m1 e i s h F) F
 |to _ _ _ _ _ _ I=>exact λm1 e i s h F=>st (I m1 e i s h F) F
 |clash=>intro m1 e;cases e
structure Pd (M:Nat)(sh1:Af)(V:(Nat->Kd)->Nat->Kd)(tr:(Nat->Kd)->Nat->Kd)(m:Af)(σ:Kn):Prop where
 i:∀θ,B2 θ σ->SolM (V θ) m
 ii:∀Θ,SolM Θ m->B2 (tr Θ) σ
 iii:∀Θ,SolM Θ m->SolM Θ sh1
 tot:Cj m
 bd:Bd m
 nt:∀(i:Nat)(s:Sh),m[i]?=some s->s.isSame=false->sh1[i]?=some s
 kn:∃rk c,KnOk M σ rk c
theorem Zli {M:Nat}{sh1:Af}{V tr:(Nat->Kd)->Nat->Kd}(n0:∀i,sh1[i]?=some .num->i=0)(n1:∀i,sh1[i]?=some .truth->i=1){ps:List (Nat×Nat)}{m m2:Af}{fs:List Bool}(h:FitG ps m fs m2):∀(rs:List (Kd×Option Kd))(σ σ2:Kn)(fs':List Bool),E2 M rs σ fs' σ2->ps.length=rs.length ->
  (∀(j:Nat)(p:Nat×Nat)(r:Kd×Option Kd),ps[j]?=some p->rs[j]?=some r->Kx M r/\(∀θ,V θ p.1=Am θ r.1/\V θ p.2=Am θ (r.2.getD r.1))/\∀Θ,SolM Θ sh1->Θ p.1=Am (tr Θ) r.1/\Θ p.2=Am (tr Θ) (r.2.getD r.1))->Pd M sh1 V tr m σ->fs=fs'/\Pd M sh1 V tr m2 σ2:=by
 induction h with
 |nil =>
  intro rs σ σ2 fs' L hl _ I;have e:rs=[]:=Re hl.symm;subst e;cases L;exact⟨rfl,I⟩
 | @ok g a n k r m m1 m' ps fs j hn l hh hk t ih =>
  intro rs σ σ2 fs' L hl hp I;cases rs with
  |nil=>cases hl
  |cons r0 rs =>
  obtain⟨hb,hV,hT⟩:=hp 0 (g,a) r0 rfl rfl;have Z:=λj p r h1 h2=>hp (j+1) p r (by simpa using h1) (by simpa using h2);obtain⟨rk,c,S⟩:=I.kn;obtain⟨U,R0,_⟩:=S.t.own;have kj:=Zdt j I.tot I.bd;have ah:Fk m1:=Zds (Mo j rfl I.tot I.bd) I.tot I.bd (Za5 (I.i U R0)) l hh;have ae:∀(i:Nat)(s:Sh),m1[i]?=some s->s.isSame=false->sh1[i]?=some s:=λi s e hs=>I.nt i s (Zua j m1 rfl i s e hs) hs;obtain⟨aj,S1⟩:=Zqq kj.tot kj.bd ah (λi e=>n0 i (ae i _ e rfl)) (λi e=>n1 i (ae i _ e rfl));have aa:∀Θ,SolM Θ m1->B2 (tr Θ) σ/\EqR (tr Θ) r0/\SolM Θ m:=λΘ Y=>by
   obtain⟨b1,b2⟩:=Zp8 j m1 rfl Y;have b2:=b2 (g,a) (by simp);obtain⟨c1,c2⟩:=hT Θ (I.iii Θ b1);exact⟨I.ii Θ b1,by unfold EqR;rw[<- c1,<- c2];exact b2,b1⟩
  have inv:∀F:Kn,(∀θ,B2 θ F->B2 θ σ/\EqR θ r0)->(∀Θ,SolM Θ m1->B2 (tr Θ) F)->(∃rk c,KnOk M F rk c)->Pd M sh1 V tr m1 F:=λF q1 q2 q3=>⟨λθ R=>by
    obtain⟨R',e⟩:=q1 θ R;obtain⟨m3,e3,S3⟩:=Zc5 j (I.i θ R') (λp hq=>by
     rw[Py.mp hq];show V θ g=V θ a;rw[(hV θ).1,(hV θ).2];exact e)
    cases e3;exact S3,q2,λΘ Y=>I.iii Θ (aa Θ Y).2.2,kj.tot,kj.bd,ae,q3⟩
  cases L with
  | @top k0 _ _ _ O t2 =>
   obtain⟨e,I2⟩:=ih rs σ σ2 O t2 (by simpa using hl) Z (inv σ (λθ R=>⟨R,rfl⟩) (λΘ Y=>(aa Θ Y).1) I.kn);exact⟨by rw[e],I2⟩
  | @ok k0 a0 _ _ F _ O s t2 =>
   obtain⟨e,I2⟩:=ih rs F σ2 O t2 (by simpa using hl) Z (inv F (λθ R=>Jw s F rfl θ R) (λΘ Y=>by
    obtain⟨q1,q2,_⟩:=aa Θ Y;obtain⟨ag,e',R'⟩:=Zfx s q1 q2;cases e';exact R') (Hq s F rfl rk c S (hb.1.ok σ) ((hb.2 a0 rfl).ok σ)))
   exact⟨by rw[e],I2⟩
  | @no k0 a0 _ _ _ O s t2 =>
   obtain⟨q1,q2,_⟩:=aa aj S1;obtain⟨ag,e',R'⟩:=Zfx s q1 q2;cases e'
 | @clash g a n m m' ps fs j hn t ih =>
  intro rs σ σ2 fs' L hl hp I;cases rs with
  |nil=>cases hl
  |cons r0 rs =>
  obtain⟨hb,hV,hT⟩:=hp 0 (g,a) r0 rfl rfl;have Z:=λj p r h1 h2=>hp (j+1) p r (by simpa using h1) (by simpa using h2);obtain⟨rk,c,S⟩:=I.kn;have no:∀θ,B2 θ σ->EqR θ r0->False:=λθ R e=>by
   obtain⟨m3,e3,S3⟩:=Zc5 j (I.i θ R) (λp hq=>by
    rw[Py.mp hq];show V θ g=V θ a;rw[(hV θ).1,(hV θ).2];exact e)
   cases e3
  cases L with
  | @top k0 _ _ _ O t2 =>
   obtain⟨U,R0,_⟩:=S.t.own;exact(no U R0 rfl).elim
  | @ok k0 a0 _ _ F _ O s t2 =>
   obtain⟨ai,c1,S1⟩:=Hq s F rfl rk c S (hb.1.ok σ) ((hb.2 a0 rfl).ok σ);obtain⟨U,R0,_⟩:=S1.t.own;obtain⟨q1,q2⟩:=Jw s F rfl U R0;exact(no U q1 q2).elim
  | @no k0 a0 _ _ _ O s t2 =>
   obtain⟨e,I2⟩:=ih rs σ σ2 O t2 (by simpa using hl) Z I;exact⟨by rw[e],I2⟩
 | @loop g a n k r m m1 m' ps fs j hn l hh hk t ih =>
  intro rs σ σ2 fs' L hl hp I;cases rs with
  |nil=>cases hl
  |cons r0 rs =>
  obtain⟨hb,hV,hT⟩:=hp 0 (g,a) r0 rfl rfl;have Z:=λj p r h1 h2=>hp (j+1) p r (by simpa using h1) (by simpa using h2);obtain⟨rk,c,S⟩:=I.kn;have no:∀θ,B2 θ σ->EqR θ r0->False:=λθ R e=>by
   obtain⟨m3,e3,S3⟩:=Zc5 j (I.i θ R) (λp hq=>by
    rw[Py.mp hq];show V θ g=V θ a;rw[(hV θ).1,(hV θ).2];exact e)
   cases e3;exact(Zqd (Za5 S3) l hh).elim
  cases L with
  | @top k0 _ _ _ O t2 =>
   obtain⟨U,R0,_⟩:=S.t.own;exact(no U R0 rfl).elim
  | @ok k0 a0 _ _ F _ O s t2 =>
   obtain⟨ai,c1,S1⟩:=Hq s F rfl rk c S (hb.1.ok σ) ((hb.2 a0 rfl).ok σ);obtain⟨U,R0,_⟩:=S1.t.own;obtain⟨q1,q2⟩:=Jw s F rfl U R0;exact(no U q1 q2).elim
  | @no k0 a0 _ _ _ O s t2 =>
   obtain⟨e,I2⟩:=ih rs σ σ2 O t2 (by simpa using hl) Z I;exact⟨by rw[e],I2⟩
def Ix (c:Nat):Kd->Prop
 |.any n=>n<c
 |.to x y=>Ix c x/\Ix c y
 |_=>True
theorem Zbi (e:∀n,n<c->ρ n=ρ' n):∀k:Kd,Ix c k->Am ρ k=Am ρ' k
 |.any n,h=>e n h
 |.to x y,h=>by rw[Am,Am,Zbi e x h.1,Zbi e y h.2]
 |.num,_=>rfl
 |.truth,_=>rfl
theorem Zab:∀k:Kd,Ix c k->Ix (c+1) k
 |.any n,h=>Vf h
 |.to x y,h=>⟨Zab x h.1,Zab y h.2⟩
 |.num,_=>trivial
 |.truth,_=>trivial
theorem Zm2 (S:SolM θ sh)(h:ToldN sh n td c w td'):∀ρ:Nat->Kd,(∀r k,td r=some k->Am ρ k=θ r/\Ix c k)->∃ρ':Nat->Kd,∀r k,td' r=some k->Am ρ' k=θ r:=by
 induction h with
 |nil=>exact λρ g=>⟨ρ,λr k e=>(g r k e).1⟩
 |seen _ _ _ _ _ F=>exact F
 |miss _ _ _ _ _ _ F=>exact F
 | @any n c x r td td' w rs hl O I h t F =>
  intro ρ g;refine F (λm=>if m=c then θ r else ρ m) λi k e=>?_;have e:(if i=r then some (Kd.any c) else td i)=some k:=e;by_cases z:i=r
  ·rw[if_pos z]at e;cases e;subst z;exact⟨by show(if c=c then θ i else ρ c)=θ i;rw[if_pos rfl],Tg c⟩
  ·rw[if_neg z]at e;obtain⟨g1,Z⟩:=g i k e;refine⟨?_,Zab k Z⟩;rw[<- g1];exact Zbi (λm U=>by rw[if_neg (P4 U)]) k Z
 | @mk n c x r td td' w rs s k hl O I h U hk t F =>
  intro ρ g;refine F ρ λi Y e=>?_;have e:(if i=r then some k else td i)=some Y:=e;by_cases z:i=r
  ·rw[if_pos z]at e;cases e;subst z;cases hk with
   |num=>exact⟨(S.num _ O).1.symm,trivial⟩
   |truth=>exact⟨(S.truth _ O).1.symm,trivial⟩
   |to hx hy =>
    cases I with
    |cons l1 I =>
    cases I with
    |cons l2 _ =>
    obtain⟨a1,a2⟩:=g _ _ hx;obtain⟨b1,b2⟩:=g _ _ hy;exact⟨by rw[Am,a1,b1,S.to _ _ _ O,S.last l1,S.last l2],a2,b2⟩
  ·rw[if_neg z]at e;exact g i Y e
noncomputable def B3:Kd->List Nat->Kd×List Nat
 |.any n,s=>if n∈s then (.any (s.idxOf n),s) else (.any s.length,s++[n])
 |.to x y,s=>(.to (B3 x s).1 (B3 y (B3 x s).2).1,(B3 y (B3 x s).2).2)
 |.num,s=>(.num,s)
 |.truth,s=>(.truth,s)
theorem Lk:∀(k:Kd)(s:List Nat),s <+: Be k s
 |.any n,s=>by
  rw[Be];split
  ·exact Qz
  ·exact Rj _ _
 |.to x y,s=>(Lk x s).trans (Lk y (Be x s))
 |.num,s=>Qz
 |.truth,s=>Qz
theorem Zb9 (h:s <+: Pn c):s=Pn s.length:=by
 obtain⟨r,F⟩:=h;refine Ww (by simp) λi h1 h2=>?_;rw[Wn];have O:i<(Pn c).length:=by rw[<- F,Pr];lia
 have e:(Pn c)[i]'O=i:=Wn _;have I:(s++r)[i]?=some s[i]:=by rw[Qh h1,Pj h1]
 rw[F,Pj O,e]at I;exact(Pz I).symm
theorem Ztz {rr:Nat->Nat}{c n:Nat}(hn:n<c)(inj:∀i,i<c->rr i=rr n->i=n):((Pn c).map rr).idxOf (rr n)=n:=by
 have I:n<((Pn c).map rr).length:=by simp;exact hn
 have F:rr n∈(Pn c).map rr:=Q7.mpr ⟨n,Q0.mpr hn,rfl⟩;have hi:=Xb F;have e:((Pn c).map rr)[((Pn c).map rr).idxOf (rr n)]'hi=rr n:=List.getElem_idxOf hi;simp only[Vk,Wn]at e;exact inj _ (by simpa using hi) e
theorem Zcx:∀(k:Kd)(c c':Nat),Be k (Pn c)=Pn c'->(∀n,n<c'->ρ n=.any (rr n))->(∀i j,i<c'->j<c'->rr i=rr j->i=j)->B3 (Am ρ k) ((Pn c).map rr)=(k,(Pn c').map rr)
 |.num,c,c',h,_,_=>by
  have e:c=c':=by have:=congrArg Qx (show Pn c=Pn c' from h);simpa using this
  rw[e];rfl
 |.truth,c,c',h,_,_=>by
  have e:c=c':=by have:=congrArg Qx (show Pn c=Pn c' from h);simpa using this
  rw[e];rfl
 |.any n,c,c',h,F,inj=>by
  rw[Be]at h;by_cases I:n∈Pn c
  ·rw[if_pos I]at h;have e:c=c':=by have:=congrArg Qx h;simpa using this
   subst e;have I:=Q0.mp I;show B3 (ρ n) _=_;rw[F n I,B3,if_pos (Q7.mpr ⟨n,Q0.mpr I,rfl⟩),Ztz I λi hi e=>inj i n hi I e]
  ·rw[if_neg I]at h;have e:c'=c+1:=by have:=congrArg Qx h;simp at this;lia
   subst e;rw[W2]at h;have Y:n=c:=by
    have:=List.append_cancel_left h;simpa using this
   subst Y;show B3 (ρ n) _=_;rw[F n (Tg n),B3,if_neg]
   ·rw[Pp,Vh,W2,Qv];rfl
   ·intro U;obtain⟨i,hi,e⟩:=Q7.mp U;have hi:=Q0.mp hi;have:=inj i n (by lia) (by lia) e;lia
 |.to x y,c,c',h,F,inj=>by
  rw[Be]at h;have p:=Lk y (Be x (Pn c));rw[h]at p;have O:=Zb9 p;have Z:(Be x (Pn c)).length<=c':=by have:=p.length_le;simpa using this
  generalize hc1:(Be x (Pn c)).length=c1 at O Z;rw[O]at h;have a1:=Zcx x c c1 O (λn I=>F n (by lia)) (λi j hi hj=>inj i j (by lia) (by lia));have a2:=Zcx y c1 c' h F inj;show(Kd.to (B3 (Am ρ x) _).1 (B3 (Am ρ y) (B3 (Am ρ x) _).2).1,(B3 (Am ρ y) (B3 (Am ρ x) _).2).2)=_;rw[a1,a2]
theorem Zci (ρ ρ':Nat->Kd):∀k:Kd,Am ρ' (Am ρ k)=Am (λn=>Am ρ' (ρ n)) k
 |.num=>rfl
 |.truth=>rfl
 |.any _=>rfl
 |.to x y=>by rw[Am,Am,Am,Zci ρ ρ' x,Zci ρ ρ' y]
theorem Zc7:∀{k:Kd},Am τ k=k->∀n,In n k->τ n=.any n
 |.any m,h,n,F=>by cases F;exact h
 |.to x y,h,n,F=>by
  rw[Am]at h;injection h with h1 h2;cases F with
  |l F=>exact Zc7 h1 n F
  |r F=>exact Zc7 h2 n F
theorem O9:∀(k:Kd)(s:List Nat)(n:Nat),n∈Be k s->n∈s\/In n k
 |.num,s,n,h=>.inl h
 |.truth,s,n,h=>.inl h
 |.any m,s,n,h=>by
  rw[Be]at h;split at h
  ·exact .inl h
  ·rcases P3.mp h with h|h
   ·exact .inl h
   ·rw[Py.mp h];exact .inr .any
 |.to x y,s,n,h=>by
  rw[Be]at h;rcases O9 y _ n h with h|h
  ·rcases O9 x s n h with h|h
   ·exact .inl h
   ·exact .inr (.l h)
  ·exact .inr (.r h)
theorem Zh8:∀(ks:List Kd)(s:List Nat)(n:Nat),n∈ks.foldl (λs k=>Be k s) s->n∈s\/∃k∈ks,In n k
 |[],s,n,h=>.inl h
 |k::ks,s,n,h=>by
  rw[Sd]at h;rcases Zh8 ks _ n h with h|⟨F,h1,h2⟩
  ·rcases O9 k s n h with h|h
   ·exact .inl h
   ·exact .inr ⟨k,by simp,h⟩
  ·exact .inr ⟨F,by simp[h1],h2⟩
theorem Zal:∀(ks:List Kd)(s:List Nat),s <+: ks.foldl (λs k=>Be k s) s
 |[],s=>Qz
 |k::ks,s=>by rw[Sd];exact(Lk k s).trans (Zal ks _)
theorem Zj6 {ks bs:List Kd}{c:Nat}(hl:ks.length=bs.length)(hc:ks.foldl (λs k=>Be k s) []=Pn c){ρ ρ':Nat->Kd}(h1:∀(j:Nat)(k b:Kd),ks[j]?=some k->bs[j]?=some b->Am ρ k=b)(h2:∀(j:Nat)(k b:Kd),ks[j]?=some k->bs[j]?=some b->Am ρ' b=k) :
  ∃rr:Nat->Nat,∀(j:Nat)(k b:Kd),ks[j]?=some k->bs[j]?=some b->∃c1 c2,(ks.take j).foldl (λs k=>Be k s) []=Pn c1/\(ks.take (j+1)).foldl (λs k=>Be k s) []=Pn c2/\B3 b ((Pn c1).map rr)=(k,(Pn c2).map rr):=by
 have U:∀n,n<c->∃m,ρ n=.any m/\ρ' m=.any n:=λn O=>by
  rcases Zh8 ks [] n (by rw[hc];exact Q0.mpr O) with h|⟨k,I,hi⟩
  ·cases h
  ·obtain⟨j,hj,e⟩:=Wg I;have ek:ks[j]?=some k:=by rw[Pj hj,e]
   have eb:bs[j]?=some (bs[j]'(by lia)):=Pj (by lia);have a1:=h1 j k _ ek eb;have a2:=h2 j k _ ek eb;rw[<- a1,Zci]at a2;have:=Zc7 a2 n hi;cases e:ρ n with
   |any m=>rw[e]at this;exact⟨m,rfl,this⟩
   |num=>rw[e]at this;cases this
   |truth=>rw[e]at this;cases this
   |to x y=>rw[e]at this;cases this
 let rr:Nat->Nat:=λn=>match ρ n with|.any m=>m|_=>0
 have Y:∀n,n<c->ρ n=.any (rr n)/\ρ' (rr n)=.any n:=λn O=>by
  obtain⟨m,e1,e2⟩:=U n O;have:rr n=m:=by show(match ρ n with|.any m=>m|_=>0)=m;rw[e1]
  rw[this];exact⟨e1,e2⟩
 refine⟨rr,λj k b I hb=>?_⟩;have hj:=(Pq.mp I).1;have F:∀i,(ks.take i).foldl (λs k=>Be k s) [] <+: Pn c:=λi=>by
  have e:ks=ks.take i++ks.drop i:=(Wa i ks).symm;rw[<- hc]
  conv=>rhs;rw[e,R8]
  exact Zal _ _
 have r1:=Zb9 (F j);have Z:=Zb9 (F (j+1));have l2:((ks.take (j+1)).foldl (λs k=>Be k s) []).length<=c:=by have:=(F (j+1)).length_le;simpa using this
 refine⟨_,_,r1,Z,?_⟩;have e:(ks.take (j+1)).foldl (λs k=>Be k s) []=Be k ((ks.take j).foldl (λs k=>Be k s) []):=by
  rw[Qq,I,Option.toList,R8];rfl
 rw[<- h1 j k b I hb];refine Zcx k _ _ ?_ (λn O=>(Y n (by lia)).1) (λi i' hi aa e=>?_)
 ·rw[<- r1,<- e];exact Z
 ·have a:=(Y i (by lia)).2;have b:=(Y i' (by lia)).2;rw[e,b]at a;injection a with a;exact a.symm
theorem Zrw (S:D4 th sh)(θ:Nat->Kd):SolM (λi=>Am θ (th.getD i .num)) sh:=by
 have S0:=Zc1 S;refine⟨λi h=>?_,λi h=>?_,λi a b h=>?_,λi k h=>?_⟩
 ·obtain⟨e,z⟩:=S0.num i h;exact⟨by show Am θ (th.getD i .num)=_;rw[show th.getD i .num=.num from e];rfl,z⟩
 ·obtain⟨e,z⟩:=S0.truth i h;exact⟨by show Am θ (th.getD i .num)=_;rw[show th.getD i .num=.truth from e];rfl,z⟩
 ·have e:=S0.to i a b h;show Am θ (th.getD i .num)=_;rw[show th.getD i .num=.to (th.getD a .num) (th.getD b .num) from e];rfl
 ·have e:=S0.same i k h;show Am θ (th.getD i .num)=Am θ (th.getD k .num);rw[show th.getD i .num=th.getD k .num from e]
theorem Zph (h:In n k):∀s,n∈Be k s:=by
 induction h with
 |any =>
  intro s;rw[Be];split
  ·assumption
  ·simp
 | @l x y _ F=>intro s;rw[Be];exact(Lk y _).subset (F s)
 | @r x y _ F=>intro s;rw[Be];exact F _
theorem Zcu:∀{k:Kd},(∀n,In n k->n<c)->KB c k
 |.num,_=>trivial
 |.truth,_=>trivial
 |.any n,h=>h n .any
 |.to x y,h=>⟨Zcu λn F=>h n (.l F),Zcu λn F=>h n (.r F)⟩
theorem Zah {α β:Type}(f g:α->β):∀(rs:List α)(j:Nat)(r:α),rs[j]?=some r->(rs.flatMap λr=>[f r,g r])[2*j]?=some (f r)/\(rs.flatMap λr=>[f r,g r])[2*j+1]?=some (g r)
 |[],j,r,h=>by simp at h
 |x::rs,0,r,h=>by cases h;exact⟨rfl,rfl⟩
 |x::rs,j+1,r,h=>by
  have:=Zah f g rs j r (by simpa using h);have e:((x::rs).flatMap λr=>[f r,g r])=f x::g x::rs.flatMap λr=>[f r,g r]:=by simp
  rw[e];exact⟨by rw[show 2*(j+1)=2*j+1+1 by lia];simpa using this.1,by rw[show 2*(j+1)+1=2*j+1+1+1 by lia];simpa using this.2⟩
theorem Zf7 {α β:Type}(f g:α->β):∀rs:List α,(rs.flatMap λr=>[f r,g r]).length=2*rs.length
 |[]=>rfl
 |x::rs=>by have:=Zf7 f g rs;rw[Ws,Pr,this,Pw];simp;lia
structure OwnL (t:Tr)(ks:List Kd)(fs fs':List Bool)(σ:Kn)(rr:Nat->Nat)(cs:Nat->Nat):Prop where
 f:fs=fs'
 kn:∃rk c,KnOk t.size σ rk c
 c0:cs 0=0
 c1:∀j,cs j<=200
 n:∀(j:Nat)(r:Kd×Option Kd)(b1 b2:Kd),(B1 0 [] none t)[j]?=some r->PutR σ r.1 b1->PutR σ (r.2.getD r.1) b2->B3 b1 ((Pn (cs (2*j))).map rr)=(ks.getD (2*j) .num,(Pn (cs (2*j+1))).map rr)/\B3 b2 ((Pn (cs (2*j+1))).map rr)=(ks.getD (2*j+1) .num,(Pn (cs (2*(j+1)))).map rr)/\(r.2=none->cs (2*(j+1))=cs (2*j+1))
theorem Zo3 (ha:AT t)(hw:WT t)(hz:t.size<=40)(R:K7 t ks fs)(L:E2 t.size (B1 0 [] none t) (λ_=>none) fs' σ):∃rr cs,OwnL t ks fs fs' σ rr cs:=by
 obtain⟨ps,O,a9,N,aq,hk,hf,ht,hN,ar,hx⟩:=R.ex;have as:=hk;rw[<- Qj (walk [] t)]at as;obtain⟨bo,bu,bt,D1,A1,e,e1,e2,o,e3,_⟩:=Zhm _ [] _ _ _ [] _ _ as ha;cases e3;rw[Qj]at e1;subst e1;rw[if_pos rfl]at e2;cases e2;obtain⟨i1,i2,i3,i4⟩:=Zbo hk ini0 (Pk _) (λq k h=>by cases h) (λq e s k hq hs=>by
  by_cases z:q=[]
  ·rw[if_pos z]at hq;cases hq;cases hs
  ·rw[if_neg z]at hq;cases hq)
 have bi:D4 [.num,.truth] [.num,.truth]:=λi s hs=>by
  match i,hs with
  |0,hs=>cases hs;exact .inl ⟨rfl,rfl,rfl⟩
  |1,hs=>cases hs;exact .inr (.inl ⟨rfl,rfl,rfl⟩)
 obtain⟨th,p1,p2,p3,p4,p5⟩:=ow_t t 0 [] none [.num,.truth] _ none ps O [.num,.truth] hw o rfl bi rfl rfl (λs=>.inl ⟨rfl,rfl⟩) (.inl ⟨rfl,rfl⟩);obtain⟨pre,bs,bp,hb⟩:=ow_b t 0 [] none [.num,.truth] _ none ps O hw o;have bb:ps.length=t.size:=by rw[hk.len,D5]
 have g0:O[0]?=some .num:=by obtain⟨r,Z⟩:=pre;rw[<- Z];rfl
 have g1:O[1]?=some .truth:=by obtain⟨r,Z⟩:=pre;rw[<- Z];rfl
 have n0:∀i,O[i]?=some .num->i=0:=λi h=>((Zc1 p3).num i h).2;have n1:∀i,O[i]?=some .truth->i=1:=λi h=>((Zc1 p3).truth i h).2;let V:(Nat->Kd)->Nat->Kd:=λθ x=>Am θ (th.getD x .num);let tr:(Nat->Kd)->Nat->Kd:=λΘ u=>Θ (bs.getD (u / 2) 0+u % 2);have bh:=Zbm (M:=t.size) t 0 [] none (by lia) (λx h=>nomatch h) (λa h=>by cases h);have gd:∀{i:Nat}{k:Kd},th[i]?=some k->th.getD i .num=k:=λh=>by rw[Qm,h];rfl
 have pair:∀(j:Nat)(p:Nat×Nat)(r:Kd×Option Kd),ps[j]?=some p->(B1 0 [] none t)[j]?=some r->Kx t.size r/\(∀θ,V θ p.1=Am θ r.1/\V θ p.2=Am θ (r.2.getD r.1))/\∀Θ,SolM Θ O->Θ p.1=Am (tr Θ) r.1/\Θ p.2=Am (tr Θ) (r.2.getD r.1):=λj p r hp Z=>by
  obtain⟨a1,a2⟩:=p5 j p r hp Z;refine⟨bh r (Qu Z),λθ=>⟨by show Am θ (th.getD p.1 .num)=_;rw[gd a1],by show Am θ (th.getD p.2 .num)=_;rw[gd a2]⟩,λΘ Y=>?_⟩;refine hb O Θ (tr Θ) Qz Y (Y.num 0 g0).1 (Y.truth 1 g1).1 (λq b hq=>?_) (λs=>.inl ⟨rfl,rfl⟩) (.inl ⟨rfl,rfl⟩) j p r hp Z;have eb:bs.getD q 0=b:=by rw[Qm,hq];rfl
  refine⟨?_,?_⟩
  ·show Θ (bs.getD (2*(0+q) / 2) 0+2*(0+q) % 2)=Θ b;rw[show 2*(0+q) / 2=q by lia,show 2*(0+q) % 2=0 by lia,eb];rfl
  ·show Θ (bs.getD ((2*(0+q)+1) / 2) 0+(2*(0+q)+1) % 2)=Θ (b+1);rw[show(2*(0+q)+1) / 2=q by lia,show(2*(0+q)+1) % 2=1 by lia,eb]
 obtain⟨ef,I⟩:=Zli (M:=t.size) (V:=V) (tr:=tr) n0 n1 hf (B1 0 [] none t) (λ_=>none) σ fs' L p4 pair ⟨λθ _=>Zrw p3 θ,λΘ _=>λn k e=>(by cases e),λΘ S=>S,i1.tot,i1.bd,λi s h _=>h,⟨_,_,kn0 _⟩⟩;obtain⟨rk,c,KN⟩:=I.kn;obtain⟨ag,R0,av⟩:=KN.t.own;obtain⟨ρ,a6⟩:=Zm2 (I.i ag R0) ht (λ_=>.num) (λr k e=>by cases e);have a2:=Za5 (I.i ag R0);have ax:=I.nt;obtain⟨Θ,Y,bf⟩:=Zfe (td:=aq) I.tot I.bd a2 (λi e=>n0 i (ax i _ e rfl)) (λi e=>n1 i (ax i _ e rfl)) (Zhj ht (λr k e=>by cases e));have R':=I.ii Θ Y;have S1:=I.iii Θ Y;let U:List Kd:=(B1 0 [] none t).flatMap λr=>[r.1,r.2.getD r.1];have an:U.length=2*t.size:=by rw[Zf7,Hf]
 have a0:ks.length=2*t.size:=by rw[ar,Kr,bb]
 obtain⟨bl,a7,ah⟩:=J7 (R:=λk b=>PutR σ k b) U λk _=>KN.t.put k;have ai:∀(i:Nat)(k b:Kd),ks[i]?=some k->bl[i]?=some b->∃x kd,(flat ps)[i]?=some x/\U[i]?=some kd/\PutR σ kd b/\(∀θ,V θ x=Am θ kd)/\Θ x=Am (tr Θ) kd:=λi k b bj au=>by
  have hi:=(Pq.mp bj).1;have hj:i / 2<t.size:=by lia
  obtain⟨p,hp⟩:∃p,ps[i / 2]?=some p:=⟨_,Pj (by lia)⟩;obtain⟨r,Z⟩:∃r,(B1 0 [] none t)[i / 2]?=some r:=⟨_,Pj (by rw[Hf];exact hj)⟩;obtain⟨_,q1,q2⟩:=pair _ p r hp Z;obtain⟨f1,f2⟩:=Zh3 hp;obtain⟨k1,k2⟩:=Zah (λr:Kd×Option Kd=>r.1) (λr=>r.2.getD r.1) _ _ r Z;by_cases hm:i % 2=0
  ·have ei:2*(i / 2)=i:=by lia
   rw[ei]at f1 k1;exact⟨p.1,r.1,f1,k1,ah i _ _ k1 au,λθ=>(q1 θ).1,(q2 Θ S1).1⟩
  ·have ei:2*(i / 2)+1=i:=by lia
   rw[ei]at f2 k2;exact⟨p.2,_,f2,k2,ah i _ _ k2 au,λθ=>(q1 θ).2,(q2 Θ S1).2⟩
 have h1:∀(j:Nat)(k b:Kd),ks[j]?=some k->bl[j]?=some b->Am ρ k=b:=λj k b aa al=>by
  obtain⟨x,kd,a1,a2,a3,a4,a5⟩:=ai j k b aa al;obtain⟨r,l1,l2⟩:=hx j x k a1 aa;rw[a6 r k l2,<- (I.i ag R0).last l1,a4 ag];exact av _ _ a3
 have h2:∀(j:Nat)(k b:Kd),ks[j]?=some k->bl[j]?=some b->Am (tr Θ) b=k:=λj k b aa al=>by
  obtain⟨x,kd,a1,a2,a3,a4,a5⟩:=ai j k b aa al;obtain⟨r,l1,l2⟩:=hx j x k a1 aa;rw[Cp R' a3,<- a5];exact bf x r k l1 l2
 obtain⟨cc,bq,be⟩:=Zh9 (flat ps) N 0 _ aq ht (λr k h=>by cases h) (λr k h=>by cases h) (by rw[Rc];exact Hi _ _);have F:=be ks ar hx;obtain⟨rr,ao⟩:=Zj6 (ks:=ks) (bs:=bl) (by rw[a7,an,a0]) F h1 h2;have pr:∀i,(ks.take i).foldl (λs k=>Be k s) [] <+: Pn cc:=λi=>by
  have e:ks=ks.take i++ks.drop i:=(Wa i ks).symm;have F:ks.foldl (λs k=>Be k s) []=Pn cc:=F;rw[<- F]
  conv=>rhs;rw[e,R8]
  exact Zal _ _
 have l2:a9.length<=200:=by
  have:=Zg1 hf i1.tot i1.bd;rw[D5]at i3;have i3:O.length<=2+3*t.size:=i3;lia
 have ae:∀i c',(ks.take i).foldl (λs k=>Be k s) []=Pn c'->c'=((ks.take i).foldl (λs k=>Be k s) []).length:=λi c' e=>by rw[e,Vh]
 refine⟨rr,λi=>((ks.take i).foldl (λs k=>Be k s) []).length,ef,⟨rk,c,KN⟩,rfl,λj=>?_,λj r b1 b2 Z ap aj=>?_⟩
 ·have:=(pr j).length_le;rw[Vh]at this;lia
 have hj:j<t.size:=by have:=(Pq.mp Z).1;rwa[Hf]at this
 obtain⟨k1,k2⟩:=Zah (λr:Kd×Option Kd=>r.1) (λr=>r.2.getD r.1) _ _ r Z;have e1:ks[2*j]?=some (ks.getD (2*j) .num):=by rw[Qm,Pj (by lia)];rfl
 have e2:ks[2*j+1]?=some (ks.getD (2*j+1) .num):=by rw[Qm,Pj (by lia)];rfl
 obtain⟨c1,am⟩:∃b,bl[2*j]?=some b:=⟨_,Pj (by lia)⟩;obtain⟨c2,ak⟩:∃b,bl[2*j+1]?=some b:=⟨_,Pj (by lia)⟩;have a8:c1=b1:=(ah _ _ _ k1 am).det ap;have bc:c2=b2:=(ah _ _ _ k2 ak).det aj;subst a8 bc;obtain⟨x1,x2,y1,y2,y3⟩:=ao _ _ _ e1 am;obtain⟨x3,x4,y4,y5,y6⟩:=ao _ _ _ e2 ak;have z1:=ae _ _ y1;have z2:=ae _ _ y2;have z3:=ae _ _ y4;have z4:=ae _ _ y5;subst z1 z2 z3 z4;refine⟨y3,y6,λhn=>?_⟩;have bg:ks.getD (2*j) .num=ks.getD (2*j+1) .num:=by
  rw[<- h2 _ _ _ e1 am,<- h2 _ _ _ e2 ak]
  congr 1
  rw[hn]at aj;exact ap.det aj
 have ay:(ks.take (2*j+1)).foldl (λs k=>Be k s) []=Be (ks.getD (2*j) .num) ((ks.take (2*j)).foldl (λs k=>Be k s) []):=by
  rw[Qq,e1,Option.toList,R8];rfl
 have ba:(ks.take (2*j+1+1)).foldl (λs k=>Be k s) []=Be (ks.getD (2*j+1) .num) ((ks.take (2*j+1)).foldl (λs k=>Be k s) []):=by
  rw[Qq,e2,Option.toList,R8];rfl
 show((ks.take (2*j+1+1)).foldl (λs k=>Be k s) []).length=((ks.take (2*j+1)).foldl (λs k=>Be k s) []).length;rw[ba,<- bg,y2,F6 (Zcu λn hn=>?_)];have:=Zph hn ((ks.take (2*j)).foldl (λs k=>Be k s) []);rw[<- ay,y2]at this;exact Q0.mp this
structure KnAt (K:Ph)(H:Hp)(d:Addr)(σ:Kn)(M:Nat)(kvs:List (Av×V)):Prop where
 e:H d=some (.dK kvs)
 v:∀n:Nat,(σ n=none/\Bw kvs (.inl ((n:Nat):Int))=none)\/∃k v,σ n=some k/\Bw kvs (.inl ((n:Nat):Int))=some v/\KdAt K H v k
 l:kvs.length+un (2*M) (λn=>(σ n).isNone)<=2*M
theorem SameT.dk (h:H S=some (.dK kv)):SameT H (upd H S o2):=λb =>
 ⟨λxs e=>by rw[Ai (Co e h (λz=>by cases z))];exact e,λo' u e=>by rw[Ai (Co e h (λz=>by cases z))];exact e⟩
structure Bd1 (d:Addr)(H H':Hp):Prop where
 b:Bt d H H'
 t:SameT H H'
theorem Bd1.trans (s:Bd1 d H H1)(r:Bd1 d H1 H2):Bd1 d H H2:=⟨λx o n e=>r.b x o n (s.b x o n e),s.t.trans r.t⟩
theorem Bd1.of (s:Same H H'):Bd1 d H H':=⟨λx o _ e=>s x o e,s.t⟩
theorem Bd1.put (e:H d=some (.dK kvs)):Bd1 d H (upd H d (.dK kvs')):=⟨λx o n h=>by rw[Ai n];exact h,SameT.dk e⟩
theorem Bd1.set (e:H d=some (.lst xs)):Bd1 d H (upd H d (.lst ys)):=⟨λx o n h=>by rw[Ai n];exact h,SameT.set e⟩
theorem KnAt.same (h:KnAt K H d σ M kvs)(s:Same H H'):KnAt K H' d σ M kvs:=⟨s _ _ h.e,λn=>(h.v n).imp id λ⟨k,v,h1,h2,F⟩=>⟨k,v,h1,h2,F.same s.t⟩,h.l⟩
theorem Nw:∀k:Kd,Pu (F0 k)
 |.num=>.tup λd h=>by rw[Py.mp h];exact .str _
 |.truth=>.tup λd h=>by rw[Py.mp h];exact .str _
 |.any n=>.tup λd h=>by
  rcases Pm.mp h with rfl|h
  ·exact .str _
  ·rw[Py.mp h];exact .int _
 |.to x y=>.tup λd h=>by
  rcases Pm.mp h with rfl|h
  ·exact .str _
  ·rcases Pm.mp h with rfl|h
   ·exact Nw x
   ·rw[Py.mp h];exact Nw y
theorem Dy (h:Dt.tup (.flat (.str a)::r)=.tup (.flat (.str b)::r')):a=b/\r=r':=by
 injection h with h;injection h with h1 h2;injection h1 with h1;exact⟨V.str.inj h1,h2⟩
theorem Zbx:∀k k':Kd,F0 k=F0 k'->k=k'
 |.num,.num,_=>rfl
 |.num,.truth,h=>absurd (Dy h).1 (by right)
 |.num,.any _,h=>absurd (Dy h).1 (by right)
 |.num,.to _ _,h=>absurd (Dy h).1 (by right)
 |.truth,.num,h=>absurd (Dy h).1 (by right)
 |.truth,.truth,_=>rfl
 |.truth,.any _,h=>absurd (Dy h).1 (by right)
 |.truth,.to _ _,h=>absurd (Dy h).1 (by right)
 |.any _,.num,h=>absurd (Dy h).1 (by right)
 |.any _,.truth,h=>absurd (Dy h).1 (by right)
 |.any n,.any m,h=>by
  have h:=(Dy h).2;injection h with h _;injection h with h;have h:=V.int.inj h;rw[show n=m by lia]
 |.any _,.to _ _,h=>absurd (Dy h).1 (by right)
 |.to _ _,.num,h=>absurd (Dy h).1 (by right)
 |.to _ _,.truth,h=>absurd (Dy h).1 (by right)
 |.to _ _,.any _,h=>absurd (Dy h).1 (by right)
 |.to x y,.to F I,h=>by
  have h:=(Dy h).2;injection h with h1 h2;injection h2 with h2 _;rw[Zbx x F h1,Zbx y I h2]
theorem Zup (hu:KdAt K H u k)(hv:KdAt K H v k')(d1:Bz k<=180)(d2:Bz k'<=180)(h:∀b:Bool,(b=true↔k=k')->Q (.bl b) H):N4 K u v H Q:=by
 obtain⟨a,rfl⟩:=hu.ref;obtain⟨c,rfl⟩:=hv.ref;refine Zrj (n:=181) (by decide) (hu.d.up (by lia)) (hv.d.up (by lia)) (Nw k) (Nw k') λb hb=>h b ?_;rw[hb];exact⟨Zbx _ _,λe=>by rw[e]⟩
section
variable {P:Program}{w:World}{K:Ph}{mg:Str->Option Value}{base:Heap}
inductive Jput (K:Ph)(N:Nat)(vs:List V)(H:Hp)(Q:VK)(e9:XK):Prop
 |mk (v:V) (d:Addr) (k k':Kd) (σ:Kn) (M:Nat) (kvs:List (Av×V)) (_:vs=[v,.ref d]) (_:KdAt K H v k) (_:KnAt K H d σ M kvs) (_:PutD σ N k k') (_:∀(v':V)(H':Hp),Same H H'->KdAt K H' v' k'->Q v' H')
def F9 (K:Ph)(N:Nat):Sp:=Jput K N
theorem Ztt:Bm ["_law_kind","_law_known"] ["_law_kind","_law_known"] (Bh J2):=by walk_at "sc"
theorem Zpr (F:Fun K "_law_put" "_law_put" J2 f fd)(T:Txt K mg)(C__law_put:A7 P w K mg base (n+1) "_law_put" ["_law_kind","_law_known"] (F9 K n)):A8 P w K mg base A9 (n+2) f fd ["_law_kind","_law_known"] (F9 K (n+1)):=by
 refine F.okq Ztt (λvs H Q E h=>?_) (λaa A outer s H vs Q E Z h=>?_)
 ·obtain⟨v,d,k,k',σ,M,kvs,rfl,_⟩:=h;rfl
 ·obtain⟨v,d,k,k',σ,M,kvs,rfl,Y,hd,hp,ret⟩:=h;refine⟨_,Ae (Au (QW.qt (F7 (Aw (Fz K Z.u200) (Ah K (qv 0) Ad) Aj (A0 _)) (F5 (E6 (Zbs Z.u1 (Ah K (qv 0) Ad) (qv 1)))))) (Ag (Ar (A5 C__law_put (Z.mono (by lia)) (Aa (Lv Z.u1 (qv 1) (Ah K (qv 0) Ad) (λ_ _=>rfl)) (Aa (qv 1) Ab))))) Ay)
   (Ae (Au (Aw (Fz K Z.u200) (Ah K (qv 0) Ad) Aj (A0 _)) (Ag (Ar (Ak (Aa Aj (Aa (A5 C__law_put (Z.mono (by lia)) (Aa (Ah K (qv 0) Ad) (Aa (qv 1) Ab))) (Aa (A5 C__law_put (Z.mono (by lia)) (Aa (Ah K (qv 0) Ad) (Aa (qv 1) Ab))) Ab)))))) Ay)
   (Ag (Ar (qv 0)))),?_⟩
  have bg:=big;have nd:∀(a b:Str),a≠b->decide (V.str a=V.str b)=false:=λa b h=>decide_eq_false λz=>h (V.str.inj z);cases hp with
  |num =>
   have U:=Y;cases Y with
   | @num a I =>
   left;refine Ao I (v:=.str "num") rfl ?_;left;rw[nd "num" "any" (by right)];left;refine Ao I (v:=.str "num") rfl ?_;left;rw[nd "num" "to" (by right)];left;exact ret _ _ (Same.refl _) U
  |truth =>
   have U:=Y;cases Y with
   | @truth a I =>
   left;refine Ao I (v:=.str "truth") rfl ?_;left;rw[nd "truth" "any" (by right)];left;refine Ao I (v:=.str "truth") rfl ?_;left;rw[nd "truth" "to" (by right)];left;exact ret _ _ (Same.refl _) U
  | @free _ m hm =>
   have U:=Y;cases Y with
   | @any a _ I =>
   have O:Bw kvs (.inl ((m:Nat):Int))=none:=by
    rcases hd.v m with⟨_,h⟩|⟨k,v,h,_,_⟩
    ·exact h
    ·rw[hm]at h;cases h
   left;refine Ao I (v:=.str "any") rfl ?_;left;rw[decide_eq_true (show V.str "any"=V.str "any" from rfl)];left;refine Ao I (v:=.int ((m:Nat):Int)) rfl ?_;left;refine⟨d,none,rfl,by rw[<- O];exact DGet.k (k:=.inl ((m:Nat):Int)) hd.e,?_⟩;left;refine iteF ?_;left;refine Ao I (v:=.str "any") rfl ?_;left;rw[nd "any" "to" (by right)];left;exact ret _ _ (Same.refl _) U
  | @step _ m k1 _ hm t =>
   cases Y with
   | @any a _ I =>
   obtain⟨w,O,hw⟩:∃w,Bw kvs (.inl ((m:Nat):Int))=some w/\KdAt K H w k1:=by
    rcases hd.v m with⟨h,_⟩|⟨k,v,h,h2,h3⟩
    ·rw[hm]at h;cases h
    ·rw[hm]at h;cases h;exact⟨v,h2,h3⟩
   left;refine Ao I (v:=.str "any") rfl ?_;left;rw[decide_eq_true (show V.str "any"=V.str "any" from rfl)];left;refine Ao I (v:=.int ((m:Nat):Int)) rfl ?_;left;refine⟨d,some w,rfl,by rw[<- O];exact DGet.k (k:=.inl ((m:Nat):Int)) hd.e,?_⟩;left;refine iteT ?_;left;refine Ao I (v:=.int ((m:Nat):Int)) rfl ?_;left;refine⟨d,w,rfl,by rw[<- O];exact DGet.k (k:=.inl ((m:Nat):Int)) hd.e,?_⟩;left;exact⟨w,d,k1,k',σ,M,kvs,rfl,hw,hd,t,ret⟩
  | @to _ x y x' y' hx hy =>
   cases Y with
   | @to a u1 u2 _ _ I h1 h2 =>
   left;refine Ao I (v:=.str "to") rfl ?_;left;rw[nd "to" "any" (by right)];left;refine Ao I (v:=.str "to") rfl ?_;left;rw[decide_eq_true (show V.str "to"=V.str "to" from rfl)];left;refine Ao I (v:=u1) rfl ?_;left;refine⟨u1,d,x,x',σ,M,kvs,rfl,h1,hd,hx,λv1 H1 s1 k1=>?_⟩;left;refine Ao (s1.tup I) (v:=u2) rfl ?_;left;refine⟨u2,d,y,y',σ,M,kvs,rfl,h2.same s1.t,hd.same s1,hy,λv2 H2 s2 k2=>?_⟩;left;refine⟨Bg,λp hp=>?_⟩;have s3:=Same.upd (o:=.tup [.str "to",v1,v2]) hp;exact ret _ _ (s1.trans (s2.trans s3)) (.to (SqT.of Ac) (k1.same (s2.trans s3).t) (k2.same s3.t))
inductive Zjx (K:Ph)(N:Nat)(vs:List V)(H:Hp)(Q:VK)(e9:XK):Prop
 |mk (v:V) (m:Nat) (k:Kd) (_:vs=[v,.int ((m:Nat):Int)]) (_:KdAt K H v k) (_:Bz k<N) (_:∀b:Bool,(b=true↔In m k)->Q (.bl b) H)
def Hj (K:Ph)(N:Nat):Sp:=Zjx K N
theorem Zr7:Bm ["_law_kind","_law_number"] ["_law_kind","_law_number"] (Bh Jl):=by walk_at "sc"
theorem Zpy (F:Fun K "_law_has" "_law_has" Jl f fd)(T:Txt K mg)(C__law_has:A7 P w K mg base (n+1) "_law_has" ["_law_kind","_law_number"] (Hj K n)):A8 P w K mg base A9 (n+2) f fd ["_law_kind","_law_number"] (Hj K (n+1)):=by
 refine F.okq Zr7 (λvs H Q E h=>?_) (λaa A outer s H vs Q E O h=>?_)
 ·obtain⟨v,m,k,rfl,_⟩:=h;rfl
 ·obtain⟨v,m,k,rfl,hv,hd,ret⟩:=h;refine⟨_,Ae (Au (Aw (Fz K O.u200) (Ah K (qv 0) Ad) Aj (A0 _)) (Ag (Ar (Zma (A5 C__law_has (O.mono (by lia)) (Aa (Ah K (qv 0) Ad) (Aa (qv 1) Ab))) (Gp (A5 C__law_has (O.mono (by lia)) (Aa (Ah K (qv 0) Ad) (Aa (qv 1) Ab))))))) Ay)
   (Ag (Ar (G0 (Gu (Fz K O.u200) (Ah K (qv 0) Ad) Aj (A0 _)) (Gp (Gu (Fz K O.u200) (Ah K (qv 0) Ad) (qv 1) (A0 _)))))),?_⟩
  have bg:=big;have nd:∀(a b:Str),a≠b->decide (V.str a=V.str b)=false:=λa b h=>decide_eq_false λz=>h (V.str.inj z);cases hv with
  | @num a I =>
   left;refine Ao I (v:=.str "num") rfl ?_;left;rw[nd "num" "to" (by right)];left;refine Ao I (v:=.str "num") rfl ?_;left;rw[nd "num" "any" (by right)];left;exact ret false ⟨(λz=>by cases z),(λz=>nomatch z)⟩
  | @truth a I =>
   left;refine Ao I (v:=.str "truth") rfl ?_;left;rw[nd "truth" "to" (by right)];left;refine Ao I (v:=.str "truth") rfl ?_;left;rw[nd "truth" "any" (by right)];left;exact ret false ⟨(λz=>by cases z),(λz=>nomatch z)⟩
  | @any a j I =>
   left;refine Ao I (v:=.str "any") rfl ?_;left;rw[nd "any" "to" (by right)];left;refine Ao I (v:=.str "any") rfl ?_;left;rw[decide_eq_true (show V.str "any"=V.str "any" from rfl)];left;refine Ao I (v:=.int ((j:Nat):Int)) rfl ?_;left;refine ret _ ⟨λz=>?_,λz=>?_⟩
   ·have z:=V.int.inj (of_decide_eq_true z);have e:j=m:=by lia
    rw[e];exact .any
   ·cases z;exact decide_eq_true rfl
  | @to a u1 Z x y I h1 h2 =>
   have dp:Bz (.to x y)=max (Bz x) (Bz y)+1:=rfl;left;refine Ao I (v:=.str "to") rfl ?_;left;rw[decide_eq_true (show V.str "to"=V.str "to" from rfl)];left;refine Ao I (v:=u1) rfl ?_;left;refine⟨u1,m,x,rfl,h1,by lia,λb1 Y=>?_⟩;cases b1 with
   |true =>
    left;exact ret true ⟨λ_=>.l (Y.mp rfl),λ_=>rfl⟩
   |false =>
    left;refine Ao I (v:=Z) rfl ?_;left;refine⟨Z,m,y,rfl,h2,by lia,λb2 U=>?_⟩;left;refine ret b2 ⟨λz=>.r (U.mp z),λz=>?_⟩;cases z with
    |l z=>have:=Y.mpr z;cases this
    |r z=>exact U.mpr z
structure SlI (K:Ph)(H:Hp)(u v:V)(d:Addr)(a b:Kd)(σ:Kn)(M:Nat)(kvs:List (Av×V)):Prop where
 u:KdAt K H u a
 v:KdAt K H v b
 d:KnAt K H d σ M kvs
 m:M<=40
 k:∃rk c,KnOk M σ rk c
 a:KOk M σ a
 b:KOk M σ b
inductive Jslv (K:Ph)(N:Nat)(vs:List V)(H:Hp)(Q:VK)(e9:XK):Prop
 |mk (u v:V) (d:Addr) (a b:Kd) (σ:Kn) (M:Nat) (kvs:List (Av×V)) (o:Option Kn) (_:vs=[u,v,.ref d]) (_:SlI K H u v d a b σ M kvs) (_:C1 N σ a b o) (_:(o=none->∀H',Bd1 d H H'->(∃kvs',H' d=some (.dK kvs'))->Q (.bl false) H')) (_:∀σ',o=some σ'->∀(kvs':List (Av×V))(H':Hp),Bd1 d H H'->KnAt K H' d σ' M kvs'->Q (.bl true) H')
def Hs (K:Ph)(N:Nat):Sp:=Jslv K N
theorem KnAt.put {K:Ph}{H:Hp}{d:Addr}{σ:Kn}{M n:Nat}{kvs:List (Av×V)}{v:V}{k:Kd}(h:KnAt K H d σ M kvs)(hn:σ n=none)(hb:n<2*M)(hv:KdAt K H v k):KnAt K (upd H d (.dK (Bp kvs (.inl ((n:Nat):Int)) v))) d (El σ n k) M (Bp kvs (.inl ((n:Nat):Int)) v):=by
 have t:=SameT.dk (o2:=.dK (Bp kvs (.inl ((n:Nat):Int)) v)) h.e;refine⟨Ac,λm=>?_,?_⟩
 ·rw[Li];show((if m=n then some k else σ m)=none/\_)\/∃F I,(if m=n then some k else σ m)=some F/\_;by_cases z:m=n
  ·rw[if_pos z,if_pos (by rw[z])];exact .inr ⟨k,v,rfl,rfl,hv.same t⟩
  ·rw[if_neg z,if_neg (λq=>z (by have:=V4 q;lia))];exact(h.v m).imp id λ⟨F,I,h1,h2,O⟩=>⟨F,I,h1,h2,O.same t⟩
 ·have:=Lm (2*M) n (λm=>(σ m).isNone) (λm=>(El σ n k m).isNone) hb (by show(σ n).isNone=true;rw[hn];rfl) (by show(if n=n then some k else σ n).isNone=false;rw[if_pos rfl];rfl) (λi hi=>by show(if i=n then some k else σ i).isNone=_;rw[if_neg hi]);have U:=Et kvs (.inl ((n:Nat):Int)) v;have Y:=h.l;lia
theorem Zi2 (h:KdAt K H u k):eX3 λ(a:Addr)(w:Str)(r:List V)=>u=.ref a/\SqT K H a (.str w::r)/\(w="any" ↔ ∃m,k=.any m)/\(w="to" ↔ ∃x y,k=.to x y):=by
 cases h with
 |num q=>exact⟨_,_,_,rfl,q,⟨λz=>absurd z (by right),λ⟨_,z⟩=>by cases z⟩,⟨λz=>absurd z (by right),λ⟨_,_,z⟩=>by cases z⟩⟩
 |truth q=>exact⟨_,_,_,rfl,q,⟨λz=>absurd z (by right),λ⟨_,z⟩=>by cases z⟩,⟨λz=>absurd z (by right),λ⟨_,_,z⟩=>by cases z⟩⟩
 |any q=>exact⟨_,_,_,rfl,q,⟨λ_=>⟨_,rfl⟩,λ_=>rfl⟩,⟨λz=>absurd z (by right),λ⟨_,_,z⟩=>by cases z⟩⟩
 |to q _ _=>exact⟨_,_,_,rfl,q,⟨λz=>absurd z (by right),λ⟨_,z⟩=>by cases z⟩,⟨λ_=>⟨_,_,rfl⟩,λ_=>rfl⟩⟩
theorem Zau:Bm ["_law_one","_law_other","_law_known"] ["_law_one","_law_other","_law_known"] (Bh Js):=by walk_at "sc"
theorem Zm1 (F:Fun K "_law_solved" "_law_solved" Js f fd)(T:Txt K mg)(C__law_put:A7 P w K mg base 126 "_law_put" ["_law_kind","_law_known"] (F9 K 125))(C__law_has:A7 P w K mg base 46 "_law_has" ["_law_kind","_law_number"] (Hj K 45))(C__law_solved:A7 P w K mg base (n+126) "_law_solved" ["_law_one","_law_other","_law_known"] (Hs K n)):A8 P w K mg base A9 (n+127) f fd ["_law_one","_law_other","_law_known"] (Hs K (n+1)):=by
 refine F.okq Zau (λvs H Q E h=>?_) (λa8 A outer s H vs Q E hr h=>?_)
 ·obtain⟨u,v,d,a,b,σ,M,kvs,o,rfl,_⟩:=h;rfl
 ·obtain⟨u,v,d,a,b,σ,M,kvs,o,rfl,I,S,no,aj⟩:=h;refine⟨_,Ae (As 0 Zau (A5 C__law_put (hr.mono (by lia)) (Aa (qv 0) (Aa (qv 2) Ab))))
   (Ae (As 1 Zau (A5 C__law_put (hr.mono (by lia)) (Aa (qv 1) (Aa (qv 2) Ab))))
   (Ae (Au (Aw (Fz K hr.u200) (qv 0) (qv 1) (A0 _)) (Ag (Ar Dz)) Ay)
   (Ae (Au (QW.qt (F7 (Aw (Fz K hr.u200) (Ah K (qv 0) Ad) Aj (A0 _)) (F5 (Hw (Ex (A5 C__law_has (hr.mono (by lia)) (Aa (qv 1) (Aa (Ah K (qv 0) Ad) Ab)))))))) (Ae (Gh hr.u1 (qv 2) (Ah K (qv 0) Ad) (qv 1))
   (Ag (Ar Dz))) Ay)
   (Ae (Au (QW.qt (F7 (Aw (Fz K hr.u200) (Ah K (qv 1) Ad) Aj (A0 _)) (F5 (Hw (Ex (A5 C__law_has (hr.mono (by lia)) (Aa (qv 0) (Aa (Ah K (qv 1) Ad) Ab)))))))) (Ae (Gh hr.u1 (qv 2) (Ah K (qv 1) Ad) (qv 0))
   (Ag (Ar Dz))) Ay)
   (Ae (Au (QW.qt (Zca (Aw (Mu K hr.u200) (Ah K (qv 0) Ad) Aj (A0 _)) (Zcm (Aw (Mu K hr.u200) (Ah K (qv 1) Ad) Aj (A0 _))))) (Ag (Ar Dz)) Ay)
   (Ag (Ar (G0 (A5 C__law_solved (hr.mono (by lia)) (Aa (Ah K (qv 0) Ad) (Aa (Ah K (qv 1) Ad) (Aa (qv 2) Ab)))) (Gp (A5 C__law_solved (hr.mono (by lia)) (Aa (Ah K (qv 0) Ad) (Aa (Ah K (qv 1) Ad) (Aa (qv 2) Ab))))))))))))),?_⟩
  have bg:=big;obtain⟨rk,c,KN⟩:=I.k;have hM:=I.m;have hc:c<=80:=by have:=KN.f;lia
  obtain⟨a',ha⟩:=KN.t.put a;obtain⟨b',hb⟩:=KN.t.put b;have la:=Es KN.k ha I.a;have lb:=Es KN.k hb I.b;have da:=KN.deep la;have db:=KN.deep lb;have pa:=(Nk KN.t ha 0 (λ_ _ _=>P8 _)).up (M:=125) (by lia);have pb:=(Nk KN.t hb 0 (λ_ _ _=>P8 _)).up (M:=125) (by lia);left;refine⟨u,d,a,a',σ,M,kvs,rfl,I.u,I.d,pa,λu1 H1 s1 ku=>?_⟩;left;refine⟨v,d,b,b',σ,M,kvs,rfl,I.v.same s1.t,I.d.same s1,pb,λv1 H2 s2 kv=>?_⟩;have ku:=ku.same s2.t;have ae:=I.d.same (s1.trans s2);have ag:=s1.trans s2;left;refine Zup ku kv (by lia) (by lia) λbb as=>?_;have Z:∀{k:Kd},PutR σ a k->a'=k:=λh=>ha.det h;have aa:∀{k:Kd},PutR σ b k->b'=k:=λh=>hb.det h;obtain⟨au,wu,ru,rfl,qu,am,ao⟩:=Zi2 ku;obtain⟨av,wv,rv,rfl,qv,ar,aq⟩:=Zi2 kv;have ns:∀{x y:Str},x≠y->decide (V.str x=V.str y)=false:=λh=>decide_eq_false λz=>h (V.str.inj z);have ys:∀{x y:Str},x=y->decide (V.str x=V.str y)=true:=λh=>decide_eq_true (by rw[h]);left;by_cases e0:a'=b'
  ·rw[as.mpr e0];left;cases S with
   |eq O U=>exact aj σ rfl kvs H2 (.of ag) ae
   |bl O U ne ni=>rw[Z O,aa U]at e0;exact absurd e0 ne
   |br O U na ni=>rw[aa U]at e0;exact absurd ((Z O).symm.trans e0) (na _)
   |clash O U ne h1 h2 nt=>rw[Z O,aa U]at e0;exact absurd e0 ne
   |toT O U ne k1 k2=>rw[Z O,aa U]at e0;exact absurd e0 ne
   |toF O U ne k1=>rw[Z O,aa U]at e0;exact absurd e0 ne
  have a4:bb=false:=by
   cases bb with
   |false=>rfl
   |true=>exact absurd (as.mp rfl) e0
  subst a4;by_cases c1:∃m,a'=.any m/\¬In m b'
  ·obtain⟨m,em,nm⟩:=c1;subst em;have eo:o=some (El σ m b'):=by
    cases S with
    |eq O U=>exact absurd ((Z O).trans (aa U).symm) e0
    |bl O U ne ni=>have:=Z O;cases this;rw[aa U]
    |br O U na ni=>exact absurd (Z O).symm (na m)
    |clash O U ne h1 h2 nt=>exact absurd (by rw[aa U];exact h1 m (Z O).symm) nm
    |toT O U ne k1 k2=>cases Z O
    |toF O U ne k1=>cases Z O
   cases ku with
   | @any _ _ qk =>
   left;refine Ao qk (v:=.str "any") rfl ?_;left;rw[ys rfl];left;refine Ao qk (v:=.int ((m:Nat):Int)) rfl ?_;left;refine⟨_,m,b',rfl,kv,by lia,λb3 ai=>?_⟩;have e3:b3=false:=by
    cases b3 with
    |false=>rfl
    |true=>exact absurd (ai.mp rfl) nm
   subst e3;left;refine Ao qk (v:=.int ((m:Nat):Int)) rfl ?_;left;have ay:=ae.l;refine⟨d,_,rfl,DPut.k (k:=.inl ((m:Nat):Int)) ae.e (by lia),?_⟩;left;exact aj _ eo _ _ ((Bd1.of ag).trans (Bd1.put ae.e)) (ae.put (Fn ha _ .any) (la.b _ .any) kv)
  refine iteF ?_
  iterate 2 walk_at "r1"
  refine Ds (t:=Dh _ _ _) (R:=λah H'=>H'=H2/\ah=[some (.ref au),some (.ref av),some (.ref d)]) ?_ ?_
  ·intro Y hY;left;refine Ao qu (v:=.str wu) (C2 (j:=0) rfl) ?_;left;by_cases ca:∃m,a'=.any m
   ·obtain⟨m,em⟩:=ca;rw[ys (am.mpr ⟨m,em⟩)];subst em;cases ku with
    | @any _ _ qk =>
    left;refine Ao qk (v:=.int ((m:Nat):Int)) rfl ?_;left;refine⟨_,m,b',rfl,kv,by lia,λb3 ai=>?_⟩;have e3:b3=true:=ai.mpr (V8 λz=>c1 ⟨m,rfl,z⟩);subst e3;left;exact hY _ _ ⟨rfl,rfl⟩
   ·rw[ns (λz=>ca (am.mp z))];left;exact hY _ _ ⟨rfl,rfl⟩
  rintro _ HX ⟨eX,rfl⟩;rw[eX];clear eX;by_cases c2:∃m,b'=.any m/\¬In m a'
  ·obtain⟨m,em,nm⟩:=c2;subst em;have eo:o=some (El σ m a'):=by
    cases S with
    |eq O U=>exact absurd ((Z O).trans (aa U).symm) e0
    |bl O U ne ni=>exact absurd ⟨_,Z O,by rw[aa U];exact ni⟩ c1
    |br O U na ni=>have:=aa U;cases this;rw[Z O]
    |clash O U ne h1 h2 nt=>exact absurd (by rw[Z O];exact h2 m (aa U).symm) nm
    |toT O U ne k1 k2=>cases aa U
    |toF O U ne k1=>cases aa U
   cases kv with
   | @any _ _ qk =>
   left;refine Ao qk (v:=.str "any") rfl ?_;left;rw[ys rfl];left;refine Ao qk (v:=.int ((m:Nat):Int)) rfl ?_;left;refine⟨_,m,a',rfl,ku,by lia,λb3 ai=>?_⟩;have e3:b3=false:=by
    cases b3 with
    |false=>rfl
    |true=>exact absurd (ai.mp rfl) nm
   subst e3;left;refine Ao qk (v:=.int ((m:Nat):Int)) rfl ?_;left;have ay:=ae.l;refine⟨d,_,rfl,DPut.k (k:=.inl ((m:Nat):Int)) ae.e (by lia),?_⟩;left;exact aj _ eo _ _ ((Bd1.of ag).trans (Bd1.put ae.e)) (ae.put (Fn hb _ .any) (lb.b _ .any) ku)
  iterate 1 walk_at "r1"
  refine Ds (t:=Dh _ _ _) (R:=λah H'=>H'=H2/\ah=[some (.ref au),some (.ref av),some (.ref d)]) ?_ ?_
  ·intro Y hY;left;refine Ao qv (v:=.str wv) (C2 (j:=0) rfl) ?_;left;by_cases ca:∃m,b'=.any m
   ·obtain⟨m,em⟩:=ca;rw[ys (ar.mpr ⟨m,em⟩)];subst em;cases kv with
    | @any _ _ qk =>
    left;refine Ao qk (v:=.int ((m:Nat):Int)) rfl ?_;left;refine⟨_,m,a',rfl,ku,by lia,λb3 ai=>?_⟩;have e3:b3=true:=ai.mpr (V8 λz=>c2 ⟨m,rfl,z⟩);subst e3;left;exact hY _ _ ⟨rfl,rfl⟩
   ·rw[ns (λz=>ca (ar.mp z))];left;exact hY _ _ ⟨rfl,rfl⟩
  rintro _ HX ⟨eX,rfl⟩;rw[eX];clear eX;have ax:(eX4 λx y x' y'=>a'=.to x y/\b'=.to x' y')\/(o=none/\((∀x y,a'≠.to x y)\/∀x y,b'≠.to x y)):=by
   cases S with
   |eq O U=>exact absurd ((Z O).trans (aa U).symm) e0
   |bl O U ne ni=>exact absurd ⟨_,Z O,by rw[aa U];exact ni⟩ c1
   |br O U na ni=>exact absurd ⟨_,aa U,by rw[Z O];exact ni⟩ c2
   |clash O U ne h1 h2 nt=>rw[Z O,aa U];exact .inr ⟨rfl,nt⟩
   |toT O U ne k1 k2=>exact .inl ⟨_,_,_,_,Z O,aa U⟩
   |toF O U ne k1=>exact .inl ⟨_,_,_,_,Z O,aa U⟩
  rcases ax with⟨x,y,x',y',ea,eb⟩|⟨eo,nt⟩
  ·have w1:=ao.mpr ⟨x,y,ea⟩;have w2:=aq.mpr ⟨x',y',eb⟩;subst ea eb;cases ku with
   | @to _ u2 u3 _ _ qk x1 x2 =>
   cases kv with
   | @to _ v2 v3 _ _ al y1 y2 =>
   left;refine Ao qk (v:=.str "to") rfl ?_;left;rw[ys rfl];left;refine Ao al (v:=.str "to") rfl ?_;left;rw[ys rfl];left;refine Ao qk (v:=u2) rfl ?_;left;refine Ao al (v:=v2) rfl ?_;left;cases S with
   |eq O U=>exact absurd ((Z O).trans (aa U).symm) e0
   |bl O U ne ni=>cases Z O
   |br O U na ni=>cases aa U
   |clash O U ne h1 h2 nt =>
    rcases nt with z|z
    ·exact absurd (Z O).symm (z x y)
    ·exact absurd (aa U).symm (z x' y')
   | @toF _ _ _ _ p1 p2 q1 q2 O U ne k1 =>
    cases Z O;cases aa U;refine⟨u2,v2,d,x,x',σ,M,kvs,none,rfl,⟨x1,y1,ae,I.m,I.k,la.fst,lb.fst⟩,k1,λ_ H3 b3 e3=>?_,λah z=>by cases z⟩;left;exact no rfl H3 ((Bd1.of ag).trans b3) e3
   | @toT _ _ ak _ _ p1 p2 q1 q2 _ O U ne k1 k2 =>
    cases Z O;cases aa U;refine⟨u2,v2,d,x,x',σ,M,kvs,some ak,rfl,⟨x1,y1,ae,I.m,I.k,la.fst,lb.fst⟩,k1,(λz=>by cases z),λah z an H3 b3 a7=>?_⟩;cases z;obtain⟨a0,a6,a5⟩:=Hq k1 ak rfl rk c KN la.fst lb.fst;have mono:∀θ,B2 θ ak->B2 θ σ:=λθ R=>(Jw k1 _ rfl θ R).1;left;refine Ao (b3.t.tup qk) (v:=u3) rfl ?_;left;refine Ao (b3.t.tup al) (v:=v3) rfl ?_;left;refine⟨u3,v3,d,y,y',ak,M,an,o,rfl,⟨x2.same b3.t,y2.same b3.t,a7,I.m,⟨a0,a6,a5⟩,la.snd.mono mono,lb.snd.mono mono⟩,k2,λz H4 b4 e4=>?_,λah z ap H4 b4 a3=>?_⟩
    ·left;exact no z H4 ((Bd1.of ag).trans (b3.trans b4)) e4
    ·left;exact aj ah z ap H4 ((Bd1.of ag).trans (b3.trans b4)) a3
  ·have fin:Q (.bl false) H2:=no eo H2 (.of ag) ⟨_,ae.e⟩;left;refine Ao qu (v:=.str wu) (C2 (j:=0) rfl) ?_;left;by_cases z1:wu="to"
   ·rw[ys z1];left;refine Ao qv (v:=.str wv) (C2 (j:=0) rfl) ?_;left;have z2:wv≠"to":=λz2=>by
     obtain⟨x,y,ea⟩:=ao.mp z1;obtain⟨x',y',eb⟩:=aq.mp z2;rcases nt with z|z
     ·exact z x y ea
     ·exact z x' y' eb
    rw[ns z2];left;exact fin
   ·rw[ns z1];left;exact fin
theorem Zbc:∀(k:Kd)(s:List Nat),s <+: (B3 k s).2
 |.any n,s=>by
  rw[B3];split
  ·exact Qz
  ·exact Rj _ _
 |.to x y,s=>(Zbc x s).trans (Zbc y _)
 |.num,s=>Qz
 |.truth,s=>Qz
noncomputable abbrev Fh (s:List Nat):List V:=(s.map λn=>((n:Nat):Int)).map V.int
theorem Zj3 (n:Nat)(s:List Nat):Fa (.int ((n:Nat):Int)) (Fh s)=decide (n∈s):=by
 rw[So,decide_eq_true_iff];unfold Fa;simp[Ek];constructor
 ·rintro⟨a,ha,e⟩;have:n=a:=by lia
  rw[this];exact ha
 ·intro h;exact⟨n,h,rfl⟩
theorem Zob:(Fh s).all C5=true:=by
 unfold Fh;rw[List.all_map];exact Sa.mpr λ_ _=>rfl
theorem Zky {s:List Nat}{m j:Nat}(h:j<s.idxOf m):(s.map λn=>((n:Nat):Int))[j]?≠some ((m:Nat):Int):=by
 induction s generalizing j with
 |nil=>simp at h
 |cons x r F =>
  by_cases e:x=m
  ·rw[e,List.idxOf_cons_self]at h;cases h
  ·have hb:(x == m)=false:=by simpa using e
   rw[List.idxOf_cons,hb]at h;have h:j<r.idxOf m+1:=h;cases j with
   |zero=>intro z;apply e;have z:((x:Nat):Int)=((m:Nat):Int):=Pz z;lia
   |succ j=>simpa using F (j:=j) (by lia)
inductive Znz (K:Ph)(N:Nat)(vs:List V)(H:Hp)(Q:VK)(e9:XK):Prop
 |mk (v:V) (d:Addr) (k:Kd) (s:List Nat) (_:vs=[v,.ref d]) (_:KdAt K H v k) (_:Bz k<N) (_:H d=some (.lst (Fh s))) (_:(B3 k s).2.length<=1000) (_:∀(v':V)(H':Hp),Bd1 d H H'->H' d=some (.lst (Fh (B3 k s).2))->KdAt K H' v' (B3 k s).1->Q v' H')
def Ip (K:Ph)(N:Nat):Sp:=Znz K N
theorem Zhp:Bm ["_law_kind","_law_seen","_law_left"] ["_law_kind","_law_seen"] (Bh Jb):=by walk_at "sc"
theorem Zmw (F:Fun K "_law_numbered" "_law_numbered" Jb f fd)(T:Txt K mg)(C__law_numbered:A7 P w K mg base (n+1) "_law_numbered" ["_law_kind","_law_seen"] (Ip K n)):A8 P w K mg base A9 (n+2) f fd ["_law_kind","_law_seen"] (Ip K (n+1)):=by
 refine F.okq Zhp (λvs H Q E h=>?_) (λae A outer s H vs Q E hr h=>?_)
 ·obtain⟨v,d,k,s,rfl,_⟩:=h;rfl
 ·obtain⟨v,d,k,s,rfl,hv,hd,es,Y,ret⟩:=h;refine⟨_,Ae (Au (Aw (Fz K hr.u200) (Ah K (qv 0) Ad) Aj (A0 _)) (Ae (Au (Aw (Zqw K) (Ah K (qv 0) Ad) (qv 1) (by rfl)) (Ag (Cr (Cu K Qd Qs Qt C9 (qv 1) (Aa (Ah K (qv 0) Ad) Ab)))) Ay)
   (Ag (Ar (Ak (Aa Aj (Aa (Cu K Qd PySem.F.slot_list_index PySem.F.type_list_index (Zqn K) (qv 1) (Aa (Ah K (qv 0) Ad) Ab)) Ab)))))) Ay)
   (Ae (Au (Aw (Fz K hr.u200) (Ah K (qv 0) Ad) Aj (A0 _)) (Ae (As 2 Zhp (A5 C__law_numbered (hr.mono (by lia)) (Aa (Ah K (qv 0) Ad) (Aa (qv 1) Ab))))
   (Ag (Ar (Ak (Aa Aj (Aa (qv 2) (Aa (A5 C__law_numbered (hr.mono (by lia)) (Aa (Ah K (qv 0) Ad) (Aa (qv 1) Ab))) Ab))))))) Ay)
   (Ag (Ar (qv 0)))),?_⟩
  have bg:=big;have nd:∀(a b:Str),a≠b->decide (V.str a=V.str b)=false:=λa b h=>decide_eq_false λz=>h (V.str.inj z);have aa:=hv;cases hv with
  | @num a I =>
   left;refine Ao I (v:=.str "num") rfl ?_;left;rw[nd "num" "any" (by right)];left;refine Ao I (v:=.str "num") rfl ?_;left;rw[nd "num" "to" (by right)];left;exact ret _ _ (.of (Same.refl _)) es aa
  | @truth a I =>
   left;refine Ao I (v:=.str "truth") rfl ?_;left;rw[nd "truth" "any" (by right)];left;refine Ao I (v:=.str "truth") rfl ?_;left;rw[nd "truth" "to" (by right)];left;exact ret _ _ (.of (Same.refl _)) es aa
  | @any a m I =>
   left;refine Ao I (v:=.str "any") rfl ?_;left;rw[decide_eq_true (show V.str "any"=V.str "any" from rfl)];left;refine Ao I (v:=.int ((m:Nat):Int)) rfl ?_;left;refine Fb (.inl (SqL.of es)) rfl Zob ?_;rw[if_pos rfl,Zj3];by_cases Z:m∈s
   ·rw[decide_eq_true Z];have e2:B3 (.any m) s=(.any (s.idxOf m),s):=by rw[B3,if_pos Z]
    rw[e2]at ret Y;left;refine B9 (SqL.of es) ?_;left;refine Ao I (v:=.int ((m:Nat):Int)) rfl ?_;left;have hi:=Xb Z;refine⟨d,((m:Nat):Int),s.map λn=>((n:Nat):Int),s.idxOf m,rfl,rfl,SqL.of es,?_,λj hj=>?_,by rw[Pp];exact Y,?_⟩
    ·rw[Qf,Pj hi,List.getElem_idxOf];rfl
    ·exact Zky hj
    left;refine⟨Bq,λp hp=>?_⟩;have O:=Same.upd (o:=.tup [.str "any",.int ((s.idxOf m:Nat):Int)]) hp;exact ret _ _ (.of O) (O _ _ es) (.any (SqT.of Ac))
   ·rw[decide_eq_false Z];have e2:B3 (.any m) s=(.any s.length,s++[m]):=by rw[B3,if_neg Z]
    rw[e2]at ret Y;have Y:(s++[m]).length<=1000:=Y;rw[Pr,Qg]at Y;left;refine B9 (SqL.of es) ?_;left;refine Ao I (v:=.int ((m:Nat):Int)) rfl ?_;left;refine Cy es (by rw[Pp,Pp];lia) ?_;have b1:=Bd1.set (ys:=Fh s++[.int ((m:Nat):Int)]) es;have U:upd H d (.lst (Fh s++[.int ((m:Nat):Int)])) d=some (.lst (Fh (s++[m]))):=by rw[Ac];simp
    revert b1 U;generalize upd H d (.lst (Fh s++[.int ((m:Nat):Int)]))=H1;intro b1 U;left;refine B9 (SqL.of U) ?_;left;refine Ao (b1.t.tup I) (v:=.int ((m:Nat):Int)) rfl ?_;left;refine⟨d,((m:Nat):Int),(s++[m]).map λn=>((n:Nat):Int),s.length,rfl,rfl,SqL.of U,by simp,λj hj=>?_,by simp;lia,?_⟩
    ·rw[Qf,Qh hj,Pj hj];intro z;have z:((s[j]:Nat):Int)=((m:Nat):Int):=Pz z;have U:s[j]=m:=by lia
     exact Z (by rw[<- U];exact Q4 hj)
    left;refine⟨Bq,λp hp=>?_⟩;have O:=Same.upd (o:=.tup [.str "any",.int ((s.length:Nat):Int)]) hp;exact ret _ _ (b1.trans (.of O)) (O _ _ U) (.any (SqT.of Ac))
  | @to a u1 u2 x y I h1 h2 =>
   have dp:Bz (.to x y)=max (Bz x) (Bz y)+1:=rfl;have pl:=(Zbc y (B3 x s).2).length_le;have Y:(B3 y (B3 x s).2).2.length<=1000:=Y;left;refine Ao I (v:=.str "to") rfl ?_;left;rw[nd "to" "any" (by right)];left;refine Ao I (v:=.str "to") rfl ?_;left;rw[decide_eq_true (show V.str "to"=V.str "to" from rfl)];left;refine Ao I (v:=u1) rfl ?_;left;refine⟨u1,d,x,s,rfl,h1,by lia,es,by lia,λv1 H1 b1 U k1=>?_⟩;left;refine Ao (b1.t.tup I) (v:=u2) rfl ?_;left;refine⟨u2,d,y,_,rfl,h2.same b1.t,by lia,U,Y,λv2 H2 b2 e2 k2=>?_⟩;left;refine⟨Bg,λp hp=>?_⟩;have O:=Same.upd (o:=.tup [.str "to",v1,v2]) hp;exact ret _ _ (b1.trans (b2.trans (.of O))) (O _ _ e2) (.to (SqT.of Ac) ((k1.same b2.t).same O.t) (k2.same O.t))
noncomputable def LETS:Str:="abcdefghijklmnopqrstuvwxyz_"
theorem Zuq:LETS.cps.toList.length=27:=by right
theorem Zub:LETS.length<=sizeLine:=by right
theorem Zft (u v:Str):(u++v).length=u.length+v.length:=by
 show(u.cps++v.cps).size=_;simp[Str.length]
theorem Zgs (c:Nat):(⟨#[c]⟩:Str).length=1:=rfl
def Zc9:Sp:=λvs H Q _=>∃(a b:Int),vs=[.int a,.int b]/\∀(p:Addr)(ts:List Str)(H':Hp),Same H H'->H p=none->ts.length=8->(∀t∈ts,t.length<=100)->H' p=some (.lst (ts.map V.str))->Q (.ref p) H'
theorem Zo6:(["_law_k","_law_primes","_law_cell"]:List Str).Nodup:=by right
theorem sc_law_names:Bm ["_law_cell","_law_at","_law_letters","_law_primes","_law_size","_law_base","_law_names_here","_law_k","_law_name","_law_j"] ["_law_cell","_law_at"] (Bh Kt):=by walk_at "sc"
noncomputable def PRI:List V:=[.int 1009,.int 1013,.int 1019,.int 1021,.int 1031,.int 1033,.int 1039,.int 1049]
theorem Zll (h0:0<=i)(h1:i<8):∃z:Int,B8 PRI i=some (.int z)/\0<z/\z<2000:=by
 obtain⟨v,F,m⟩:=Ge (xs:=PRI) (i:=i) h0 h1;simp only[PRI,Pm,P6,or_false]at m;rcases m with rfl|rfl|rfl|rfl|rfl|rfl|rfl|rfl <;> exact⟨_,F,by decide,by decide⟩
def NmJ (H:Hp)(a b:Int)(R D p:Addr)(ms:List Int)(j:Nat)(σ':St)(H':Hp):Prop:=eX4 λ(v7 v8 v9:Option V)(ts:List Str)=>σ'=[some (.int a),some (.int b),some (.str LETS),some (.ref R),some (.int (1+a % 8)),some (.ref D),some (.ref p),v7,v8,v9]/\H' D=some (.lst (ms.map V.int))/\H' p=some (.lst (ts.map V.str))/\ts.length=j/\(∀t∈ts,t.length<=100)/\Same H H'
theorem Zl8 (F:Fun K "_law_names" "_law_names" Kt f fd)(T:Txt K mg):A8 P w K mg base A9 1 f fd ["_law_cell","_law_at"] Zc9:=by
 refine F.okq sc_law_names (λvs H Q E h=>?_) (λar A outer s H vs Q E hr h=>?_)
 ·obtain⟨a,b,rfl,_⟩:=h;rfl
 ·obtain⟨a,b,rfl,q⟩:=h;refine⟨_,Ae (As 2 sc_law_names Aj)
   (Ae (Lp (i:=3) sc_law_names.nd rfl (Or.inr rfl) (Bc (M7 (xs:=[.int 1009,.int 1013,.int 1019,.int 1021,.int 1031,.int 1033,.int 1039,.int 1049]) rfl)))
   (Ae (As 4 sc_law_names (A4 (D7 K) Ad (A4 B7 (qv 0) Ad)))
   (Ae (Ly (i:=5) (N:=["_law_k","_law_primes","_law_cell"]) (σ0:=Dr 1 [3,0]) rfl (E7 rfl (by right) (by right) (by right)) (Gg rfl T.range (Aa (qv 4) Ab)) (E5 rfl (by rfl)) (λ_ _ _ _=>Bb (i:=0) Zo6 rfl (Or.inl rfl)) (λ_ _ _ _=>Fy) (λ_ _ _ _=>A4 B7 (A4 B7 (A4 G8 (A4 D8 (qv 2) Ad) Ad) (Ah K (qv 1) (qv 0))) Ad) sc_law_names.nd rfl (Or.inl rfl))
   (Ae (As 6 sc_law_names (Bc Ab))
   (Ae (Cw Qc rfl (Gg rfl T.range (Aa Ad Ab)) (Bb (i:=7) sc_law_names.nd rfl (Or.inl rfl)) (Ae (As 8 sc_law_names Aj)
   (Ae (Cw Qc rfl (Gg rfl T.range (Aa (qv 4) Ab)) (Bb (i:=9) sc_law_names.nd rfl (Or.inl rfl)) (Ag (As 8 sc_law_names (A4 (D7 K) (qv 8) (Ah K (qv 2) (A4 B7 (A4 (D7 K) (Ah K (qv 5) (qv 9)) (A4 G8 (qv 7) (Hk Zo9 (by rfl) T.int (by right) (Aa (Gu (Bf K hr.u200) (qv 9) (A4 B7 (qv 1) (qv 4)) (A0 _)) Ab)))) Ad))))))
   (Ae (Au (Aw (Fu K) (qv 8) (Bc (M7 (xs:=[.str "let",.str "in",.str "if",.str "then",.str "else",.str "fn",.str "rec",.str "yes",.str "no"]) rfl)) (by rfl)) (Ag (As 8 sc_law_names (A4 (D7 K) (qv 8) Aj))) Ay)
   (Ag (Cr (Cu K Qd Qs Qt C9 (qv 6) (Aa (qv 8) Ab))))))))
   (Ag (Ar (qv 6)))))))),?_⟩
  have bg:=big;have as:0<=a % 8:=Sq a (by decide);have au:a % 8<8:=Sl a (by decide);left;refine⟨sz8,λR hR=>?_⟩;have s0:Same H (upd H R (.lst [V.int 1009,V.int 1013,V.int 1019,V.int 1021,V.int 1031,V.int 1033,V.int 1039,V.int 1049])):=Same.upd hR;have e0:upd H R (.lst [V.int 1009,V.int 1013,V.int 1019,V.int 1021,V.int 1031,V.int 1033,V.int 1039,V.int 1049]) R=some (.lst PRI):=Ac;revert s0 e0;generalize upd H R (.lst [V.int 1009,V.int 1013,V.int 1019,V.int 1021,V.int 1031,V.int 1033,V.int 1039,V.int 1049])=H0;intro s0 e0;left;refine⟨by lia,by lia,λD hD=>?_⟩;have nR:R≠D:=λz=>by rw[z,hD]at e0;cases e0
  refine Kw (Pv:=λi ys I H'=>∃kv Z,I=[kv,some (.ref R),some (.int a)]/\ys=Z.map V.int/\Z.length=i/\Same H0 H') ⟨none,[],rfl,rfl,rfl,Same.upd hD⟩ ?_ ?_
  ·rintro i ys I H' hi Y ⟨kv,Z,rfl,rfl,hl,hH⟩;obtain⟨z,hz,z0,z1⟩:=Zll (i:=0+(i:Int)) (by lia) (by lia);left;refine Ba (SqL.of (hH _ _ e0)) hz ?_;left;refine s_rI z0 ?_;left;refine⟨_,Y,by rw[Pp];lia,_,Ac,?_⟩;exact⟨_,Z++[_],rfl,by rw[Qv];rfl,by simp[hl],hH.over hD⟩
  ·rintro ys I H1 Y ⟨kv,Z,rfl,rfl,hl,hH⟩;left;refine⟨Bo,λp hp=>?_⟩;have al:D≠p:=λz=>by rw[z,hp]at Y;cases Y
   have ap:H0 p=none:=hH.free hp;have ak:H p=none:=s0.free ap;have ai:upd H1 p (.lst []) D=some (.lst (Z.map V.int)):=by rw[Ai al];exact Y
   left;refine⟨by decide,by decide,?_⟩;refine L0 (n:=8) (NmJ H a b R D p Z) ⟨_,_,_,[],rfl,ai,Ac,rfl,(λt h=>nomatch h),(s0.trans hH).put hp⟩ ?_ ?_
   ·rintro j I H2 hj ⟨v7,v8,v9,ts,rfl,O,U,ae,ag,ah⟩;left;refine⟨by lia,by lia,?_⟩;refine L0 (n:=(1+a % 8).toNat) (λk I H'=>∃v9 t,I=[some (.int a),some (.int b),some (.str LETS),some (.ref R),some (.int (1+a % 8)),some (.ref D),some (.ref p),some (.int (0+j)),some (.str t),v9]/\t.length=k/\H'=H2) ⟨_,Str.empty,rfl,rfl,rfl⟩ ?_ ?_
    ·rintro k I H3 hk ⟨aj,t,rfl,an,rfl⟩;obtain⟨v,hv,m⟩:=Ge (xs:=Z.map V.int) (i:=0+(k:Int)) (by lia) (by rw[Pp];lia);obtain⟨z,_,rfl⟩:=Q7.mp m;left;refine Ba (SqL.of O) hv ?_;left;refine s_rI (by lia) ?_;left;refine s_mul_r (by split <;> decide) (by split <;> decide) ?_;left;obtain⟨c,hc,_⟩:=Ge (xs:=LETS.cps.toList) (i:=(z+(0+(j:Int))*(if decide (V.int (0+(k:Int))=V.int (b % (1+a % 8)))=true then 1 else 0)) % 27) (Sq _ (by decide)) (by rw[Zuq];exact Sl _ (by decide));refine Zlc Zub hc ?_;refine Za8 (by rw[Zgs];lia) ?_;exact⟨_,_,rfl,by rw[Zft,Zgs];lia,rfl⟩
    ·rintro I H3 ⟨aj,t,rfl,an,rfl⟩;left;refine⟨sz9,λp9 h9=>?_⟩;refine Fb (.inl (SqL.of Ac)) rfl rfl ?_;have nD:D≠p9:=λz=>by rw[z,h9]at O;cases O
     have np:p≠p9:=λz=>by rw[z,h9]at U;cases U
     have aa:∀o,upd H3 p9 o p=some (.lst (ts.map V.str)):=λo=>by rw[Ai np];exact U
     have am:∀o,upd H3 p9 o D=some (.lst (Z.map V.int)):=λo=>by rw[Ai nD];exact O
     have aq:∀o,Same H (upd H3 p9 o):=λo=>ah.put h9;have fin:∀(t':Str)(o:HO),t'.length<=100->NmJ H a b R D p Z (j+1) [some (.int a),some (.int b),some (.str LETS),some (.ref R),some (.int (1+a % 8)),some (.ref D),some (.ref p),some (.int (0+(j:Int))),some (.str t'),aj] (upd (upd H3 p9 o) p (.lst (ts.map V.str++[.str t']))):=λt' o ao =>
      ⟨_,_,_,ts++[t'],rfl,by rw[Ai al];exact am o,by rw[Ac,Qv];rfl,by simp[ae],(λx hx=>(P3.mp hx).elim (ag x) λh=>by rw[Py.mp h];exact ao),(aq o).over ak⟩
     left;refine Bk (λ_=>?_) (λ_=>?_)
     ·left;have l1:(Qw "_").length=1:=by right
      refine Za8 (by rw[l1];lia) ?_;left;refine B9 (SqL.of (aa _)) ?_;left;refine Cy (aa _) (by rw[Pp];lia) ?_;exact fin _ _ (by rw[Zft,l1];lia)
     ·left;refine B9 (SqL.of (aa _)) ?_;left;refine Cy (aa _) (by rw[Pp];lia) ?_;exact fin _ _ (by lia)
   ·rintro I H2 ⟨v7,v8,v9,ts,rfl,O,U,ae,ag,ah⟩;left;exact q p _ _ ah ak ae ag U
def Nq (K:Ph):Sp:=λvs H Q _=>∃(a:Addr)(k:Int),vs=[.ref a,.int k]/\Script K H a/\0<=k/\∀z:Int,Q (.int z) H
theorem Zqz:Bm ["_law_script","_law_k"] ["_law_script","_law_k"] (Bh Mi):=by walk_at "sc"
theorem Zjs (F:Fun K "_law_cell_at" "_law_cell_at" Mi f fd)(T:Txt K mg):A8 P w K mg base A9 1 f fd ["_law_script","_law_k"] (Nq K):=by
 refine F.okq Zqz (λvs H Q E h=>?_) (λO A outer s H vs Q E Z h=>?_)
 ·obtain⟨a,k,rfl,_⟩:=h;rfl
 ·obtain⟨a,k,rfl,S,Y,q⟩:=h;obtain⟨ns,I,hl⟩:=S.ex;refine⟨_,Ae (Au (Aw Kk (qv 1) (B6 (Dc K) (by rfl) T.len (by right) (Aa (qv 0) Ab)) (A0 _)) (Ag (Ar (Ah K (qv 0) (qv 1)))) Ay)
   (Ag (Ar Ad)),?_⟩
  left;refine D0 I ?_;left;refine Bk (λh=>?_) (λh=>?_)
  ·have h1:k<(ns.map V.int).length:=by simpa using h
   obtain⟨v,U,m⟩:=Ge Y h1;obtain⟨z,_,rfl⟩:=Q7.mp m;left;exact Ba I U (q z)
  ·left;exact q _
inductive Znm (K:Ph)(n:Nat)(vs:List V)(H:Hp)(Q:VK)(e9:XK):Prop
 |mk (x y:V) (d:Dt) (m:Nat) (_:vs=[x,y]) (_:m<n) (_:IsD K H m x d) (_:IsD K H m y d) (_:Fe d) (_:∀H',Same H H'->Q (.bl true) H')
def Ii (K:Ph)(n:Nat):Sp:=Znm K n
theorem sc_law_same:Bm ["_law_found","_law_due","_law_k"] ["_law_found","_law_due"] (Bh Ir):=by walk_at "sc"
theorem Zko (F:Fun K "_law_same" "_law_same" Ir f fd)(T:Txt K mg)(C__law_same:A7 P w K mg base (n+1) "_law_same" ["_law_found","_law_due"] (Ii K n)):A8 P w K mg base A9 (n+2) f fd ["_law_found","_law_due"] (Ii K (n+1)):=by
 refine F.okq sc_law_same (λvs H Q E h=>?_) (λaa A outer s H vs Q E hr h=>?_)
 ·obtain⟨x,y,d,m,rfl,_⟩:=h;rfl
 ·obtain⟨x,y,d,m,rfl,hm,hx,hy,hd,q⟩:=h;refine⟨_,Ae (Au (Ex (B6 (Ey K "bool") (by rfl) T.isinstance (by right) (Aa (qv 1) (Aa (Ep (v:=.ty "bool") (by rfl) T.bool (by right) rfl) Ab)))) (Ag (Ar (G0 (B6 (Ey K "bool") (by rfl) T.isinstance (by right) (Aa (qv 0) (Aa (Ep (v:=.ty "bool") (by rfl) T.bool (by right) rfl) Ab))) (Gp (Gu (Bf K hr.u200) (qv 0) (qv 1) (A0 _)))))) Ay)
   (Ae (Au (Ex (B6 (Ey K "int") (by rfl) T.isinstance (by right) (Aa (qv 1) (Aa (Ep (v:=.ty "int") (by rfl) T.int (by right) rfl) Ab)))) (Ag (Ar (G0 (B6 (Ey K "int") (by rfl) T.isinstance (by right) (Aa (qv 0) (Aa (Ep (v:=.ty "int") (by rfl) T.int (by right) rfl) Ab))) (G0 (Zdl (B6 (Ey K "bool") (by rfl) T.isinstance (by right) (Aa (qv 0) (Aa (Ep (v:=.ty "bool") (by rfl) T.bool (by right) rfl) Ab)))) (Gp (Gu (Bf K hr.u200) (qv 0) (qv 1) (A0 _))))))) Ay)
   (Ae (Au (Ex (B6 (Ey K "str") (by rfl) T.isinstance (by right) (Aa (qv 1) (Aa (Ep (v:=.ty "str") (by rfl) T.str (by right) rfl) Ab)))) (Ag (Ar (G0 (B6 (Ey K "str") (by rfl) T.isinstance (by right) (Aa (qv 0) (Aa (Ep (v:=.ty "str") (by rfl) T.str (by right) rfl) Ab))) (Gp (Gu (Bf K hr.u200) (qv 0) (qv 1) (A0 _)))))) Ay)
   (Ae (Au (E6 (Kj (qv 1))) (Ag (Ar (Zea (Kj (qv 0))))) Ay)
   (Ae (Au (Ex (B6 (Ey K "tuple") (by rfl) T.isinstance (by right) (Aa (qv 1) (Aa (Ep (v:=.ty "tuple") (by rfl) T.tuple (by right) rfl) Ab)))) (Ag (Au (Hw (Ex (B6 (Ey K "tuple") (by rfl) T.isinstance (by right) (Aa (qv 0) (Aa (Ep (v:=.ty "tuple") (by rfl) T.tuple (by right) rfl) Ab))))) (Ag (Ar Dz)) Ay)) (Ag (Au (Hw (Ex (B6 (Ey K "list") (by rfl) T.isinstance (by right) (Aa (qv 0) (Aa (Ep (v:=.ty "list") (by rfl) T.list (by right) rfl) Ab))))) (Ag (Ar Dz)) Ay)))
   (Ae (Au (Aw (Mu K hr.u200) (B6 (Dc K) (by rfl) T.len (by right) (Aa (qv 0) Ab)) (B6 (Dc K) (by rfl) T.len (by right) (Aa (qv 1) Ab)) (A0 _)) (Ag (Ar Dz)) Ay)
   (Ae (Cw Qc rfl (Gg rfl T.range (Aa (B6 (Dc K) (by rfl) T.len (by right) (Aa (qv 1) Ab)) Ab)) (Bb (i:=2) sc_law_same.nd rfl (Or.inl rfl)) (Ag (Au (Hw (Ex (A5 C__law_same (hr.mono (by lia)) (Aa (Ah K (qv 0) (qv 2)) (Aa (Ah K (qv 1) (qv 2)) Ab))))) (Ag (Ar Dz)) Ay)))
   (Ag (Ar Dz)))))))),?_⟩
  have bg:=big;cases hx with
  |flat hv =>
   cases hy with
   |flat _ =>
   cases x with
   |non =>
    left;refine Dw (b:=false) .non rfl ?_;left;refine Dw (b:=false) .non rfl ?_;left;refine Dw (b:=false) .non rfl ?_;left;rw[decide_eq_true (Eq.refl _)];left;exact q H (Same.refl _)
   |bl b =>
    left;refine Dw (b:=true) (.bl b) rfl ?_;left;refine Dw (b:=true) (.bl b) rfl ?_;left;rw[decide_eq_true (Eq.refl _)];left;exact q H (Same.refl _)
   |int b =>
    left;refine Dw (b:=false) (.int b) rfl ?_;left;refine Dw (b:=true) (.int b) rfl ?_;left;refine Dw (b:=true) (.int b) rfl ?_;left;refine Dw (b:=false) (.int b) rfl ?_;left;rw[decide_eq_true (Eq.refl _)];left;exact q H (Same.refl _)
   |str b =>
    left;refine Dw (b:=false) (.str b) rfl ?_;left;refine Dw (b:=false) (.str b) rfl ?_;left;refine Dw (b:=true) (.str b) rfl ?_;left;refine Dw (b:=true) (.str b) rfl ?_;left;rw[decide_eq_true (Eq.refl _)];left;exact q H (Same.refl _)
   |_=>exact absurd hv (by simp[C5])
  | @tup k a vs ds qa la ha =>
   cases hy with
   | @tup _ c ws _ O lc hc =>
   cases hd with
   |tup hl Z =>
   have eN:decide (V.ref c=V.non)=false:=decide_eq_false (λz=>by cases z);left;refine K5 (b:=false) O rfl ?_;left;refine K5 (b:=false) O rfl ?_;left;refine K5 (b:=false) O rfl ?_;left;rw[eN];left;refine K5 (b:=true) O rfl ?_;left;refine K5 (b:=true) qa rfl ?_;left;refine Iy qa ?_;left;refine Iy O ?_;left;rw[la,lc,decide_eq_true (Eq.refl _)];left;refine Iy O ?_;left;rw[lc];refine⟨by lia,by lia,?_⟩;refine L0 (n:=(ds.length:Int).toNat) (λi I H'=>∃v2,I=[some (.ref a),some (.ref c),v2]/\Same H H') ⟨none,rfl,Same.refl _⟩ ?_ ?_
   ·rintro i I H' hi ⟨v2,rfl,sm⟩;have hi:i<ds.length:=by lia
    have e0:(0:Int)+(i:Int)=((i:Nat):Int):=by lia
    rw[e0];have U:i<vs.length:=by lia
    have Y:i<ws.length:=by lia
    left;refine Ao (sm.tup qa) (C2 (Pj U)) ?_;left;refine Ao (sm.tup O) (C2 (Pj Y)) ?_;left;refine⟨vs[i],ws[i],ds[i],k,rfl,by lia,(ha i _ _ (Pj U) (Pj hi)).same sm,(hc i _ _ (Pj Y) (Pj hi)).same sm,Z _ (Q4 hi),λH2 s2=>?_⟩;left;exact⟨_,rfl,sm.trans s2⟩
   ·rintro I H' ⟨v2,rfl,sm⟩;left;exact q H' sm
  | @lst k a vs ds qa la ha =>
   cases hy with
   | @lst _ c ws _ O lc hc =>
   cases hd with
   |lst hl Z =>
   have eN:decide (V.ref c=V.non)=false:=decide_eq_false (λz=>by cases z);left;refine Le (b:=false) O rfl ?_;left;refine Le (b:=false) O rfl ?_;left;refine Le (b:=false) O rfl ?_;left;rw[eN];left;refine Le (b:=false) O rfl ?_;left;refine Le (b:=true) qa rfl ?_;left;refine D0 qa ?_;left;refine D0 O ?_;left;rw[la,lc,decide_eq_true (Eq.refl _)];left;refine D0 O ?_;left;rw[lc];refine⟨by lia,by lia,?_⟩;refine L0 (n:=(ds.length:Int).toNat) (λi I H'=>∃v2,I=[some (.ref a),some (.ref c),v2]/\Same H H') ⟨none,rfl,Same.refl _⟩ ?_ ?_
   ·rintro i I H' hi ⟨v2,rfl,sm⟩;have hi:i<ds.length:=by lia
    have e0:(0:Int)+(i:Int)=((i:Nat):Int):=by lia
    rw[e0];have U:i<vs.length:=by lia
    have Y:i<ws.length:=by lia
    left;refine Ba (sm.seq qa) (C2 (Pj U)) ?_;left;refine Ba (sm.seq O) (C2 (Pj Y)) ?_;left;refine⟨vs[i],ws[i],ds[i],k,rfl,by lia,(ha i _ _ (Pj U) (Pj hi)).same sm,(hc i _ _ (Pj Y) (Pj hi)).same sm,Z _ (Q4 hi),λH2 s2=>?_⟩;left;exact⟨_,rfl,sm.trans s2⟩
   ·rintro I H' ⟨v2,rfl,sm⟩;left;exact q H' sm
structure GT (t:Tr):Prop where
 a:AT t
 s:Fw t
 w:WT t
theorem Hn {w:Str}{n:Dt}{ts:List Tr}(hw:C0 w n)(hd:w∈Ec)(hl:ts.length=Df w)(h:∀t∈ts,GT t):GT (.mk w n ts):=⟨.mk hw hl λt F=>(h t F).a,.mk hw λt F=>(h t F).s,.mk hd λt F=>(h t F).w⟩
theorem Kg (w:Str)(n:Dt):(Tr.mk w n []).size=1:=by rw[Tr.size,Ax]
theorem Gv {w:Str}{nv:V}(h:w="gap"\/w="odd"\/w="num"\/w="truth"):GT (.mk w (.flat nv) []):=by
 rcases h with rfl|rfl|rfl|rfl <;> exact Hn (Gw (by right) (by right) (by right) (by right)) (by right) (by right) λt h=>nomatch h
theorem Og:GT (.mk "name" (.flat (.str nm)) []):=Hn ⟨λ_=>⟨nm,rfl⟩,λh=>absurd h (by right)⟩ (by right) (by right) λt h=>nomatch h
theorem Zte (hx:x.length=1)(h0:0<=n)(h1:n<=60):MulOk x n:=by
 obtain⟨k,rfl⟩:∃k:Nat,n=(k:Int):=⟨n.toNat,by lia⟩;unfold MulOk;rw[hx];have F:k<61:=by lia
 clear h0 h1;have all:∀k:Nat,k<61->(decide ((k:Int) < -(2 ^ 63:Int)) || decide ((k:Int) ≥ 2 ^ 63))=false/\(¬(k:Int)<1->((k:Int) == 1 || (1:Nat) == 0)=false->¬(((1:Nat):Int) > (2 ^ 63-1) / (k:Int)))/\(¬(k:Int)<1->((k:Int) == 1 || (1:Nat) == 0)=false->Builtin.Str.tooLong (1*(k:Int).toNat)=false):=by right
 exact all k F
theorem Zo0 (x y:Str)(z:Int):∃s:Str,B8 [V.str "then",.str "=",.str "007",.str "x+1",.str "in",.str "=>",.str x,.str y] (z % 8)=some (.str s):=by
 obtain⟨v,F,m⟩:=Ge (xs:=[V.str "then",.str "=",.str "007",.str "x+1",.str "in",.str "=>",.str x,.str y]) (i:=z % 8) (Sq _ (by decide)) (Sl _ (by decide));simp only[Pm,P6,or_false]at m;rcases m with rfl|rfl|rfl|rfl|rfl|rfl|rfl|rfl <;> exact⟨_,F⟩
def Zag (K:Ph):Sp:=λvs H Q _=>∃(c:Int)(nm:Str),vs=[.int c,.str nm]/\nm.length<=100/\∀(v:V)(t:Tr)(H':Hp),Same H H'->TrAt K H' v t->GT t->t.size=1->Q v H'
theorem Zdz:Bm ["_law_cell","_law_name","_law_long"] ["_law_cell","_law_name"] (Bh Mc):=by walk_at "sc"
theorem Zt7 (F:Fun K "_law_leaf" "_law_leaf" Mc f fd)(T:Txt K mg):A8 P w K mg base A9 1 f fd ["_law_cell","_law_name"] (Zag K):=by
 refine F.okq Zdz (λvs H Q E h=>?_) (λag A outer s H vs Q E Z h=>?_)
 ·obtain⟨c,nm,rfl,_⟩:=h;rfl
 ·obtain⟨c,nm,rfl,ah,q⟩:=h;refine⟨_,Ae (Au (Aw (Bf K Z.u200) (A4 B7 (qv 0) Ad) Ad (A0 _)) (Ag (Ar (Ak (Aa Aj (Aa C8 (Aa (Ak Ab) Ab)))))) Ay)
   (Ae (Au (Aw (Bf K Z.u200) (A4 B7 (qv 0) Ad) Ad (A0 _)) (Ae (As 2 Zdz (A4 Zq9 Aj (A4 (D7 K) Ad (A4 B7 (A4 D8 (qv 0) Ad) Ad))))
   (Ag (Ar (Ak (Aa Aj (Aa (Ah K (Bc (Aa Aj (Aa Aj (Aa Aj (Aa Aj (Aa Aj (Aa Aj (Aa (A4 (D7 K) Aj (qv 1)) (Aa (qv 2) Ab))))))))) (A4 B7 (A4 D8 (qv 0) Ad) Ad)) (Aa (Ak Ab) Ab))))))) Ay)
   (Ae (Au (Aw (Bf K Z.u200) (A4 B7 (qv 0) Ad) Ad (A0 _)) (Ag (Ar (Ak (Aa Aj (Aa (A4 B7 (A4 D8 (qv 0) Ad) (A4 Zjg Ad Ad)) (Aa (Ak Ab) Ab)))))) Ay)
   (Ae (Au (Aw (Bf K Z.u200) (A4 B7 (qv 0) Ad) Ad (A0 _)) (Ag (Ar (Ak (Aa Aj (Aa (Gu (Bf K Z.u200) (A4 B7 (A4 D8 (qv 0) Ad) Ad) Ad (A0 _)) (Aa (Ak Ab) Ab)))))) Ay)
   (Ag (Ar (Ak (Aa Aj (Aa (qv 1) (Aa (Ak Ab) Ab))))))))),?_⟩
  have bg:=big;have O:∀(w:Str)(Y:V)(H1:Hp),Same H H1->C5 Y=true->GT (.mk w (.flat Y) [])->∀p,H1 p=none->∀p2,upd H1 p (.tup []) p2=none->Q (.ref p2) (upd (upd H1 p (.tup [])) p2 (.tup [.str w,Y,.ref p])):=by
   intro w Y H1 s1 hf hs p U p2 I;have s2:=Same.upd (o:=.tup [.str w,Y,.ref p]) I;exact q _ (.mk w (.flat Y) []) _ ((s1.trans (Same.upd U)).trans s2) (.mk (SqT.of Ac) (.inl ⟨hf,rfl⟩) (SqT.of (s2 _ _ Ac)) rfl λj v t e _=>by simp at e) hs (Kg _ _)
  left;refine Bk (λ_=>?_) (λ_=>?_)
  ·left;refine⟨Bo,λp U=>?_⟩;left;refine⟨Bg,λp2 I=>?_⟩;exact O "gap" .non H (Same.refl _) rfl (Gv (.inl rfl)) p U p2 I
  left;refine Bk (λ_=>?_) (λ_=>?_)
  ·left;have l1:(Qw "A").length=1:=by right
   refine⟨_,_,rfl,rfl,Zte l1 (by lia) (by lia),?_⟩;left;refine Za8 (by rw[l1];lia) ?_;left;refine⟨sz8,λp0 ae=>?_⟩;left;obtain⟨s0,aa⟩:=Zo0 (Qw "A" ++ nm) (PySem.Txt.mul (Qw "A") (1+c / 56 % 60)) (c / 7);refine Ba (SqL.of Ac) aa ?_;left;refine⟨Bo,λp U=>?_⟩;left;refine⟨Bg,λp2 I=>?_⟩;exact O "odd" (.str s0) _ (Same.upd ae) rfl (Gv (.inr (.inl rfl))) p U p2 I
  left;refine Bk (λ_=>?_) (λ_=>?_)
  ·left;refine⟨Bo,λp U=>?_⟩;left;refine⟨Bg,λp2 I=>?_⟩;exact O "num" _ H (Same.refl _) rfl (Gv (.inr (.inr (.inl rfl)))) p U p2 I
  left;refine Bk (λ_=>?_) (λ_=>?_)
  ·left;refine⟨Bo,λp U=>?_⟩;left;refine⟨Bg,λp2 I=>?_⟩;exact O "truth" _ H (Same.refl _) rfl (Gv (.inr (.inr (.inr rfl)))) p U p2 I
  left;refine⟨Bo,λp U=>?_⟩;left;refine⟨Bg,λp2 I=>?_⟩;exact O "name" (.str nm) H (Same.refl _) rfl Og p U p2 I
noncomputable def Ga (n:Nat):Nat:=max 1 (3*n-2)
noncomputable def Ie (mss:List (List Int)):Nat:=(mss.map λm=>Ga m.length).sum
theorem Ztc (mss:List (List Int))(ms:List Int):Ie (mss++[ms])=Ie mss+Ga ms.length:=by simp[Ie]
theorem Zlh (h:mss.length=1\/mss.length=2\/mss.length=3)(hn:1<=n)(ht:tot mss=n):Ie mss<=3*n:=by
 unfold tot at ht;unfold Ie Ga
 match mss,h with
 |[a],_ =>
  simp at ht ⊢;lia
 |[a,b],_ =>
  simp at ht ⊢;lia
 |[a,b,c],_ =>
  simp at ht ⊢;lia
theorem Zly (h:ms∈mss):ms.length<=tot mss:=by
 induction mss with
 |nil=>cases h
 |cons x r F =>
  have e:tot (x::r)=x.length+tot r:=by simp[tot]
  rcases Pm.mp h with rfl|h
  ·lia
  ·have:=F h;lia
theorem Zgt (n:Nat):1<=Ga n:=by unfold Ga;lia
noncomputable def W8:List Str:=["plus","minus","less","call","if","fn","rec","let"]
theorem Znq (z:Int):∃w:Str,B8 [V.str "plus",.str "minus",.str "less",.str "call",.str "call",.str "if",.str "fn",.str "fn",.str "rec",.str "let",.str "let",.str "if",.str "call"] (z % 13)=some (.str w)/\w∈W8:=by
 obtain⟨v,F,m⟩:=Ge (xs:=[V.str "plus",.str "minus",.str "less",.str "call",.str "call",.str "if",.str "fn",.str "fn",.str "rec",.str "let",.str "let",.str "if",.str "call"]) (i:=z % 13) (Sq _ (by decide)) (Sl _ (by decide));simp only[Pm,P6,or_false]at m;rcases m with rfl|rfl|rfl|rfl|rfl|rfl|rfl|rfl|rfl|rfl|rfl|rfl|rfl <;> exact⟨_,F,by right⟩
theorem Zo1 {w:Str}(h:w∈W8):(Df w=1\/Df w=2\/Df w=3)/\w∈Ec/\Df w=if w="if" then 3 else if w="fn"\/w="rec" then 1 else 2:=by
 simp only[W8,Pm,P6,or_false]at h;rcases h with rfl|rfl|rfl|rfl|rfl|rfl|rfl|rfl <;> exact⟨by right,by right,by right⟩
structure Nms (K:Ph)(H:Hp)(a:Addr)(ts:List Str):Prop where
 e:H a=some (.lst (ts.map V.str))
 n:1<=ts.length
 b:∀t∈ts,t.length<=100
 l:ts.length<=10
theorem Nms.same (h:Nms K H a ts)(s:Same H H'):Nms K H' a ts:=⟨s _ _ h.e,h.n,h.b,h.l⟩
theorem Nms.at (h:Nms K H a ts)(z:Int):∃t:Str,B8 (ts.map V.str) (z % ((ts.map V.str).length:Nat))=some (.str t)/\t.length<=100:=by
 have l:(ts.map V.str).length=ts.length:=Pp ..;have n:=h.n;obtain⟨v,I,m⟩:=Ge (xs:=ts.map V.str) (i:=z % ((ts.map V.str).length:Nat)) (Sq _ (by lia)) (Sl _ (by lia));obtain⟨t,F,rfl⟩:=Q7.mp m;exact⟨t,I,h.b t F⟩
inductive Ztr (K:Ph)(n:Nat)(vs:List V)(H:Hp)(Q:VK)(e9:XK):Prop
 |mk (a b:Addr) (ns:List Int) (ts:List Str) (_:vs=[.ref a,.ref b]) (_:H a=some (.lst (ns.map V.int))) (_:Nms K H b ts) (_:ns.length<n) (_:ns.length<=63) (_:∀(v:V)(t:Tr)(H':Hp),Same H H'->TrAt K H' v t->GT t->t.size<=Ga ns.length->Q v H')
def Hg (K:Ph)(n:Nat):Sp:=Ztr K n
theorem Zlu:(["_law_share","_law_names_here"]:List Str).Nodup:=by right
theorem Em:Bm ["_law_cells","_law_names_here","_law_cell","_law_rest","_law_name","_law_sorts","_law_word","_law_many","_law_note"] ["_law_cells","_law_names_here"] (Bh Ju):=by walk_at "sc"
theorem Zul (F:Fun K "_law_tree" "_law_tree" Ju f fd)(T:Txt K mg)(C__law_shares:A7 P w K mg base 1 "_law_shares" ["_law_rest","_law_many","_law_turn"] (Zbl K))(C__law_leaf:A7 P w K mg base 1 "_law_leaf" ["_law_cell","_law_name"] (Zag K))(C__law_tree:A7 P w K mg base (n+2) "_law_tree" ["_law_cells","_law_names_here"] (Hg K n)):A8 P w K mg base A9 (n+3) f fd ["_law_cells","_law_names_here"] (Hg K (n+1)):=by
 refine F.okq Em (λvs H Q E h=>?_) (λbc A outer s H vs Q E hr h=>?_)
 ·obtain⟨a,b,ns,ts,rfl,_⟩:=h;rfl
 ·obtain⟨a,b,ns,nt,rfl,ha,hN,hn,a9,q⟩:=h;refine⟨_,Ae (Au (Aw (Bf K hr.u200) (B6 (Dc K) (by rfl) T.len (by right) (Aa (qv 0) Ab)) Ad (A0 _)) (Ag (Ar (Ak (Aa Aj (Aa C8 (Aa (Ak Ab) Ab)))))) Ay)
   (Ae (As 2 Em (Ah K (qv 0) Ad))
   (Ae (As 3 Em (Er (Fm K) (qv 0) (Dm Ad) (Go)))
   (Ae (As 4 Em (Ah K (qv 1) (A4 B7 (A4 D8 (qv 2) Ad) (B6 (Dc K) (by rfl) T.len (by right) (Aa (qv 1) Ab)))))
   (Ae (Au (Aw (Bf K hr.u200) (B6 (Dc K) (by rfl) T.len (by right) (Aa (qv 3) Ab)) Ad (A0 _)) (Ag (Ar (A5 C__law_leaf (hr.mono (by lia)) (Aa (qv 2) (Aa (qv 4) Ab))))) Ay)
   (Ae (As 5 Em (Bc (M7 (xs:=[.str "plus",.str "minus",.str "less",.str "call",.str "call",.str "if",.str "fn",.str "fn",.str "rec",.str "let",.str "let",.str "if",.str "call"]) rfl)))
   (Ae (As 6 Em (Ah K (qv 5) (A4 B7 (qv 2) Ad)))
   (Ae (As 7 Em Ad)
   (Ae (As 8 Em C8)
   (Ae (Au (Aw (Fu K) (qv 6) (Ak (Aa Aj (Aa Aj Ab))) (by rfl)) (Ag (As 8 Em (qv 4))) Ay)
   (Ae (Au (Aw (Bf K hr.u200) (qv 6) Aj (A0 _)) (Ag (As 8 Em (Ak (Aa (qv 4) (Aa (Ah K (qv 1) (A4 B7 (A4 D8 (qv 2) Ad) (B6 (Dc K) (by rfl) T.len (by right) (Aa (qv 1) Ab)))) Ab))))) Ay)
   (Ae (Au (Aw (Fu K) (qv 6) (Ak (Aa Aj (Aa Aj Ab))) (by rfl)) (Ag (As 7 Em Ad)) Ay)
   (Ae (Au (Aw (Bf K hr.u200) (qv 6) Aj (A0 _)) (Ag (As 7 Em Ad)) Ay)
   (Ag (Ar (Ak (Aa (qv 6) (Aa (qv 8) (Aa (Hk (Zgl K) (by rfl) T.tuple (by right) (Aa (Jx (N:=["_law_share","_law_names_here"]) (σ0:=Dr 1 [1]) rfl (E7 rfl (by right) (by right) (by right)) (D6 K (A5 C__law_shares (hr.mono (by lia)) (Aa (qv 3) (Aa (qv 7) (Aa (A4 D8 (qv 2) Ad) Ab))))) (E5 rfl (by rfl)) (λ_ _ _ _=>Bb (i:=0) Zlu rfl (Or.inl rfl)) (λ_ _ _ _=>Fy) (λ_ _ _ _=>A5 C__law_tree (hr.mono (by lia)) (Aa (qv 0) (Aa (qv 1) Ab)))) Ab)) Ab)))))))))))))))))),?_⟩
  have bg:=big;left;refine D0 (SqL.of ha) ?_;left;refine Bk (λc=>?_) (λc=>?_)
  ·left;refine⟨Bo,λp hp=>?_⟩;left;refine⟨Bg,λp2 aj=>?_⟩;have s2:=Same.upd (o:=.tup [.str "gap",.non,.ref p]) aj;exact q _ (.mk "gap" (.flat .non) []) _ ((Same.upd hp).trans s2) (.mk (SqT.of Ac) (.inl ⟨rfl,rfl⟩) (SqT.of (s2 _ _ Ac)) rfl λj v t e _=>by simp at e) (Gv (.inl rfl)) (by rw[Kg];exact Zgt _)
  have ba:(ns.map V.int).length=ns.length:=Pp ..;have h0:ns.length≠0:=λe=>c (by rw[ba,e];rfl);obtain⟨z,zs,rfl⟩:=List.exists_cons_of_ne_nil (show ns≠[] from λe=>h0 (by rw[e];rfl));left;have ez:B8 ((z::zs).map V.int) ((0:Nat):Int)=some (V.int z):=C2 rfl;refine Ba (SqL.of ha) ez ?_;left;refine Jq (SqL.of ha) λpc a8=>?_;have ec:Cb ((z::zs).map V.int) (some 1) none=zs.map V.int:=by
   unfold Cb;have e1:HT.sIx ((z::zs).map V.int).length 0 (some 1)=1:=by rw[show(1:Int)=((1:Nat):Int) from rfl,HT.sIx_nat,Pp,Pw];lia
   rw[e1,HT.sIx_none];simp;exact Rp (by simp)
  rw[ec];obtain⟨H1,s1,e1,z9⟩:=Hv a8 (.lst (zs.map V.int));rw[z9];have ag:=hN.same s1;rw[Pw]at hn a9;left;refine D0 (SqL.of ag.e) ?_;left;have ao:(0:Int)<((nt.map V.str).length:Nat):=by rw[Pp];have:=hN.n;lia
  refine s_rI ao ?_;obtain⟨nm,ax,a6⟩:=hN.at (z / 13);refine Ba (SqL.of ag.e) ax ?_;left;refine D0 (SqL.of e1) ?_;left;refine Bk (λc2=>?_) (λc2=>?_)
  ·left;refine⟨z,nm,rfl,a6,λv t H2 s2 ht hg hz=>?_⟩;exact q v t H2 (s1.trans s2) ht hg (by rw[hz];exact Zgt _)
  have h1:1<=zs.length:=by
   have:¬zs.length=0:=λe=>c2 (by rw[Pp,e];rfl);lia
  left;refine⟨sz13,λpw a5=>?_⟩;left;obtain⟨wd,ew,hw⟩:=Znq z;refine Ba (SqL.of Ac) ew ?_;have s2:=Same.upd (o:=.lst [V.str "plus",.str "minus",.str "less",.str "call",.str "call",.str "if",.str "fn",.str "fn",.str "rec",.str "let",.str "let",.str "if",.str "call"]) a5;revert s2;generalize upd H1 pw (.lst [V.str "plus",.str "minus",.str "less",.str "call",.str "call",.str "if",.str "fn",.str "fn",.str "rec",.str "let",.str "let",.str "if",.str "call"])=H2;intro s2;walk_at "q";refine Ds (t:=Dh _ _ _) (R:=λI H'=>Same H2 H'/\I=[some (.ref a),some (.ref b),some (.int z),some (.ref pc),some (.str nm),some (.ref pw),some (.str wd),some (.int 2),some (if wd="fn"\/wd="let" then .str nm else .non)]) ?_ ?_
  ·intro Y hY;left;refine⟨Bq,λp3 Z=>?_⟩;left;refine Fb (.inr (SqT.of Ac)) rfl rfl ?_;rw[if_neg (by decide),Jg];left;refine Bk (λU=>?_) (λU=>?_)
   ·left;refine hY _ _ ⟨Same.upd Z,?_⟩;rw[if_pos (of_decide_eq_true U)];rfl
   ·left;refine hY _ _ ⟨Same.upd Z,?_⟩;rw[if_neg (λe=>U (decide_eq_true e))];rfl
  rintro _ H3 ⟨s3,rfl⟩;walk_at "q";refine Ds (t:=Dh _ _ _) (R:=λI H'=>Same H3 H'/\∃nv n,I=[some (.ref a),some (.ref b),some (.int z),some (.ref pc),some (.str nm),some (.ref pw),some (.str wd),some (.int 2),some nv]/\IsN K H' nv n/\C0 wd n) ?_ ?_
  ·intro Y hY;left;refine Bk (λU=>?_) (λU=>?_)
   ·have O:wd="rec":=by simpa using U
    left;refine D0 (SqL.of (ag.same (s2.trans s3)).e) ?_;left;refine s_rI ao ?_;obtain⟨ap,an,_⟩:=hN.at (z / 52);refine Ba (SqL.of (ag.same (s2.trans s3)).e) an ?_;left;refine⟨Bq,λp3 Z=>?_⟩;left;exact hY _ _ ⟨Same.upd Z,_,.tup [.flat (.str nm),.flat (.str ap)],rfl,.inr ⟨p3,_,rfl,SqT.of Ac,rfl,rfl⟩,⟨λh=>by rw[O]at h;exact absurd h (by right),λ_=>⟨nm,ap,rfl⟩⟩⟩
   ·have O:wd≠"rec":=λe=>U (by simp[e]);left;by_cases hf:wd="fn"\/wd="let"
    ·exact hY _ _ ⟨Same.refl _,_,.flat (.str nm),rfl,by rw[if_pos hf];exact .inl ⟨rfl,rfl⟩,⟨λ_=>⟨nm,rfl⟩,λh=>absurd h O⟩⟩
    ·refine hY _ _ ⟨Same.refl _,_,.flat .non,rfl,by rw[if_neg hf];exact .inl ⟨rfl,rfl⟩,⟨λh=>?_,λh=>absurd h O⟩⟩;rcases h with h|h|h
     ·exact absurd (.inl h) hf
     ·exact absurd (.inr h) hf
     ·rw[h]at hw;exact absurd hw (by right)
  rintro _ H4 ⟨s4,nv,nd,rfl,a7,aq⟩;walk_at "q";refine Ds (t:=Dh _ _ _) (R:=λI H'=>Same H4 H'/\I=[some (.ref a),some (.ref b),some (.int z),some (.ref pc),some (.str nm),some (.ref pw),some (.str wd),some (.int (if wd="fn"\/wd="rec" then 1 else 2)),some nv]) ?_ ?_
  ·intro Y hY;left;refine⟨Bq,λp3 Z=>?_⟩;left;refine Fb (.inr (SqT.of Ac)) rfl rfl ?_;rw[if_neg (by decide),Jg];left;refine Bk (λU=>?_) (λU=>?_)
   ·left;refine hY _ _ ⟨Same.upd Z,?_⟩;rw[if_pos (of_decide_eq_true U)];rfl
   ·left;refine hY _ _ ⟨Same.upd Z,?_⟩;rw[if_neg (λe=>U (decide_eq_true e))]
  rintro _ H5 ⟨s5,rfl⟩;obtain⟨au,ay,as⟩:=Zo1 hw;walk_at "q";refine Ds (t:=Dh _ _ _) (R:=λI H'=>H'=H5/\I=[some (.ref a),some (.ref b),some (.int z),some (.ref pc),some (.str nm),some (.ref pw),some (.str wd),some (.int (Df wd:Nat)),some nv]) ?_ ?_
  ·intro Y hY;left;refine Bk (λU=>?_) (λU=>?_)
   ·have O:wd="if":=by simpa using U
    left;refine hY _ _ ⟨rfl,?_⟩;rw[as,if_pos O];rfl
   ·have O:wd≠"if":=λe=>U (by simp[e]);left;refine hY _ _ ⟨rfl,?_⟩;rw[as,if_neg O];split <;> rfl
  rintro _ _ ⟨rfl,rfl⟩;have sB:=((s1.trans s2).trans ((s3.trans s4).trans s5));have e5:=(s2.trans ((s3.trans s4).trans s5)) _ _ e1;have av:=a7.same s5.t;have a3:=hN.same sB;left;refine⟨pc,zs,Df wd,_,rfl,e5,by lia,au,λL us ak H6 s6 eL al lm tm=>?_⟩;have a4:=a3.same s6;refine .inl ⟨L,rfl,⟨_,SqL.of eL⟩,λD hD=>?_⟩;have nD:L≠D:=A6 eL hD;refine Kq (K:=K) (a:=L) (xs:=us) (Pv:=λi ys I H'=>∃v0 ts,I=[v0,some (.ref b)]/\Al (TrAt K H') ys ts/\ts.length=i/\(∀t∈ts,GT t)/\Ax ts<=Ie (ak.take i)/\Same H6 H') ⟨none,[],rfl,.nil,rfl,(λt h=>nomatch h),by rw[Ax];exact P8 _,Same.upd hD⟩ ?_ ?_ ?_
  ·rintro i ys I H' _ ⟨_,_,_,_,_,_,_,sm⟩;exact SqL.of (sm _ _ eL)
  ·rintro i x ys I H' hx aa ⟨v0,ts,rfl,ae,ht,ai,ar,sm⟩;obtain⟨ms,am,p,rfl,ep⟩:=al.get hx;have hi:=(Pq.mp am).1;have bb:ms.length<=tot ak:=Zly (Qu am);left;refine⟨p,b,ms,nt,rfl,sm _ _ ep,a4.same sm,by lia,by lia,λv t H7 s7 tv pt sz=>?_⟩;have t6:SameT H' (upd H7 D (.lst (ys++[v]))):=s7.t.trans (SameT.set (s7 _ _ aa));refine⟨ys,s7 _ _ aa,by rw[ae.1,ht];lia,_,Ac,_,ts++[t],rfl,(ae.mono λ_ _ a=>a.sameT t6).snoc (tv.sameT (SameT.set (s7 _ _ aa))),by simp[ht],?_,?_,(sm.trans s7).over hD⟩
   ·intro x hx;rcases P3.mp hx with hx|hx
    ·exact ai x hx
    ·rw[Py.mp hx];exact pt
   ·rw[Zrl,Ax,Ax,Qq,am];show _<=Ie (ak.take i++[ms]);rw[Ztc];lia
  ·rintro ys I H' aa ⟨v0,ts,rfl,ae,ht,ai,ar,sm⟩;rw[al.1,Q9]at ar;have hb:=Zlh (n:=zs.length) (by rw[lm];exact au) h1 tm;left;refine Zd3 (SqL.of aa) λpt a0=>?_;left;refine⟨Bg,λpr aj=>?_⟩;have s8:=Same.upd (o:=.tup ys) a0;have s9:=Same.upd (o:=.tup [.str wd,nv,.ref pt]) aj;have ah:=ae.mono λ_ _ a=>a.same (s8.trans s9);have sC:=(s6.trans sm).trans (s8.trans s9);refine q _ (.mk wd nd ts) _ (sB.trans sC) (.mk (SqT.of Ac) (av.same sC.t) (SqT.of (s9 _ _ Ac)) ah.1 ah.2) (Hn aq ay (by rw[ht,al.1,lm]) ai) ?_;rw[Tr.size,Pw];unfold Ga;lia
def PkAt (K:Ph)(H:Hp)(v:V)(x:Str×Kd):Prop:=∃(c:Addr)(g:V),v=.ref c/\SqT K H c [.str x.1,g]/\KdAt K H g x.2
theorem PkAt.same (e:SameT H H')(v:V)(x:Str×Kd)(h:PkAt K H v x):PkAt K H' v x:=let ⟨c,g,h1,h2,h3⟩:=h;⟨c,g,h1,e.tup h2,h3.same e⟩
def ArAt (K:Ph)(H:Hp)(a:Addr)(ar:List (Str×Kd)):Prop:=∃vs,H a=some (.lst vs)/\Al (PkAt K H) vs ar/\ar.length<=1000
theorem ArAt.same (h:ArAt K H a ar)(e:Same H H'):ArAt K H' a ar:=let ⟨vs,h1,h2,h3⟩:=h;⟨vs,e _ _ h1,h2.mono (PkAt.same e.t),h3⟩
inductive Znh (K:Ph)(vs:List V)(H:Hp)(Q:VK)(e9:XK):Prop
 |mk (s:Str) (a:Addr) (ar:List (Str×Kd)) (_:vs=[.str s,.ref a]) (_:ArAt K H a ar) (_:(Cd ar s=none->Q .non H)) (_:∀u k,Cd ar s=some k->KdAt K H u k->Q u H)
def Zac (K:Ph):Sp:=Znh K
theorem Zo7 {α:Type}{l:List α}{n:Nat}{x:α}(h:l[n]?=some x):l.take (n+1)=l.take n++[x]:=by rw[Qq,h];rfl
theorem sc_law_bound:Bm ["_law_name","_law_around","_law_one","_law_kind"] ["_law_name","_law_around"] (Bh K6):=by walk_at "sc"
theorem Zs1 (F:Fun K "_law_bound" "_law_bound" K6 f fd)(T:Txt K mg):A8 P w K mg base A9 1 f fd ["_law_name","_law_around"] (Zac K):=by
 refine F.okq sc_law_bound (λvs H Q E h=>?_) (λaa A outer s H vs Q E hr h=>?_)
 ·obtain⟨s,a,Y,rfl,_⟩:=h;rfl
 ·obtain⟨s,a,Y,rfl,⟨vs,ea,al,hl⟩,q1,q2⟩:=h;refine⟨_,Ae (Cw Qc rfl (Zf3 K rfl T.reversed (Aa (qv 1) Ab)) (Dq K (n:=2) rfl (Bu (Bb (i:=2) sc_law_bound.nd rfl (Or.inl rfl)) (Bu (Bb (i:=3) sc_law_bound.nd rfl (Or.inl rfl)) (Di)))) (Ag (Au (Aw (Bf K hr.u200) (qv 2) (qv 0) (A0 _)) (Ag (Ar (qv 3))) Ay)))
   (Ag (Ar C8)),?_⟩
  have bg:=big;left;refine⟨a,vs,rfl,SqL.of ea,?_⟩;have Z:=al.1;refine Zed (K:=K) (a:=a) (xs:=vs) (λi I H'=>∃v2 U,I=[some (.str s),some (.ref a),v2,U]/\H'=H/\Cd Y s=Cd (Y.take (vs.length-i)) s) ⟨none,none,rfl,rfl,by rw[Uv,Z,Q9]⟩ ?_ ?_ ?_
  ·rintro i I H' _ ⟨_,_,_,rfl,_⟩;exact SqL.of ea
  ·rintro i x I H' hi hx ⟨v2,U,rfl,rfl,O⟩;obtain⟨⟨s1,k1⟩,h1,c,g,rfl,hq,hk⟩:=al.get hx;rw[show vs.length-i=vs.length-1-i+1 by lia,Zo7 h1,Zcb]at O;left;refine Dp hq rfl ?_;left;refine Bk (λc=>?_) (λc=>?_)
   ·have c:s1=s:=by simpa using c
    left;rw[if_pos c]at O;exact q2 g k1 O hk
   ·have c:¬s1=s:=λe=>c (by simp[e]);rw[if_neg c]at O;left;exact⟨_,_,rfl,rfl,by rw[O,show vs.length-(i+1)=vs.length-1-i by lia]⟩
  ·rintro I H' ⟨v2,U,rfl,rfl,O⟩;rw[Sf,List.take_zero]at O;left;exact q1 O
theorem Za0 {w:Str}(hw:w∈Ec)(i:Nat):(Bj w i).length=Df w:=by
 simp only[Ec,Pm,P6,or_false]at hw;rcases hw with rfl|rfl|rfl|rfl|rfl|rfl|rfl|rfl|rfl|rfl|rfl|rfl|rfl <;> rfl
inductive Zok (K:Ph)(vs:List V)(H:Hp)(Q:VK)(e9:XK):Prop
 |mk (v u1 u2:V) (w:Str) (n:Dt) (ts:List Tr) (i:Nat) (_:vs=[v,u1,u2]) (_:TrAt K H v (.mk w n ts)) (_:KdAt K H u1 (Ci i)) (_:KdAt K H u2 (twoK i)) (_:Bj w i≠[]) (_:∀(c:Addr)(us:List V)(H':Hp),Same H H'->H' c=some (.lst us)->Al (KdAt K H') us (Bj w i)->Q (.ref c) H')
def Zhd (K:Ph):Sp:=Zok K
theorem Zc0:Bm ["_law_form","_law_one","_law_two_here","_law_num","_law_word"] ["_law_form","_law_one","_law_two_here"] (Bh Lh):=by walk_at "sc"
theorem Zjo (F:Fun K "_law_wishes" "_law_wishes" Lh f fd)(T:Txt K mg):A8 P w K mg base A9 1 f fd ["_law_form","_law_one","_law_two_here"] (Zhd K):=by
 refine F.okq Zc0 (λvs H Q E h=>?_) (λaj A outer s H vs Q E hr h=>?_)
 ·obtain⟨v,u1,u2,w,n,ts,i,rfl,_⟩:=h;rfl
 ·obtain⟨v,u1,u2,w,n,ts,i,rfl,ht,h1,h2,Z,q⟩:=h;refine⟨_,Ae (As 3 Zc0 (Ak (Aa Aj Ab)))
   (Ae (As 4 Zc0 (Ah K (qv 0) Ad))
   (Ae (Au (Aw (Fu K) (qv 4) (Ak (Aa Aj (Aa Aj (Aa Aj Ab)))) (by rfl)) (Ag (Ar (Bc (Aa (qv 3) (Aa (qv 3) Ab))))) Ay)
   (Ae (Au (Aw (Bf K hr.u200) (qv 4) Aj (A0 _)) (Ag (Ar (Bc (Aa (Ak (Aa Aj Ab)) (Aa (qv 1) (Aa (qv 1) Ab)))))) Ay)
   (Ae (Au (Aw (Bf K hr.u200) (qv 4) Aj (A0 _)) (Ag (Ar (Bc (Aa (Ak (Aa Aj (Aa (qv 1) (Aa (qv 2) Ab)))) (Aa (qv 1) Ab))))) Ay)
   (Ae (Au (Aw (Bf K hr.u200) (qv 4) Aj (A0 _)) (Ag (Ar (Bc (Aa (qv 1) (Aa (qv 2) Ab))))) Ay)
   (Ag (Ar (Bc (Aa (qv 2) Ab))))))))),?_⟩
  have bg:=big;cases ht with
  | @mk va p _ nv _ us _ hq hn hp ai hk =>
  left;refine⟨B5,λp1 ah=>?_⟩;obtain⟨H1,s1,e1,z9⟩:=Hv ah (.tup [.str "num"]);rw[z9];left;refine Ao (s1.tup hq) (v:=.str w) rfl ?_;left;refine⟨Bg,λp2 ag=>?_⟩;left;refine Fb (.inr (SqT.of Ac)) rfl rfl ?_;have s2:=s1.put (o:=.tup [.str "plus",.str "minus",.str "less"]) ag;have e2:=(Same.upd (o:=.tup [.str "plus",.str "minus",.str "less"]) ag) _ _ e1;revert s2 e2;generalize upd H1 p2 (.tup [.str "plus",.str "minus",.str "less"])=H2;intro s2 e2;rw[if_neg (by decide),in3];have k1:=h1.same s2.t;have k2:=h2.same s2.t;have aa:KdAt K H2 (.ref p1) .num:=.num (SqT.of e2);left;refine Bk (λc=>?_) (λc=>?_)
  ·have c:=of_decide_eq_true c;left;refine⟨Bq,λp3 U=>?_⟩;have Y:=Same.upd (o:=.lst [.ref p1,.ref p1]) U;have ae:=aa.same Y.t;exact q _ _ _ (s2.trans Y) Ac (by unfold Bj;rw[if_pos c];exact(Al.nil.snoc ae).snoc ae)
  have c1:¬(w="plus"\/w="minus"\/w="less"):=λe=>c (decide_eq_true e);left;refine Bk (λc=>?_) (λc=>?_)
  ·have c:w="if":=by simpa using c
   left;refine⟨B5,λp3 U=>?_⟩;have Y:=Same.upd (o:=.tup [.str "truth"]) U;have t3:KdAt K (upd H2 p3 (.tup [.str "truth"])) (.ref p3) .truth:=.truth (SqT.of Ac);left;refine⟨Bg,λp4 I=>?_⟩;have O:=Same.upd (o:=.lst [.ref p3,u1,u1]) I;have k4:=k1.same (Y.trans O).t;exact q _ _ _ (s2.trans (Y.trans O)) Ac (by unfold Bj;rw[if_neg c1,if_pos c];exact((Al.nil.snoc (t3.same O.t)).snoc k4).snoc k4)
  have c2:w≠"if":=λe=>c (by simp[e]);left;refine Bk (λc=>?_) (λc=>?_)
  ·have c:w="call":=by simpa using c
   left;refine⟨Bg,λp3 U=>?_⟩;have Y:=Same.upd (o:=.tup [.str "to",u1,u2]) U;have t3:KdAt K (upd H2 p3 (.tup [.str "to",u1,u2])) (.ref p3) (Ee i):=.to (SqT.of Ac) (k1.same Y.t) (k2.same Y.t);left;refine⟨Bq,λp4 I=>?_⟩;have O:=Same.upd (o:=.lst [.ref p3,u1]) I;exact q _ _ _ (s2.trans (Y.trans O)) Ac (by unfold Bj;rw[if_neg c1,if_neg c2,if_pos c];exact(Al.nil.snoc (t3.same O.t)).snoc (k1.same (Y.trans O).t))
  have c3:w≠"call":=λe=>c (by simp[e]);left;refine Bk (λc=>?_) (λc=>?_)
  ·have c:w="let":=by simpa using c
   left;refine⟨Bq,λp4 I=>?_⟩;have O:=Same.upd (o:=.lst [u1,u2]) I;exact q _ _ _ (s2.trans O) Ac (by unfold Bj;rw[if_neg c1,if_neg c2,if_neg c3,if_pos c];exact(Al.nil.snoc (k1.same O.t)).snoc (k2.same O.t))
  have c4:w≠"let":=λe=>c (by simp[e]);left;refine⟨B5,λp4 I=>?_⟩;have O:=Same.upd (o:=.lst [u2]) I;refine q _ _ _ (s2.trans O) Ac ?_;unfold Bj at Z ⊢;rw[if_neg c1,if_neg c2,if_neg c3,if_neg c4]at Z ⊢;by_cases c5:w="fn"\/w="rec"
  ·rw[if_pos c5];exact Al.nil.snoc (k2.same O.t)
  ·rw[if_neg c5]at Z;exact absurd rfl Z
inductive Zs4 (K:Ph)(vs:List V)(H:Hp)(Q:VK)(e9:XK):Prop
 |mk (v u1 u2:V) (a:Addr) (w:Str) (n:Dt) (ts:List Tr) (i:Nat) (ar:List (Str×Kd)) (_:vs=[v,u1,u2,.ref a]) (_:TrAt K H v (.mk w n ts)) (_:C0 w n) (_:KdAt K H u1 (Ci i)) (_:KdAt K H u2 (twoK i)) (_:ArAt K H a ar) (_:∀(u:V)(H':Hp),Same H H'->KdAt K H' u (Bx w n i ar)->Q u H')
def Zf5 (K:Ph):Sp:=Zs4 K
theorem Ob (hn:IsN K H nv (.flat (.str t))):nv=.str t:=by
 rcases hn with⟨_,e⟩|⟨_,vs,_,_,_,e⟩
 ·injection e with e;exact e.symm
 ·cases e
theorem Zf9:Bm ["_law_form","_law_one","_law_two_here","_law_around","_law_word"] ["_law_form","_law_one","_law_two_here","_law_around"] (Bh Kp):=by walk_at "sc"
theorem Zjh (F:Fun K "_law_gives" "_law_gives" Kp f fd)(T:Txt K mg)(C__law_bound:A7 P w K mg base 1 "_law_bound" ["_law_name","_law_around"] (Zac K)):A8 P w K mg base A9 2 f fd ["_law_form","_law_one","_law_two_here","_law_around"] (Zf5 K):=by
 refine F.okq Zf9 (λvs H Q E h=>?_) (λak A outer s H vs Q E hr h=>?_)
 ·obtain⟨v,u1,u2,a,w,n,ts,i,ar,rfl,_⟩:=h;rfl
 ·obtain⟨v,u1,u2,a,w,n,ts,i,ar,rfl,ht,ah,h1,h2,hA,q⟩:=h;refine⟨_,Ae (As 4 Zf9 (Ah K (qv 0) Ad))
   (Ae (Au (Aw (Fu K) (qv 4) (Ak (Aa Aj (Aa Aj (Aa Aj Ab)))) (by rfl)) (Ag (Ar (Ak (Aa Aj Ab)))) Ay)
   (Ae (Au (Aw (Fu K) (qv 4) (Ak (Aa Aj (Aa Aj Ab))) (by rfl)) (Ag (Ar (Ak (Aa Aj Ab)))) Ay)
   (Ae (Au (Aw (Fu K) (qv 4) (Ak (Aa Aj (Aa Aj Ab))) (by rfl)) (Ag (Ar (Ak (Aa Aj (Aa (qv 1) (Aa (qv 2) Ab)))))) Ay)
   (Ae (Au (Aw (Fu K) (qv 4) (Ak (Aa Aj (Aa Aj Ab))) (by rfl)) (Ag (Ar (qv 2))) Ay)
   (Ae (Au (QW.qt (F7 (Aw (Bf K hr.u200) (qv 4) Aj (A0 _)) (F5 (E6 (N2 (A5 C__law_bound hr.m (Aa (Ah K (qv 0) Ad) (Aa (qv 3) Ab)))))))) (Ag (Ar (A5 C__law_bound hr.m (Aa (Ah K (qv 0) Ad) (Aa (qv 3) Ab))))) Ay)
   (Ag (Ar (qv 1)))))))),?_⟩
  have bg:=big;cases ht with
  | @mk va p _ nv _ us _ hq hn hp aj hk =>
  left;refine Ao hq (v:=.str w) rfl ?_;left;refine⟨Bg,λp2 ag=>?_⟩;left;refine Fb (.inr (SqT.of Ac)) rfl rfl ?_;have s2:=Same.upd (o:=.tup [.str "num",.str "plus",.str "minus"]) ag;revert s2;generalize upd H p2 (.tup [.str "num",.str "plus",.str "minus"])=H2;intro s2;rw[if_neg (by decide),in3];left;refine Bk (λc=>?_) (λc=>?_)
  ·have c:=of_decide_eq_true c;left;refine⟨B5,λp3 Z=>?_⟩;exact q _ _ (s2.put Z) (by unfold Bx;rw[if_pos c];exact .num (SqT.of Ac))
  have c1:¬(w="num"\/w="plus"\/w="minus"):=λe=>c (decide_eq_true e);left;refine⟨Bq,λp3 Z=>?_⟩;left;refine Fb (.inr (SqT.of Ac)) rfl rfl ?_;have s3:=s2.put (o:=.tup [.str "truth",.str "less"]) Z;revert s3;generalize upd H2 p3 (.tup [.str "truth",.str "less"])=H3;intro s3;rw[if_neg (by decide),Jg];left;refine Bk (λc=>?_) (λc=>?_)
  ·have c:=of_decide_eq_true c;left;refine⟨B5,λp4 U=>?_⟩;exact q _ _ (s3.put U) (by unfold Bx;rw[if_neg c1,if_pos c];exact .truth (SqT.of Ac))
  have c2:¬(w="truth"\/w="less"):=λe=>c (decide_eq_true e);left;refine⟨Bq,λp4 U=>?_⟩;left;refine Fb (.inr (SqT.of Ac)) rfl rfl ?_;have s4:=s3.put (o:=.tup [.str "fn",.str "rec"]) U;revert s4;generalize upd H3 p4 (.tup [.str "fn",.str "rec"])=H4;intro s4;rw[if_neg (by decide),Jg];left;refine Bk (λc=>?_) (λc=>?_)
  ·have c:=of_decide_eq_true c;left;refine⟨Bg,λp5 Y=>?_⟩;have I:=s4.put (o:=.tup [.str "to",u1,u2]) Y;exact q _ _ I (by unfold Bx;rw[if_neg c1,if_neg c2,if_pos c];exact .to (SqT.of Ac) (h1.same I.t) (h2.same I.t))
  have c3:¬(w="fn"\/w="rec"):=λe=>c (decide_eq_true e);left;refine⟨Bq,λp5 Y=>?_⟩;left;refine Fb (.inr (SqT.of Ac)) rfl rfl ?_;have I:=s4.put (o:=.tup [.str "let",.str "call"]) Y;revert I;generalize upd H4 p5 (.tup [.str "let",.str "call"])=H5;intro I;rw[if_neg (by decide),Jg];left;refine Bk (λc=>?_) (λc=>?_)
  ·have c:=of_decide_eq_true c;left;exact q _ _ I (by unfold Bx;rw[if_neg c1,if_neg c2,if_neg c3,if_pos c];exact h2.same I.t)
  have c4:¬(w="let"\/w="call"):=λe=>c (decide_eq_true e);have e5:Bx w n i ar=if w="name" then (Cd ar (Cz n)).getD (Ci i) else Ci i:=by unfold Bx;rw[if_neg c1,if_neg c2,if_neg c3,if_neg c4]
  rw[e5]at q;left;by_cases c5:w="name"
  ·rw[decide_eq_true (show V.str w=V.str "name" by rw[c5])];obtain⟨t,rfl⟩:=ah.1 (.inr (.inr c5));obtain rfl:=Ob hn;rw[if_pos c5]at q;have q:∀(u:V)(H':Hp),Same H H'->KdAt K H' u ((Cd ar t).getD (Ci i))->Q u H':=q;left;refine Ao (I.tup hq) (v:=.str t) rfl ?_;left;have aa:=hA.same I;refine⟨t,a,ar,rfl,aa,λO=>?_,λu k hl hu=>?_⟩
   ·left;rw[decide_eq_true (show V.non=V.non from rfl)];left;exact q _ _ I (by rw[O];exact h1.same I.t)
   ·obtain⟨uc,rfl⟩:=hu.ref;left;rw[decide_eq_false (show ¬V.ref uc=V.non from λz=>by cases z)];left;refine Ao (I.tup hq) (v:=.str t) rfl ?_;left;refine⟨t,a,ar,rfl,aa,(λO=>by rw[hl]at O;cases O),λu' k' ae ai=>?_⟩;exact q _ _ I (by rw[ae];exact ai)
  ·rw[decide_eq_false (show ¬V.str w=V.str "name" from λz=>c5 (V.str.inj z))];rw[if_neg c5]at q;left;exact q _ _ I (h1.same I.t)
theorem ArAt.add (ha:H a=some (.lst vs))(al:Al (PkAt K H) vs ar)(hl:ar.length+as.length<=1000)(s1:Same H H1)(al1:Al (PkAt K H1) us as)(hc:H1 c=none):ArAt K (upd H1 c (.lst (vs++us))) c (ar++as) :=
 have t:=(Same.upd (o:=.lst (vs++us)) hc).t
 ⟨_,Ac,Zdn (al.mono (PkAt.same (s1.t.trans t))) (al1.mono (PkAt.same t)),by rw[Pr];exact hl⟩
theorem Zjv (hn:IsN K H nv (.tup [.flat (.str t),.flat (.str u)])):∃a,nv=.ref a/\SqT K H a [.str t,.str u]:=by
 rcases hn with⟨_,e⟩|⟨a,vs,F,q,_,e⟩
 ·cases e
 ·injection e with e;obtain⟨x,y,rfl⟩:=lz2 (vs:=vs) (by first|exact e|(have:=congrArg Qx e;rw[Pp]at this;exact this.symm));injection e with e2 e3;injection e3 with e4 e5;injection e2 with e2;injection e4 with e4;subst e2 e4;exact⟨a,F,q⟩
noncomputable abbrev Fc (w:Str)(n:Dt)(i j:Nat)(ar:List (Str×Kd)):List (Str×Kd):=Ew w n (Bx w n i ar) j (Bj w i) ar
inductive Zn8 (K:Ph)(vs:List V)(H:Hp)(Q:VK)(e9:XK):Prop
 |mk (v u1 u2:V) (j:Nat) (a:Addr) (w:Str) (n:Dt) (ts:List Tr) (i:Nat) (ar:List (Str×Kd)) (_:vs=[v,.int (j:Nat),u1,u2,.ref a]) (_:TrAt K H v (.mk w n ts)) (_:C0 w n) (_:KdAt K H u1 (Ci i)) (_:KdAt K H u2 (twoK i)) (_:ArAt K H a ar) (_:ar.length<=900) (_:∀(c:Addr)(H':Hp),Same H H'->(c=a\/H c=none)->ArAt K H' c (Fc w n i j ar)->Q (.ref c) H')
def Zgg (K:Ph):Sp:=Zn8 K
theorem Znj:Bm ["_law_form","_law_at","_law_one","_law_two_here","_law_around"] ["_law_form","_law_at","_law_one","_law_two_here","_law_around"] (Bh L6):=by walk_at "sc"
theorem Zrr (F:Fun K "_law_more" "_law_more" L6 f fd)(T:Txt K mg):A8 P w K mg base A9 1 f fd ["_law_form","_law_at","_law_one","_law_two_here","_law_around"] (Zgg K):=by
 refine F.okq Znj (λvs H Q E h=>?_) (λaj A outer s H vs Q E hr h=>?_)
 ·obtain⟨v,u1,u2,j,a,w,n,ts,i,ar,rfl,_⟩:=h;rfl
 ·obtain⟨v,u1,u2,j,a,w,n,ts,i,ar,rfl,ht,aa,k1,k2,hA,hl,q⟩:=h;refine⟨_,Ae (Au (QW.qt (Zca (Aw (Bf K hr.u200) (Ah K (qv 0) Ad) Aj (A0 _)) (Zcm (QW.qt (F7 (Aw (Bf K hr.u200) (Ah K (qv 0) Ad) Aj (A0 _)) (F5 (Aw (Bf K hr.u200) (qv 1) Ad (A0 _)))))))) (Ag (Ar (A4 (D7 K) (qv 4) (Bc (Aa (Ak (Aa (Ah K (qv 0) Ad) (Aa (qv 2) Ab))) Ab))))) Ay)
   (Ae (Au (Aw (Bf K hr.u200) (Ah K (qv 0) Ad) Aj (A0 _)) (Ag (Ar (A4 (D7 K) (qv 4) (Bc (Aa (Ak (Aa (Ah K (Ah K (qv 0) Ad) Ad) (Aa (Ak (Aa Aj (Aa (qv 2) (Aa (qv 3) Ab)))) Ab))) (Aa (Ak (Aa (Ah K (Ah K (qv 0) Ad) Ad) (Aa (qv 2) Ab))) Ab)))))) Ay)
   (Ag (Ar (qv 4)))),?_⟩
  have bg:=big;obtain⟨vs,ea,O,ah⟩:=hA;cases ht with
  | @mk va p _ nv _ ak _ hq hn hp ai hk =>
  have one:∀(x:Str)(I p2 p3:Addr),H I=none->upd H I (.tup [.str x,u1]) p2=none->upd (upd H I (.tup [.str x,u1])) p2 (.lst [.ref I]) p3=none->Fc w n i j ar=ar++[(x,Ci i)]->Q (.ref p3) (upd (upd (upd H I (.tup [.str x,u1])) p2 (.lst [.ref I])) p3 (.lst (vs++[.ref I]))):=λx I p2 p3 h1 h2 Z e=>by
   have s1:=Same.upd (o:=.tup [.str x,u1]) h1;have s2:=Same.upd (o:=.lst [.ref I]) h2;refine q _ _ ((s1.trans s2).trans (Same.upd Z)) (.inr ((s1.trans s2).free Z)) ?_;rw[e];exact ArAt.add ea O (by simp;lia) (s1.trans s2) (Al.nil.snoc ⟨I,u1,rfl,SqT.of (s2 _ _ Ac),k1.same (s1.trans s2).t⟩) Z
  have same:Fc w n i j ar=ar->Q (.ref a) H:=λe=>q a H (Same.refl _) (.inl rfl) (by rw[e];exact⟨vs,ea,O,ah⟩);have nd:∀(a b:Str),a≠b->decide (V.str a=V.str b)=false:=λa b h=>decide_eq_false λz=>h (V.str.inj z);have yd:∀(a b:Str),a=b->decide (V.str a=V.str b)=true:=λa b h=>decide_eq_true (by rw[h]);left;refine Ao hq (v:=.str w) rfl ?_;left;by_cases c1:w="fn"
  ·rw[yd _ _ c1];obtain⟨t,rfl⟩:=aa.1 (.inl c1);obtain rfl:=Ob hn;left;refine Ao hq (v:=.str t) rfl ?_;left;refine⟨Bq,λI h1=>?_⟩;left;refine⟨B5,λp2 h2=>?_⟩;left;refine Pe ((Same.upd h2) _ _ ((Same.upd h1) _ _ ea)) Ac (by rw[O.1];simp;lia) λp3 Z=>?_;refine one t I p2 p3 h1 h2 Z ?_;subst c1;rfl
  rw[nd _ _ c1];left;refine Ao hq (v:=.str w) rfl ?_;left;by_cases c2:w="let"
  ·rw[yd _ _ c2];left;by_cases Y:j=1
   ·rw[decide_eq_true (show V.int ((j:Nat):Int)=V.int 1 by rw[Y];rfl)];obtain⟨t,rfl⟩:=aa.1 (.inr (.inl c2));obtain rfl:=Ob hn;left;refine Ao hq (v:=.str t) rfl ?_;left;refine⟨Bq,λI h1=>?_⟩;left;refine⟨B5,λp2 h2=>?_⟩;left;refine Pe ((Same.upd h2) _ _ ((Same.upd h1) _ _ ea)) Ac (by rw[O.1];simp;lia) λp3 Z=>?_;refine one t I p2 p3 h1 h2 Z ?_;subst c2 Y;rfl
   ·rw[decide_eq_false (show ¬V.int ((j:Nat):Int)=V.int 1 from λz=>Y (by injection z;lia))];subst c2;left;refine Ao hq (v:=.str "let") rfl ?_;left;rw[nd "let" "rec" (by right)];left;refine same ?_;unfold Fc Ew nb;rw[if_neg (by right),if_neg (by right),if_neg (λz=>Y z.2),Vg,Qj]
  rw[nd _ _ c2];left;refine Ao hq (v:=.str w) rfl ?_;left;by_cases Y:w="rec"
  ·rw[yd _ _ Y];obtain⟨t,t2,rfl⟩:=aa.2 Y;obtain⟨na,rfl,ag⟩:=Zjv hn;left;refine Ao hq (v:=.ref na) rfl ?_;left;refine Ao ag (v:=.str t) rfl ?_;left;refine⟨Bg,λp0 h0=>?_⟩;have s0:=Same.upd (o:=.tup [.str "to",u1,u2]) h0;have t0:KdAt K (upd H p0 (.tup [.str "to",u1,u2])) (.ref p0) (Ee i):=.to (SqT.of Ac) (k1.same s0.t) (k2.same s0.t);revert s0 t0;generalize upd H p0 (.tup [.str "to",u1,u2])=H0;intro s0 t0;left;refine⟨Bq,λI h1=>?_⟩;have s1:=Same.upd (o:=.tup [.str t,.ref p0]) h1;left;refine Ao ((s0.trans s1).tup hq) (v:=.ref na) rfl ?_;left;refine Ao ((s0.trans s1).tup ag) (v:=.str t2) rfl ?_;left;refine⟨Bq,λp2 h2=>?_⟩;have s2:=Same.upd (o:=.tup [.str t2,u1]) h2;left;refine⟨Bq,λp3 Z=>?_⟩;have s3:=Same.upd (o:=.lst [.ref I,.ref p2]) Z;have ae:=(s1.trans s2).trans s3;have U:=s0.trans ae;left;refine Pe (U _ _ ea) Ac (by rw[O.1];simp;lia) λp4 h4=>?_;refine q _ _ (U.trans (Same.upd h4)) (.inr (U.free h4)) ?_;have e:Fc w (.tup [.flat (.str t),.flat (.str t2)]) i j ar=ar++[(t,Ee i),(t2,Ci i)]:=by subst Y;rfl
   rw[e];exact ArAt.add ea O (by simp;lia) U ((Al.nil.snoc ⟨I,_,rfl,SqT.of ((s2.trans s3) _ _ Ac),t0.same ae.t⟩).snoc ⟨p2,_,rfl,SqT.of (s3 _ _ Ac),k1.same U.t⟩) h4
  rw[nd _ _ Y];left;refine same ?_;unfold Fc Ew nb;rw[if_neg c1,if_neg Y,if_neg (λz=>c2 z.1),Vg,Qj]
noncomputable abbrev En:=List Nat×Tr×Option Kd×List (Str×Kd)
noncomputable def Iu (t:Tr)(x:List Nat×Tr)(r:Kd×Option Kd):Rw:=(x.1,r.1,r.2,Cg t x.1 x.2 true)
noncomputable def Fo (t:Tr):List Rw:=V3 (Iu t) (walk [] t) (B1 0 [] none t)
noncomputable def Ez (t:Tr):Nat->List En->List Rw
 |_,[]=>[]
 |i,e::r=>V3 (Iu t) (walk e.1 e.2.1) (B1 i e.2.2.2 e.2.2.1 e.2.1)++Ez t (i+e.2.1.size) r
noncomputable def Du (pl:List Nat)(w:Str)(n:Dt)(i:Nat)(ar:List (Str×Kd)):Nat->List Tr->List En
 |_,[]=>[]
 |j,u::F=>(pl++[j],u,(Bj w i)[j]?,Fc w n i j ar)::Du pl w n i ar (j+1) F
theorem Zek (t:Tr)(pl:List Nat)(w:Str)(n:Dt)(i:Nat)(ar:List (Str×Kd))(r:List En):∀(us:List Tr)(j s:Nat),Ez t s (Du pl w n i ar j us++r)=V3 (Iu t) (Br pl j us) (Ca s w n i ar j us)++Ez t (s+Ax us) r
 |[],j,s=>by rw[Du,Br,Ca,Ax];rfl
 |u::us,j,s=>by
  rw[Du,Ru,Ez,Zek t pl w n i ar r us (j+1) _,Br,Ca,List.zipWith_append (by rw[D5,Hf]),Ax,Qi,Nat.add_assoc]
theorem Zk6 (t:Tr)(pl:List Nat)(w:Str)(n:Dt)(us:List Tr)(ask:Option Kd)(ar:List (Str×Kd))(i:Nat)(r:List En):Ez t i ((pl,.mk w n us,ask,ar)::r)=(pl,Bx w n i ar,ask,Cg t pl (.mk w n us) true)::Ez t (i+1) (Du pl w n i ar 0 us++r):=by
 rw[Ez,Zek];show V3 (Iu t) (walk pl (.mk w n us)) (B1 i ar ask (.mk w n us))++Ez t (i+(Tr.mk w n us).size) r=_;rw[walk,B1,List.zipWith_cons_cons,Ru,Tr.size];rw[show i+1+Ax us=i+(1+Ax us) by lia]
 first|rfl|(rw[show 1+Ax us=Ax us+1 by lia];rfl)
theorem Zb7 (pl:List Nat)(w:Str)(n:Dt)(i:Nat)(ar:List (Str×Kd)):∀(us:List Tr)(j k:Nat)(u:Tr),us[k]?=some u->(Du pl w n i ar j us)[k]?=some (pl++[j+k],u,(Bj w i)[j+k]?,Fc w n i (j+k) ar)
 |[],j,k,u,h=>by simp at h
 |x::us,j,0,u,h=>by cases h;rfl
 |x::us,j,k+1,u,h=>by
  rw[Du,V9,Zb7 pl w n i ar us (j+1) k u (by simpa using h),show j+1+k=j+(k+1) by lia]
noncomputable abbrev Dl (e:En):List Nat×Tr:=(e.1,e.2.1)
theorem O0 (pl:List Nat)(w:Str)(n:Dt)(i:Nat)(ar:List (Str×Kd)):∀(us:List Tr)(j:Nat),(Du pl w n i ar j us).map Dl=L2.kids pl j us
 |[],j=>rfl
 |u::us,j=>by rw[Du,Q3,O0 pl w n i ar us (j+1),L2.kids]
theorem Ziz (pl:List Nat)(w:Str)(n:Dt)(i:Nat)(ar:List (Str×Kd))(us:List Tr)(j:Nat):(Du pl w n i ar j us).length=us.length:=by
 have:=congrArg Qx (O0 pl w n i ar us j);rw[Pp,N9]at this;exact this
theorem Zit (n:Dt):(Gs n).length<=1:=by unfold Gs;split <;> simp
theorem Ztj (n:Dt):(Ij n).length<=2:=by unfold Ij;split <;> simp
theorem Zkg (w:Str)(n:Dt)(h:Kd)(ws:List Kd)(j:Nat):(nb w n j).length<=(Gr w h ws).length:=by
 unfold nb Gr;by_cases c1:w="fn"
 ·subst c1;rw[if_pos rfl,if_neg (by right),if_pos rfl];exact Zit n
 by_cases I:w="rec"
 ·subst I;rw[if_neg (by right),if_pos rfl,if_neg (by right),if_neg (by right),if_pos rfl];exact Ztj n
 rw[if_neg c1,if_neg I];by_cases F:w="let"/\j=1
 ·rw[if_pos F,if_pos F.1];exact Zit n
 ·rw[if_neg F];exact P8 _
theorem Zrf {t:Tr}{pl:List Nat}{w:Str}{n:Dt}{us:List Tr}{ar:List (Str×Kd)}(i j:Nat)(e:ar.map (·.1)=Cm t pl)(h:(pl,Tr.mk w n us)∈walk [] t):(Fc w n i j ar).map (·.1)=Cm t (pl++[j]):=by
 rw[Zu6 h,<- e];show(ar++(nb w n j).zip _).map _=_;rw[Qv,List.map_fst_zip (Zkg w n _ _ j)]
theorem Zpj (ar:List (Str×Kd))(s:Str):Cd ar s=none↔s ∉ ar.map (·.1):=by
 have F:∀(ar:List (Str×Kd))(o:Option Kd),ar.foldl (λo p=>if p.1=s then some p.2 else o) o=none↔o=none/\s ∉ ar.map (·.1):=by
  intro ar
  induction ar with
  |nil=>intro o;simp
  |cons x r I =>
   intro o;rw[Sd,I,Q3,Pm];by_cases c:x.1=s
   ·rw[if_pos c];exact⟨(λh=>by cases h.1),(λh=>absurd (Or.inl c.symm) h.2)⟩
   ·rw[if_neg c];exact⟨λh=>⟨h.1,λz=>z.elim (λz=>c z.symm) h.2⟩,λh=>⟨h.1,λz=>h.2 (.inr z)⟩⟩
 unfold Cd;rw[F];exact⟨λh=>h.2,λh=>⟨rfl,h⟩⟩
theorem Zka (w:Str)(n:Dt)(i j:Nat)(ar:List (Str×Kd)):(Fc w n i j ar).length<=ar.length+2:=by
 show(ar++(nb w n j).zip _).length<=_;rw[Pr,List.length_zip];have:=nbl3 w n j;lia
theorem Zk9 {w:Str}{n:Dt}{us:List Tr}(h:GT (.mk w n us)):C0 w n/\us.length=Df w/\w∈Ec/\∀u∈us,GT u:=by
 obtain⟨a,s,I⟩:=h;cases a with
 |mk h1 h2 Y =>
 cases s with
 |mk _ U =>
 cases I with
 |mk Z O=>exact⟨h1,h2,Z,λu F=>⟨Y u F,U u F,O u F⟩⟩
structure Sy (L R:Addr)(H H':Hp):Prop where
 t:SameT H H'
 l:∀b us,b≠L->b≠R->H b=some (.lst us)->H' b=some (.lst us)
theorem Sy.of (s:Same H H'):Sy L R H H':=⟨s.t,λ_ _ _ _ e=>s _ _ e⟩
theorem Sy.trans (s:Sy L R H H1)(r:Sy L R H1 H2):Sy L R H H2:=⟨s.t.trans r.t,λb F n m e=>r.l b F n m (s.l b F n m e)⟩
theorem Sy.setL (e:H L=some (.lst us)):Sy L R H (upd H L (.lst vs)):=⟨SameT.set e,λb us n _ F=>by rw[Ai n];exact F⟩
theorem Sy.setR (e:H R=some (.lst us)):Sy L R H (upd H R (.lst vs)):=⟨SameT.set e,λb us _ n F=>by rw[Ai n];exact F⟩
theorem ArAt.sy (h:ArAt K H a ar)(n:a≠L)(m:a≠R)(s:Sy L R H H'):ArAt K H' a ar:=let ⟨vs,h1,h2,h3⟩:=h;⟨vs,s.l _ _ n m h1,h2.mono (PkAt.same s.t),h3⟩
def EoAt (K:Ph)(L R:Addr)(H:Hp)(v:V)(x:En):Prop:=eX5 λ(c p:Addr)(u g:V)(b:Addr)=>v=.ref c/\SqT K H c [.ref p,u,g,.ref b]/\H p=some (.tup (Bv x.1))/\TrAt K H u x.2.1/\AkD K H g x.2.2.1/\b≠L/\b≠R/\ArAt K H b x.2.2.2
theorem EoAt.sy (s:Sy L R H H')(v:V)(x:En)(h:EoAt K L R H v x):EoAt K L R H' v x:=let ⟨c,p,u,g,b,h1,h2,h3,h4,h5,h6,h7,h8⟩:=h;⟨c,p,u,g,b,h1,s.t.tup h2,(s.t p).1 _ h3,h4.sameT s.t,h5.same s.t,h6,h7,h8.sy h6 h7 s⟩
structure RoJ (K:Ph)(H:Hp)(t:Tr)(pf pw:Addr)(H':Hp)(fv wv:List V)(dn:List Rw)(st:List En):Prop where
 ef:H' pf=some (.lst fv)
 ew:H' pw=some (.lst wv)
 af:Al (LkAt K H') fv dn
 aw:Al (EoAt K pw pf H') wv st
 eq:dn++Ez t dn.length st.reverse=Fo t
 tl:∃dp,dp++Fx (st.map Dl)=walk [] t/\dp.length=dn.length
 gd:∀x∈st,GT x.2.1/\x.2.2.2.map (·.1)=Cm t x.1/\x.2.2.2.length<=2*x.1.length
 sm:Same H H'
def Zi1 (K:Ph):Sp:=λvs H Q _=>∃(v:V)(t:Tr),vs=[v]/\TrAt K H v t/\GT t/\t.size<=40/\∀(p:Addr)(rows:List V)(H':Hp),Same H H'->H p=none->H' p=some (.lst rows)->Al (LkAt K H') rows (Fo t)->Q (.ref p) H'
theorem sc_law_rows:Bm ["_law_tree_here","_law_rows_here","_law_left","_law_place","_law_form","_law_asked","_law_around","_law_one","_law_two_here","_law_mark","_law_k","_law_at","_law_wish"] ["_law_tree_here"] (Bh Mm):=by walk_at "sc"
theorem Zu7 (F:Fun K "_law_rows" "_law_rows" Mm f fd)(T:Txt K mg)(C__law_bound:A7 P w K mg base 1 "_law_bound" ["_law_name","_law_around"] (Zac K))(C__law_gives:A7 P w K mg base 2 "_law_gives" ["_law_form","_law_one","_law_two_here","_law_around"] (Zf5 K))(C__law_wishes:A7 P w K mg base 1 "_law_wishes" ["_law_form","_law_one","_law_two_here"] (Zhd K))(C__law_more:A7 P w K mg base 1 "_law_more" ["_law_form","_law_at","_law_one","_law_two_here","_law_around"] (Zgg K)):A8 P w K mg base A9 3 f fd ["_law_tree_here"] (Zi1 K):=by
 refine F.okq sc_law_rows (λvs H Q E h=>?_) (λd9 A outer s H vs Q E hr h=>?_)
 ·obtain⟨v,t,rfl,_⟩:=h;rfl
 ·obtain⟨v,t,rfl,ht,hg,hz,q⟩:=h;refine⟨_,Ae (As 1 sc_law_rows (Bc Ab))
   (Ae (As 2 sc_law_rows (Bc (Aa (Ak (Aa (Ak Ab) (Aa (qv 0) (Aa C8 (Aa (Bc Ab) Ab))))) Ab)))
   (Ae (Iv Qc (Aw Zf2 (B6 (Dc K) (by rfl) T.len (by right) (Aa (qv 2) Ab)) Ad (A0 _)) (Ae (Kz (Ky K Qd Tz T0 Ki (qv 2)) (Dq K (n:=4) rfl (Bu (Bb (i:=3) sc_law_rows.nd rfl (Or.inl rfl)) (Bu (Bb (i:=4) sc_law_rows.nd rfl (Or.inl rfl)) (Bu (Bb (i:=5) sc_law_rows.nd rfl (Or.inl rfl)) (Bu (Bb (i:=6) sc_law_rows.nd rfl (Or.inl rfl)) (Di)))))))
   (Ae (As 7 sc_law_rows (Ak (Aa Aj (Aa (A4 G8 Ad (B6 (Dc K) (by rfl) T.len (by right) (Aa (qv 1) Ab))) Ab))))
   (Ae (As 8 sc_law_rows (Ak (Aa Aj (Aa (A4 (D7 K) (A4 G8 Ad (B6 (Dc K) (by rfl) T.len (by right) (Aa (qv 1) Ab))) Ad) Ab))))
   (Ae (As 9 sc_law_rows Aj)
   (Ae (Au (Aw (Bf K hr.u200) (Ah K (qv 4) Ad) Aj (A0 _)) (Ag (As 9 sc_law_rows Aj)) Ay)
   (Ae (Au (QW.qt (F7 (Aw (Bf K hr.u200) (Ah K (qv 4) Ad) Aj (A0 _)) (F5 (E6 (Kj (A5 C__law_bound hr.m (Aa (Ah K (qv 4) Ad) (Aa (qv 6) Ab)))))))) (Ag (As 9 sc_law_rows Aj)) Ay)
   (Ae (Cr (Cu K Qd Qs Qt C9 (qv 1) (Aa (Ak (Aa (qv 3) (Aa (A5 C__law_gives hr.m (Aa (qv 4) (Aa (qv 7) (Aa (qv 8) (Aa (qv 6) Ab))))) (Aa (qv 5) (Aa (qv 9) Ab))))) Ab)))
   (Ag (Cw Qc rfl (Gg rfl T.range (Aa (B6 (Dc K) (by rfl) T.len (by right) (Aa (Ah K (qv 4) Ad) Ab)) Ab)) (Bb (i:=10) sc_law_rows.nd rfl (Or.inl rfl)) (Ae (As 11 sc_law_rows (A4 Zbu (A4 Zbu (B6 (Dc K) (by rfl) T.len (by right) (Aa (Ah K (qv 4) Ad) Ab)) Ad) (qv 10)))
   (Ae (As 12 sc_law_rows (Ah K (A5 C__law_wishes hr.m (Aa (qv 4) (Aa (qv 7) (Aa (qv 8) Ab)))) (qv 11)))
   (Ag (Cr (Cu K Qd Qs Qt C9 (qv 2) (Aa (Ak (Aa (A4 (Ou K) (qv 3) (Ak (Aa (qv 11) Ab))) (Aa (Ah K (Ah K (qv 4) Ad) (qv 11)) (Aa (qv 12) (Aa (A5 C__law_more hr.m (Aa (qv 4) (Aa (qv 11) (Aa (qv 7) (Aa (qv 8) (Aa (qv 6) Ab)))))) Ab))))) Ab))))))))))))))))
   (Ag (Ar (qv 1))))),?_⟩
  have bg:=big;left;refine⟨Bo,λO bb=>?_⟩;have f0:upd H O (.lst []) O=some (.lst []):=Ac;have g0:=Same.upd (o:=.lst []) bb;revert f0 g0;generalize upd H O (.lst [])=Ha;intro f0 g0;left;refine⟨Bo,λp0 h0=>?_⟩;have g1:=Same.upd (o:=.tup []) h0;have f1:upd Ha p0 (.tup []) p0=some (.tup []):=Ac;revert g1 f1;generalize upd Ha p0 (.tup [])=Hb;intro g1 f1;left;refine⟨Bo,λb0 b7=>?_⟩;have g2:=Same.upd (o:=.lst []) b7;have f2:upd Hb b0 (.lst []) b0=some (.lst []):=Ac;revert g2 f2;generalize upd Hb b0 (.lst [])=Hc;intro g2 f2;left;refine⟨Jy,λc0 dg=>?_⟩;have g3:=Same.upd (o:=.tup [.ref p0,v,.non,.ref b0]) dg;have f3:upd Hc c0 (.tup [.ref p0,v,.non,.ref b0]) c0=some (.tup [.ref p0,v,.non,.ref b0]):=Ac;revert g3 f3;generalize upd Hc c0 (.tup [.ref p0,v,.non,.ref b0])=Hd;intro g3 f3;left;refine⟨B5,λI a4=>?_⟩;have g4:=Same.upd (o:=.lst [.ref c0]) a4;have f4:upd Hd I (.lst [.ref c0]) I=some (.lst [.ref c0]):=Ac;have bc:O≠I:=A6 ((g1.trans (g2.trans g3)) _ _ f0) a4;have cp:b0≠I:=A6 (g3 _ _ f2) a4;have bv:b0≠O:=(A6 (g1 _ _ f0) b7).symm;have sH:Same H _:=g0.trans (g1.trans (g2.trans (g3.trans g4)));have ba:H I=none:=(g0.trans (g1.trans (g2.trans g3))).free a4;have k0:=(g1.trans (g2.trans (g3.trans g4))) _ _ f0;have k1:=(g2.trans (g3.trans g4)) _ _ f1;have k2:=(g3.trans g4) _ _ f2;have k3:=g4 _ _ f3;have k4:=f4;revert sH k0 k1 k2 k3 k4;generalize upd Hd I (.lst [.ref c0])=H0;intro sH k0 k1 k2 k3 k4;left;refine⟨λm ae H'=>eX14 λy3 y4 y5 y6 y7 y8 y9 ag aa Z fv wv dn st=>ae=[some v,some (.ref O),some (.ref I),y3,y4,y5,y6,y7,y8,y9,ag,aa,Z]/\RoJ K H t O I H' fv wv dn st/\m=L2.load (st.map Dl),
   ⟨_,none,none,none,none,none,none,none,none,none,none,[],[.ref c0],[],[([],t,none,[])],rfl,⟨k0,k4,.nil,Al.nil.snoc ⟨c0,p0,v,.non,b0,rfl,SqT.of k3,k1,ht.same sH,.inl ⟨rfl,rfl⟩,cp,bv,[],k2,.nil,by show 0<=1000;decide⟩,by simp[Ez,Fo],⟨[],by simp[Fx],rfl⟩,λx hx=>by rw[Py.mp hx];exact⟨hg,by cases t;simp[Cm,Cf],Pk _⟩,sH⟩,rfl⟩,?_⟩
  rintro m ae H1 ⟨y3,y4,y5,y6,y7,y8,y9,ag,aa,Z,fv,wv,dn,st,rfl,J,rfl⟩;obtain⟨dp,a6,a9⟩:=J.tl;have da:dn.length+L2.load (st.map Dl)=t.size:=by
   have:=congrArg Qx a6;rw[Pr,D5,a9]at this;exact this
  have dr:=J.af.1;left;refine D0 (SqL.of J.ew) ?_;left;by_cases cl:wv=[]
  ·subst cl;have dh:st=[]:=Re J.aw.1.symm;subst dh;refine iteF ?_;left;have eq:=J.eq;rw[List.reverse_nil,Ez,Qj]at eq;have af:=J.af;rw[eq]at af;exact q O fv H1 J.sm bb J.ef af
  obtain⟨ai,tp,U,x,rfl,rfl,cv,db⟩:=J.aw.last cl;have dq:decide ((0:Int)<((ai++[tp]).length:Int))=true:=decide_eq_true (by rw[Pr,Qg];lia);rw[dq];refine iteT ?_;obtain⟨pl,tx,ask,ar⟩:=x;obtain⟨gx,nx,lx⟩:=J.gd _ (Rh _ (Py.mpr rfl));have b3:(U++[(pl,tx,ask,ar)]).map Dl=U.map Dl++[(pl,tx)]:=by simp
  rw[b3]at a6 da;have hx:(pl,tx)∈walk [] t:=by rw[<- a6,K3];simp
  have dc:=hx;have d7:pl.length<=40:=by have:=Jt [] t _ hx;simp at this;lia
  have ax:=Zez (U.map Dl) (pl,tx);have c5:=Zhy (U.map Dl++(L2.kids pl 0 tx.ps).reverse);refine⟨λc6 H2=>∃m',m'<L2.load ((U++[(pl,tx,ask,ar)]).map Dl)/\eX14 λy3 y4 y5 y6 y7 y8 y9 ag aa Z fv wv dn st=>c6=[some v,some (.ref O),some (.ref I),y3,y4,y5,y6,y7,y8,y9,ag,aa,Z]/\RoJ K H t O I H2 fv wv dn st/\m'=L2.load (st.map Dl),λ_ _ h=>h,?_⟩;obtain⟨c,p,u,g,b,rfl,qc,qp,qu,qg,a7,a0,qb⟩:=db;left;refine B9 (SqL.of J.ew) ?_;refine Md J.ew ?_;have S1:Sy I O H1 (upd H1 I (.lst ai)):=Sy.setL J.ew;have ay:upd H1 I (.lst ai) I=some (.lst ai):=Ac;have ak:upd H1 I (.lst ai) O=some (.lst fv):=by rw[Ai bc];exact J.ef
  have bi:Same H (upd H1 I (.lst ai)):=J.sm.over ba;revert S1 ay ak bi;generalize upd H1 I (.lst ai)=H2;intro S1 ay ak bi;refine Dp (S1.t.tup qc) rfl ?_;have de:=qu.sameT S1.t;have bu:=(S1.t p).1 _ qp;have c7:=qg.same S1.t;have ce:=qb.sy a7 a0 S1;have lx:ar.length<=2*pl.length:=lx;have nx:ar.map (·.1)=Cm t pl:=nx;cases de with
  | @mk va pp wd nv nt us ts qv hn cg dv ck =>
  have cf:TrAt K H2 (.ref va) (.mk wd nt ts):=.mk qv hn cg dv ck;obtain⟨bj,c2,dw,gk⟩:=Zk9 gx;have ei:fv.length=dn.length:=dr;have bx:(2:Int)*((fv.length:Nat):Int)=((2*dn.length:Nat):Int):=by lia
  have cz:((2*dn.length:Nat):Int)+1=((2*dn.length+1:Nat):Int):=by lia
  left;refine D0 (SqL.of ak) ?_;left;rw[bx];refine⟨Bq,λa1 cs=>?_⟩;have s3:=Same.upd (o:=.tup [.str "any",.int ((2*dn.length:Nat):Int)]) cs;have k1:KdAt K (upd H2 a1 (.tup [.str "any",.int ((2*dn.length:Nat):Int)])) (.ref a1) (Ci dn.length):=.any (SqT.of Ac);revert s3 k1;generalize upd H2 a1 (.tup [.str "any",.int ((2*dn.length:Nat):Int)])=H3;intro s3 k1;left;refine D0 (SqL.of (s3 _ _ ak)) ?_;left;rw[bx,cz];refine⟨Bq,λa2 dl=>?_⟩;have s4:=Same.upd (o:=.tup [.str "any",.int ((2*dn.length+1:Nat):Int)]) dl;have k2:KdAt K (upd H3 a2 (.tup [.str "any",.int ((2*dn.length+1:Nat):Int)])) (.ref a2) (twoK dn.length):=.any (SqT.of Ac);revert s4 k2;generalize upd H3 a2 (.tup [.str "any",.int ((2*dn.length+1:Nat):Int)])=H4;intro s4 k2;have al:=s3.trans s4;have k1:=k1.same s4.t;have dm:=cf.same al;have bp:=al.tup qv;have b5:=ce.same al;have nd:∀(a b:Str),a≠b->decide (V.str a=V.str b)=false:=λa b h=>decide_eq_false λz=>h (V.str.inj z);have yd:∀(a b:Str),a=b->decide (V.str a=V.str b)=true:=λa b h=>decide_eq_true (by rw[h]);walk_at "q";refine Ds (t:=Dh _ _ _) (R:=λae H'=>H4=H'/\ae=[some v,some (.ref O),some (.ref I),some (.ref p),some (.ref va),some g,some (.ref b),some (.ref a1),some (.ref a2),some (.str (if wd="odd" then ("odd":Str) else ("":Str))),ag,aa,Z]) ?_ ?_
  ·intro Y hY;left;refine Ao bp (v:=.str wd) rfl ?_;left;by_cases c:wd="odd"
   ·rw[yd _ _ c];left;refine hY _ _ ⟨rfl,?_⟩;rw[if_pos c];rfl
   ·rw[nd _ _ c];left;refine hY _ _ ⟨rfl,?_⟩;rw[if_neg c];rfl
  rintro _ _ ⟨rfl,rfl⟩;walk_at "q";refine Ds (t:=Dh _ _ _) (R:=λae H'=>H4=H'/\ae=[some v,some (.ref O),some (.ref I),some (.ref p),some (.ref va),some g,some (.ref b),some (.ref a1),some (.ref a2),some (.str (Cg t pl (.mk wd nt ts) true)),ag,aa,Z]) ?_ ?_
  ·intro Y hY;have em:Cg t pl (.mk wd nt ts) true=(if wd="odd" then ("odd":Str) else if wd="name"/\Cc (Cz nt) 0 (Cm t pl)=none then ("free":Str) else ("":Str)):=rfl;left;refine Ao bp (v:=.str wd) rfl ?_;left;by_cases c:wd="name"
   ·rw[yd _ _ c];have c0:wd≠"odd":=λz=>by rw[c]at z;exact absurd z (by right)
    obtain⟨x,rfl⟩:=bj.1 (.inr (.inr c));obtain rfl:=Ob hn;have en:Cd ar x=none↔Cc x 0 (Cm t pl)=none:=by rw[Zpj,nx,Ziq]
    left;refine Ao bp (v:=.str x) rfl ?_;left;refine⟨x,b,ar,rfl,b5,λcu=>?_,λu k hl hu=>?_⟩
    ·left;rw[decide_eq_true (show V.non=V.non from rfl)];left;refine hY _ _ ⟨rfl,?_⟩;have e9:Cg t pl (.mk wd (.flat (.str x)) ts) true=("free":Str):=by rw[em,if_neg c0,if_pos ⟨c,en.mp cu⟩]
     rw[e9];rfl
    ·obtain⟨uc,rfl⟩:=hu.ref;left;rw[decide_eq_false (show ¬V.ref uc=V.non from λz=>by cases z)];left;refine hY _ _ ⟨rfl,?_⟩;have e9:Cg t pl (.mk wd (.flat (.str x)) ts) true=("":Str):=by rw[em,if_neg c0,if_neg (λz=>by have:=en.mpr z.2;rw[hl]at this;cases this)]
     rw[e9,if_neg c0]
   ·rw[nd _ _ c];left;refine hY _ _ ⟨rfl,?_⟩;have e9:Cg t pl (.mk wd nt ts) true=(if wd="odd" then ("odd":Str) else ("":Str)):=by
     rw[em];by_cases z:wd="odd"
     ·rw[if_pos z,if_pos z]
     ·rw[if_neg z,if_neg z,if_neg (λy=>c y.1)]
    rw[e9]
  rintro _ _ ⟨rfl,rfl⟩;have dy:=al _ _ ak;have ec:=al _ _ ay;left;refine B9 (SqL.of dy) ?_;left;refine⟨.ref va,.ref a1,.ref a2,b,wd,nt,ts,dn.length,ar,rfl,dm,bj,k1,k2,b5,λgv H5 s5 kg=>?_⟩;left;refine⟨Jy,λpc c4=>?_⟩;have s6:=Same.upd (o:=.tup [.ref p,gv,g,.str (Cg t pl (.mk wd nt ts) true)]) c4;have e6:upd H5 pc (.tup [.ref p,gv,g,.str (Cg t pl (.mk wd nt ts) true)]) pc=some (.tup [.ref p,gv,g,.str (Cg t pl (.mk wd nt ts) true)]):=Ac;revert s6 e6;generalize upd H5 pc (.tup [.ref p,gv,g,.str (Cg t pl (.mk wd nt ts) true)])=H6;intro s6 e6;have as:=al.trans (s5.trans s6);left;refine Cy (as _ _ ak) (by lia) ?_;have S7:Sy I O H6 (upd H6 O (.lst (fv++[.ref pc]))):=Sy.setR (as _ _ ak);have bh:upd H6 O (.lst (fv++[.ref pc])) O=some (.lst (fv++[.ref pc])):=Ac;have bo:upd H6 O (.lst (fv++[.ref pc])) I=some (.lst ai):=by rw[Ai bc.symm];exact as _ _ ay
  have bt:Same H (upd H6 O (.lst (fv++[.ref pc]))):=(bi.trans as).over bb;revert S7 bh bo bt;generalize upd H6 O (.lst (fv++[.ref pc]))=H7;intro S7 bh bo bt;have ah:Sy I O H2 H7:=(Sy.of as).trans S7;have b8:Sy I O H4 H7:=(Sy.of (s5.trans s6)).trans S7;have ch:=S1.trans ah;have dz:Al (LkAt K H7) (fv++[.ref pc]) (dn++[(pl,Bx wd nt dn.length ar,ask,Cg t pl (.mk wd nt ts) true)]):=(J.af.mono (LkAt.same ch.t)).snoc ⟨pc,p,gv,g,rfl,S7.t.tup (SqT.of e6),(ah.t p).1 _ bu,(kg.same s6.t).same S7.t,c7.same ah.t⟩;have c9:=cv.mono (EoAt.sy ch);have c3:=(ah.t p).1 _ bu;have be:=ah.t.tup qv;have aq:=ah.t.tup cg;have cm:=cf.sameT ah.t;have ci:=k1.same b8.t;have cn:=k2.same b8.t;have di:=ce.sy a7 a0 ah;have cy:(Du pl wd nt dn.length ar 0 ts).length=us.length:=by rw[Ziz];lia
  have d6:U.length+us.length<=2000:=by
   have h1:L2.load (U.map Dl++(L2.kids pl 0 ts).reverse)<L2.load (U.map Dl++[(pl,Tr.mk wd nt ts)]):=ax;have h2:(U.map Dl++(L2.kids pl 0 ts).reverse).length<=L2.load (U.map Dl++(L2.kids pl 0 ts).reverse):=c5;rw[Pr,Ub,Pp,N9]at h2;lia
  left;refine Ao be (v:=.ref pp) rfl ?_;left;refine Iy aq ?_;left;refine⟨by lia,by lia,?_⟩;refine L0 (n:=((us.length:Nat):Int).toNat) (λj ae H'=>eX4 λag aa Z aj=>ae=[some v,some (.ref O),some (.ref I),some (.ref p),some (.ref va),some g,some (.ref b),some (.ref a1),some (.ref a2),some (.str (Cg t pl (.mk wd nt ts) true)),ag,aa,Z]/\H' O=some (.lst (fv++[.ref pc]))/\H' I=some (.lst aj)/\Al (EoAt K I O H') aj (U++((Du pl wd nt dn.length ar 0 ts).drop (us.length-j)).reverse)/\Sy I O H7 H'/\Same H H')
   ⟨_,_,_,ai,rfl,bh,bo,by rw[Uv,Tx (by lia)];simpa using c9,.of (Same.refl _),bt⟩ ?_ ?_
  ·rintro i ae H8 hi ⟨ag,aa,Z,aj,rfl,a3,ao,av,S8,bf⟩;have hi:i<us.length:=by rw[Sm]at hi;exact hi
   left;refine Ao (S8.t.tup be) (v:=.ref pp) rfl ?_;left;refine Iy (S8.t.tup aq) ?_
   iterate 4 walk_at "r1"
   have ea:((us.length:Nat):Int)-1-(0+((i:Nat):Int))=((us.length-1-i:Nat):Int):=by lia
   rw[ea];obtain⟨j,hj⟩:∃j,us.length-1-i=j:=⟨_,rfl⟩;rw[hj];have cx:j<us.length:=by lia
   obtain⟨uj,b4⟩:∃uj,us[j]?=some uj:=⟨_,Pj cx⟩;obtain⟨tj,cj⟩:∃tj,ts[j]?=some tj:=⟨_,Pj (by lia)⟩;have d8:(Bj wd dn.length).length=ts.length:=by rw[Za0 dw,c2]
   obtain⟨kj,a8⟩:∃kj,(Bj wd dn.length)[j]?=some kj:=⟨_,Pj (by lia)⟩;left;refine⟨.ref va,.ref a1,.ref a2,wd,nt,ts,dn.length,rfl,cm.sameT S8.t,ci.same S8.t,cn.same S8.t,(λz=>by rw[z]at a8;simp at a8),λcw uw H9 s9 df bw=>?_⟩;obtain⟨wj,cq⟩:∃wj,uw[j]?=some wj:=⟨_,Pj (by rw[bw.1];lia)⟩;have kw:=bw.2 j wj kj cq a8;left;refine Ba (SqL.of df) (C2 cq) ?_;left;refine B9 (SqL.of (s9 _ _ ao)) ?_;left;refine⟨B5,λp8 h8=>?_⟩;have bq:=Same.upd (o:=.tup [.int ((j:Nat):Int)]) h8;refine .inr ⟨p,p8,_,_,rfl,rfl,bq _ _ (s9 _ _ ((S8.t p).1 _ c3)),Ac,by show(Bv pl).length+1<=sizeLine;unfold Bv;rw[Pp];lia,λpa HA sA b9=>?_⟩;have an:=s9.trans (bq.trans sA);rw[<- Zhz]at b9;left;refine Ao (an.tup (S8.t.tup be)) (v:=.ref pp) rfl ?_;left;refine Ao (an.tup (S8.t.tup aq)) (v:=uj) (C2 b4) ?_;left;have a5:Sy I O H7 HA:=S8.trans (.of an);refine⟨.ref va,.ref a1,.ref a2,j,b,wd,nt,ts,dn.length,ar,rfl,cm.sameT a5.t,bj,ci.same a5.t,cn.same a5.t,di.sy a7 a0 a5,by lia,λcb HB sB am c8=>?_⟩;have cr:=an.trans sB;have du:cb≠I:=by
    rcases am with rfl|am
    ·exact a7
    ·exact(A6 (an _ _ ao) am).symm
   have dj:cb≠O:=by
    rcases am with rfl|am
    ·exact a0
    ·exact(A6 (an _ _ a3) am).symm
   left;refine⟨Jy,λpC hC=>?_⟩;have sC:=Same.upd (o:=.tup [.ref pa,uj,wj,.ref cb]) hC;have ap:=cr.trans sC;have ee:aj.length=U.length+((Du pl wd nt dn.length ar 0 ts).drop (us.length-i)).length:=by have:=av.1;simp at this ⊢;lia
   have eb:((Du pl wd nt dn.length ar 0 ts).drop (us.length-i)).length<=us.length:=by rw[Ug];lia
   left;refine Cy (ap _ _ ao) (by lia) ?_;have SL:Sy I O (upd HB pC (.tup [.ref pa,uj,wj,.ref cb])) (upd (upd HB pC (.tup [.ref pa,uj,wj,.ref cb])) I (.lst (aj++[.ref pC]))):=Sy.setL (ap _ _ ao);have ca:Sy I O H8 _:=(Sy.of ap).trans SL;have au:=Zb7 pl wd nt dn.length ar ts 0 j tj cj;rw[Rc,a8]at au;left;refine⟨_,_,_,aj++[.ref pC],rfl,by rw[Ai bc];exact ap _ _ a3,Ac,?_,S8.trans ca,(bf.trans ap).over ba⟩;rw[<- hj]at au;rw[Zdd cy hi au,hj,<- Qi];refine(av.mono (EoAt.sy ca)).snoc (EoAt.sy SL _ _ ⟨pC,pa,uj,wj,cb,rfl,SqT.of Ac,(sB.trans sC) _ _ b9,?_,.inr ⟨kj,rfl,kw.same ((bq.trans sA).trans (sB.trans sC)).t⟩,du,dj,c8.same sC⟩);exact((((ck _ _ _ b4 cj).sameT ah.t).sameT S8.t).same ap)
  ·rintro ae H8 ⟨ag,aa,Z,aj,rfl,a3,ao,av,S8,bf⟩;rw[Sm,Sf,Uq]at av;have b6:(U++(Du pl wd nt dn.length ar 0 ts).reverse).map Dl=U.map Dl++(L2.kids pl 0 ts).reverse:=by rw[Qv,List.map_reverse,O0]
   refine⟨_,by rw[b3];exact ax,_,_,_,_,_,_,_,_,_,_,fv++[.ref pc],aj,_,_,rfl,⟨a3,ao,dz.mono (LkAt.same S8.t),av,?_,?_,?_,bf⟩,by rw[b6];rfl⟩
   ·rw[<- J.eq,Vd,Vd,List.reverse_reverse,List.reverse_singleton,Pr,Qg,Qi]
    congr 1
    show _::_=Ez t dn.length ((pl,.mk wd nt ts,ask,ar)::U.reverse);rw[Zk6];rfl
   ·refine⟨dp++[(pl,.mk wd nt ts)],?_,by simp[a9]⟩;rw[b6,<- a6,K3,Qi];rfl
   ·intro x hx;rcases P3.mp hx with hx|hx
    ·exact J.gd x (Rr _ hx)
    ·rw[List.mem_reverse]at hx;obtain⟨k,hk,e⟩:=Wg hx;have cc:k<ts.length:=by rw[Ziz]at hk;exact hk
     have hg:=Zb7 pl wd nt dn.length ar ts 0 k _ (Pj cc);rw[Pj hk,e,Rc]at hg;cases hg;refine⟨gk _ (Q4 cc),Zrf _ _ nx dc,?_⟩;have:=Zka wd nt dn.length k ar;show(Fc wd nt dn.length k ar).length<=2*(pl++[k]).length;rw[Pr,Qg];lia
theorem Ct {H:Hp}{a p:Addr}{w:Str}{nv:V}{n:Dt}{vs:List V}{ts:List Tr}(e:H a=some (.tup [.str w,nv,.ref p]))(hn:IsN K H nv n)(ep:H p=some (.tup vs))(al:Al (TrAt K H) vs ts):TrAt K H (.ref a) (.mk w n ts):=.mk (SqT.of e) hn (SqT.of ep) al.1 al.2
theorem gt0 {w:Str}{n:Dt}(hw:C0 w n)(hd:w∈Ec)(hl:Df w=0):GT (.mk w n []):=Hn hw hd hl.symm λt h=>nomatch h
theorem gt1 {w:Str}{n:Dt}{a:Tr}(hw:C0 w n)(hd:w∈Ec)(hl:Df w=1)(ha:GT a):GT (.mk w n [a]):=Hn hw hd hl.symm λt h=>by rw[Py.mp h];exact ha
theorem Ia {w:Str}{n:Dt}{a b:Tr}(hw:C0 w n)(hd:w∈Ec)(hl:Df w=2)(ha:GT a)(hb:GT b):GT (.mk w n [a,b]):=Hn hw hd hl.symm λt h=>by
 rcases Pm.mp h with rfl|h
 ·exact ha
 ·rw[Py.mp h];exact hb
theorem gt3 {w:Str}{n:Dt}{a b c:Tr}(hw:C0 w n)(hd:w∈Ec)(hl:Df w=3)(ha:GT a)(hb:GT b)(hc:GT c):GT (.mk w n [a,b,c]):=Hn hw hd hl.symm λt h=>by
 rcases Pm.mp h with rfl|h
 ·exact ha
 rcases Pm.mp h with rfl|h
 ·exact hb
 ·rw[Py.mp h];exact hc
theorem Zi3 {α:Type}{l:List α}(h:l.length=8):eX8 λa b c d e f g i=>l=[a,b,c,d,e,f,g,i]:=by
 match l,h with
 |[a,b,c,d,e,f,g,i],_=>exact⟨a,b,c,d,e,f,g,i,rfl⟩
inductive Jbit (K:Ph)(vs:List V)(H:Hp)(Q:VK)(e9:XK):Prop
 |mk (c:Int) (b:Addr) (ts:List Str) (_:vs=[.int c,.ref b]) (_:H b=some (.lst (ts.map V.str))) (_:ts.length=8) (_:∀(v:V)(t:Tr)(H':Hp),Same H H'->TrAt K H' v t->GT t->t.size<=1->Q v H')
def Oz (K:Ph):Sp:=Jbit K
theorem Znr:Bm ["_law_cell","_law_names_here"] ["_law_cell","_law_names_here"] (Bh Km):=by walk_at "sc"
theorem Zo4 (F:Fun K "_law_bit" "_law_bit" Km f fd)(T:Txt K mg):A8 P w K mg base A9 1 f fd ["_law_cell","_law_names_here"] (Oz K):=by
 refine F.okq Znr (λvs H Q E h=>?_) (λaa A outer s H vs Q E hr h=>?_)
 ·obtain⟨c,b,ts,rfl,_⟩:=h;rfl
 ·obtain⟨c,b,ts,rfl,eb,hl,q⟩:=h;refine⟨_,Ae (Au (Aw Kk (A4 B7 (qv 0) Ad) Ad (A0 _)) (Ag (Ar (Ak (Aa Aj (Aa (Ah K (qv 1) (A4 (D7 K) Ad (A4 B7 (qv 0) Ad))) (Aa (Ak Ab) Ab)))))) Ay)
   (Ae (Au (Aw Kk (A4 B7 (qv 0) Ad) Ad (A0 _)) (Ag (Ar (Ak (Aa Aj (Aa (A4 B7 (A4 D8 (qv 0) Ad) (A4 Zjg Ad Ad)) (Aa (Ak Ab) Ab)))))) Ay)
   (Ae (Au (Aw Kk (A4 B7 (qv 0) Ad) Ad (A0 _)) (Ag (Ar (Ak (Aa Aj (Aa (Gu (Bf K hr.u200) (A4 B7 (A4 D8 (qv 0) Ad) Ad) Ad (A0 _)) (Aa (Ak Ab) Ab)))))) Ay)
   (Ag (Ar (Ak (Aa Aj (Aa C8 (Aa (Ak Ab) Ab)))))))),?_⟩
  have bg:=big;have O:∀(w:Str)(Y:V),C5 Y=true->GT (.mk w (.flat Y) [])->∀p,H p=none->∀p2,upd H p (.tup []) p2=none->Q (.ref p2) (upd (upd H p (.tup [])) p2 (.tup [.str w,Y,.ref p])):=by
   intro w Y hf hs p U p2 I;have Z:=Same.upd (o:=.tup [.str w,Y,.ref p]) I;exact q _ (.mk w (.flat Y) []) _ ((Same.upd U).trans Z) (Ct Ac (.inl ⟨hf,rfl⟩) (Z _ _ Ac) .nil) hs (by rw[Kg];exact Pk _)
  left;refine Bk (λc1=>?_) (λ_=>?_)
  ·have c1:=of_decide_eq_true c1;left;obtain⟨v,hv,m⟩:=Ge (xs:=ts.map V.str) (i:=3+c % 9) (by lia) (by rw[Pp,hl];lia);obtain⟨x,_,rfl⟩:=Q7.mp m;refine Ba (SqL.of eb) hv ?_;left;refine⟨Bo,λp U=>?_⟩;left;refine⟨Bg,λp2 I=>?_⟩;exact O "name" (.str x) rfl Og p U p2 I
  left;refine Bk (λ_=>?_) (λ_=>?_)
  ·left;refine⟨Bo,λp U=>?_⟩;left;refine⟨Bg,λp2 I=>?_⟩;exact O "num" _ rfl (Gv (.inr (.inr (.inl rfl)))) p U p2 I
  left;refine Bk (λ_=>?_) (λ_=>?_)
  ·left;refine⟨Bo,λp U=>?_⟩;left;refine⟨Bg,λp2 I=>?_⟩;exact O "truth" _ rfl (Gv (.inr (.inr (.inr rfl)))) p U p2 I
  left;refine⟨Bo,λp U=>?_⟩;left;refine⟨Bg,λp2 I=>?_⟩;exact O "gap" .non rfl (Gv (.inl rfl)) p U p2 I
inductive Jtwo (K:Ph)(vs:List V)(H:Hp)(Q:VK)(e9:XK):Prop
 |mk (a b:Addr) (ts:List Str) (_:vs=[.ref a,.ref b]) (_:Script K H a) (_:H b=some (.lst (ts.map V.str))) (_:ts.length=8) (_:∀(v:V)(t:Tr)(H':Hp),Same H H'->TrAt K H' v t->GT t->t.size<=40->Q v H')
def Zhv (K:Ph):Sp:=Jtwo K
theorem Zow:(["_law_k","_law_names_here","_law_script"]:List Str).Nodup:=by right
theorem Zog:(["_law_k","_law_names_here"]:List Str).Nodup:=by right
theorem sc_law_two:Bm ["_law_script","_law_names_here","_law_bits","_law_use","_law_choice","_law_calls","_law_last"] ["_law_script","_law_names_here"] (Bh L1):=by walk_at "sc"
theorem Zls (F:Fun K "_law_two" "_law_two" L1 f fd)(T:Txt K mg)(C__law_cell_at:A7 P w K mg base 1 "_law_cell_at" ["_law_script","_law_k"] (Nq K))(C__law_bit:A7 P w K mg base 1 "_law_bit" ["_law_cell","_law_names_here"] (Oz K)):A8 P w K mg base A9 2 f fd ["_law_script","_law_names_here"] (Zhv K):=by
 refine F.okq sc_law_two (λvs H Q E h=>?_) (λgk A outer s H vs Q E hr h=>?_)
 ·obtain⟨a,b,ts,rfl,_⟩:=h;rfl
 ·obtain⟨a,b,ts,rfl,Sc,Z,hl,q⟩:=h;refine⟨_,Ae (Ly (i:=2) (N:=["_law_k","_law_names_here","_law_script"]) (σ0:=Dr 1 [1,0]) rfl (E7 rfl (by right) (by right) (by right)) (Gg rfl T.range (Aa Ad Ab)) (E5 rfl (by rfl)) (λ_ _ _ _=>Bb (i:=0) Zow rfl (Or.inl rfl)) (λ_ _ _ _=>Fy) (λ_ _ _ _=>A5 C__law_bit hr.m (Aa (A5 C__law_cell_at hr.m (Aa (qv 2) (Aa (A4 (D7 K) Ad (qv 0)) Ab))) (Aa (qv 1) Ab))) sc_law_two.nd rfl (Or.inl rfl))
   (Ae (Ly (i:=3) (N:=["_law_k","_law_names_here"]) (σ0:=Dr 1 [1]) rfl (E7 rfl (by right) (by right) (by right)) (Gg rfl T.range (Aa Ad Ab)) (E5 rfl (by rfl)) (λ_ _ _ _=>Bb (i:=0) Zog rfl (Or.inl rfl)) (λ_ _ _ _=>Fy) (λ_ _ _ _=>Ak (Aa Aj (Aa (Ah K (qv 1) (qv 0)) (Aa (Ak Ab) Ab)))) sc_law_two.nd rfl (Or.inl rfl))
   (Ae (As 4 sc_law_two (Ak (Aa Aj (Aa C8 (Aa (Ak (Aa (Ak (Aa Aj (Aa C8 (Aa (Ak Ab) Ab)))) (Aa (Ah K (qv 3) Ad) (Aa (Ah K (qv 3) Ad) Ab)))) Ab)))))
   (Ae (As 5 sc_law_two (Ak (Aa Aj (Aa C8 (Aa (Ak (Aa (Ak (Aa Aj (Aa C8 (Aa (Ak Ab) Ab)))) (Aa (Ak (Aa Aj (Aa C8 (Aa (Ak (Aa (Ah K (qv 3) Ad) (Aa (Ah K (qv 2) Ad) Ab))) Ab)))) (Aa (Ak (Aa Aj (Aa C8 (Aa (Ak (Aa (Ah K (qv 3) Ad) (Aa (Ah K (qv 2) Ad) Ab))) Ab)))) Ab)))) Ab)))))
   (Ae (As 6 sc_law_two (Ak (Aa Aj (Aa (Ah K (qv 1) Ad) (Aa (Ak (Aa (Ak (Aa Aj (Aa (Ah K (qv 1) Ad) (Aa (Ak (Aa (Ah K (qv 2) Ad) Ab)) Ab)))) (Aa (Ak (Aa Aj (Aa (Ah K (qv 1) Ad) (Aa (Ak (Aa (qv 4) (Aa (qv 5) Ab))) Ab)))) Ab))) Ab)))))
   (Ag (Ar (Ak (Aa Aj (Aa (Ah K (qv 1) Ad) (Aa (Ak (Aa (Ak (Aa Aj (Aa (Ah K (qv 1) Ad) (Aa (Ak (Aa (Ah K (qv 2) Ad) Ab)) Ab)))) (Aa (qv 6) Ab))) Ab)))))))))),?_⟩
  have bg:=big;left;refine⟨by decide,by decide,λD hD=>?_⟩;refine Kw (n:=4) (Pv:=λi ys b0 H'=>∃x0 us,b0=[x0,some (.ref b),some (.ref a)]/\Al (TrAt K H') ys us/\us.length=i/\(∀t∈us,GT t/\t.size<=1)/\Same H H') ⟨none,[],rfl,.nil,rfl,(λt h=>nomatch h),Same.upd hD⟩ ?_ ?_
  ·rintro i ys b0 H' hi bu ⟨x0,us,rfl,al,hu,hg,sm⟩;left;refine⟨a,_,rfl,Sc.same sm,by lia,λz=>?_⟩;left;refine⟨z,b,ts,rfl,sm _ _ Z,hl,λv t H2 s2 ht gt sz=>?_⟩;have t6:SameT H' (upd H2 D (.lst (ys++[v]))):=s2.t.trans (SameT.set (s2 _ _ bu));refine⟨ys,s2 _ _ bu,by rw[al.1,hu];lia,_,Ac,_,us++[t],rfl,(al.mono λ_ _ h=>h.sameT t6).snoc (ht.sameT (SameT.set (s2 _ _ bu))),by simp[hu],λx hx=>?_,(sm.trans s2).over hD⟩;rcases P3.mp hx with hx|hx
   ·exact hg x hx
   ·rw[Py.mp hx];exact⟨gt,sz⟩
  rintro ys b0 H1 eB ⟨x0,us,rfl,al,hu,hg,S⟩;have cp:=al.1
  match us,hu,ys,cp with
  |[t1,t2,t3,t4],_,[v1,v2,v3,v4],_ =>
   obtain⟨G1,Z1⟩:=hg t1 (by simp);obtain⟨G2,Z2⟩:=hg t2 (by simp);obtain⟨G3,Z3⟩:=hg t3 (by simp);obtain⟨G4,Z4⟩:=hg t4 (by simp);have T1:=al.2 0 _ _ rfl rfl;have T2:=al.2 1 _ _ rfl rfl;have T3:=al.2 2 _ _ rfl rfl;have T4:=al.2 3 _ _ rfl rfl;have Z:=S _ _ Z;obtain⟨n0,n1,n2,n3,n4,n5,n6,n7,rfl⟩:=Zi3 hl;have Z:H1 b=some (.lst [.str n0,.str n1,.str n2,.str n3,.str n4,.str n5,.str n6,.str n7]):=Z;clear al hg;left;refine⟨by decide,by decide,λD2 eo=>?_⟩;refine Kw (n:=2) (Pv:=λi ys b0 H'=>∃x0,b0=[x0,some (.ref b)]/\Al (TrAt K H') ys (([Tr.mk "name" (.flat (.str n0)) [],Tr.mk "name" (.flat (.str n1)) []]).take i)/\Same H1 H') ⟨none,rfl,.nil,Same.upd eo⟩ ?_ ?_
   ·rintro i ys b0 H' hi bu ⟨x0,rfl,al,sm⟩;have cp:ys.length=i:=by have:=al.1;rw[Qb]at this;simp at this;lia
    obtain⟨x,hx,ht⟩:∃x,[n0,n1,n2,n3,n4,n5,n6,n7][i]?=some x/\([Tr.mk "name" (.flat (.str n0)) [],Tr.mk "name" (.flat (.str n1)) []])[i]?=some (Tr.mk "name" (.flat (.str x)) []):=by
     match i,hi with
     |0,_=>exact⟨_,rfl,rfl⟩
     |1,_=>exact⟨_,rfl,rfl⟩
    left;refine Ba (xs:=[.str n0,.str n1,.str n2,.str n3,.str n4,.str n5,.str n6,.str n7]) (v:=.str x) (SqL.of (sm _ _ Z)) (by rw[Int.zero_add];exact C2 (by
     match i,hi,hx with
     |0,_,hx=>cases hx;rfl
     |1,_,hx=>cases hx;rfl)) ?_
    left;refine⟨Bo,λp hp=>?_⟩;left;refine⟨Bg,λp2 f9=>?_⟩;have r1:=Same.upd (o:=.tup []) hp;have r2:=Same.upd (o:=.tup [.str "name",.str x,.ref p]) f9;have cb:=r1.trans r2;have tt:TrAt K (upd (upd H' p (.tup [])) p2 (.tup [.str "name",.str x,.ref p])) (.ref p2) (.mk "name" (.flat (.str x)) []):=Ct Ac (.inl ⟨rfl,rfl⟩) (r2 _ _ Ac) .nil;have t6:SameT H' (upd (upd (upd H' p (.tup [])) p2 (.tup [.str "name",.str x,.ref p])) D2 (.lst (ys++[.ref p2]))):=cb.t.trans (SameT.set (cb _ _ bu));refine⟨ys,cb _ _ bu,by lia,_,Ac,_,rfl,?_,(sm.trans cb).over eo⟩;rw[Qq,ht];exact(al.mono λ_ _ h=>h.sameT t6).snoc (tt.sameT (SameT.set (cb _ _ bu)))
   rintro ys b0 H2 eU ⟨x0,rfl,al,s2⟩;have cp:=al.1
   match ys,cp with
   |[u0,u1],_ =>
   have T5:=al.2 0 _ _ rfl rfl;have T6:=al.2 1 _ _ rfl rfl;have G5:GT (Tr.mk "name" (.flat (.str n0)) []):=Og;have G6:GT (Tr.mk "name" (.flat (.str n1)) []):=Og;have Z5:(Tr.mk "name" (.flat (.str n0)) []).size<=1:=by rw[Kg];exact Pk _
   have Z6:(Tr.mk "name" (.flat (.str n1)) []).size<=1:=by rw[Kg];exact Pk _
   obtain⟨t5,ei⟩:∃x,x=Tr.mk "name" (.flat (.str n0)) []:=⟨_,rfl⟩;rw[<- ei]at T5 G5 Z5;obtain⟨t6,fb⟩:∃x,x=Tr.mk "name" (.flat (.str n1)) []:=⟨_,rfl⟩;rw[<- fb]at T6 G6 Z6;clear al ei fb;have Z:=s2 _ _ Z;have eB:=s2 _ _ eB;have T1:=T1.same s2;have T2:=T2.same s2;have T3:=T3.same s2;have T4:=T4.same s2;have S:=S.trans s2;left;refine⟨Bo,λb4 fc=>?_⟩;have a9:=Same.upd (o:=.tup []) fc;have cf:=@Ac H2 b4 (.tup []);revert a9 cf;generalize upd H2 b4 (.tup [])=ev;revert ev;refine id ?_;intro ev a9 cf;clear fc;have T1:=T1.same a9;have T2:=T2.same a9;have T3:=T3.same a9;have T4:=T4.same a9;have T5:=T5.same a9;have T6:=T6.same a9;have Z:=a9 _ _ Z;have eB:=a9 _ _ eB;have eU:=a9 _ _ eU;have S:=S.trans a9;left;refine⟨Bg,λbf e1=>?_⟩;have a8:=Same.upd (o:=.tup [.str "gap",.non,.ref b4]) e1;have di:=@Ac ev bf (.tup [.str "gap",.non,.ref b4]);revert a8 di;generalize upd ev bf (.tup [.str "gap",.non,.ref b4])=dm;revert dm;refine id ?_;intro dm a8 di;clear e1;have T1:=T1.same a8;have T2:=T2.same a8;have T3:=T3.same a8;have T4:=T4.same a8;have T5:=T5.same a8;have T6:=T6.same a8;have Z:=a8 _ _ Z;have eB:=a8 _ _ eB;have eU:=a8 _ _ eU;have cf:=a8 _ _ cf;have S:=S.trans a8;have I:TrAt K dm (.ref bf) (.mk "gap" (.flat (.non)) []:Tr):=Ct di (.inl ⟨rfl,rfl⟩) cf .nil;have fa:GT (.mk "gap" (.flat (.non)) []:Tr):=gt0 (Gw (by right) (by right) (by right) (by right)) (by right) (by right);have gh:(.mk "gap" (.flat (.non)) []:Tr).size<=1:=by
    rw[Tr.size,Ax];lia
   obtain⟨c2,c8⟩:∃x,x=(.mk "gap" (.flat (.non)) []:Tr):=⟨_,rfl⟩;rw[<- c8]at I fa gh;clear c8;left;refine Ba (SqL.of eU) (v:=u0) rfl ?_;left;refine Ba (SqL.of eU) (v:=u1) rfl ?_;left;refine⟨Bg,λbt fi=>?_⟩;have a7:=Same.upd (o:=.tup [.ref bf,u0,u1]) fi;have cg:=@Ac dm bt (.tup [.ref bf,u0,u1]);revert a7 cg;generalize upd dm bt (.tup [.ref bf,u0,u1])=eh;revert eh;refine id ?_;intro eh a7 cg;clear fi;have T1:=T1.same a7;have T2:=T2.same a7;have T3:=T3.same a7;have T4:=T4.same a7;have T5:=T5.same a7;have T6:=T6.same a7;have I:=I.same a7;have Z:=a7 _ _ Z;have eB:=a7 _ _ eB;have eU:=a7 _ _ eU;have S:=S.trans a7;left;refine⟨Bg,λbb e0=>?_⟩;have a4:=Same.upd (o:=.tup [.str "if",.non,.ref bt]) e0;have dq:=@Ac eh bb (.tup [.str "if",.non,.ref bt]);revert a4 dq;generalize upd eh bb (.tup [.str "if",.non,.ref bt])=eb;revert eb;refine id ?_;intro eb a4 dq;clear e0;have T1:=T1.same a4;have T2:=T2.same a4;have T3:=T3.same a4;have T4:=T4.same a4;have T5:=T5.same a4;have T6:=T6.same a4;have I:=I.same a4;have Z:=a4 _ _ Z;have eB:=a4 _ _ eB;have eU:=a4 _ _ eU;have cg:=a4 _ _ cg;have S:=S.trans a4;have O:TrAt K eb (.ref bb) (.mk "if" (.flat (.non)) [c2,t5,t6]:Tr):=Ct dq (.inl ⟨rfl,rfl⟩) cg (((Al.nil.snoc I).snoc T5).snoc T6);have er:GT (.mk "if" (.flat (.non)) [c2,t5,t6]:Tr):=gt3 (Gw (by right) (by right) (by right) (by right)) (by right) (by right) fa G5 G6;have gg:(.mk "if" (.flat (.non)) [c2,t5,t6]:Tr).size<=4:=by
    rw[Tr.size,Ax,Ax,Ax,Ax];lia
   obtain⟨cx,c4⟩:∃x,x=(.mk "if" (.flat (.non)) [c2,t5,t6]:Tr):=⟨_,rfl⟩;rw[<- c4]at O er gg;clear c4;left;refine⟨Bo,λbx fp=>?_⟩;have a5:=Same.upd (o:=.tup []) fp;have ck:=@Ac eb bx (.tup []);revert a5 ck;generalize upd eb bx (.tup [])=e5;revert e5;refine id ?_;intro e5 a5 ck;clear fp;have T1:=T1.same a5;have T2:=T2.same a5;have T3:=T3.same a5;have T4:=T4.same a5;have T5:=T5.same a5;have T6:=T6.same a5;have I:=I.same a5;have O:=O.same a5;have Z:=a5 _ _ Z;have eB:=a5 _ _ eB;have eU:=a5 _ _ eU;have S:=S.trans a5;left;refine⟨Bg,λbj e2=>?_⟩;have a3:=Same.upd (o:=.tup [.str "gap",.non,.ref bx]) e2;have ee:=@Ac e5 bj (.tup [.str "gap",.non,.ref bx]);revert a3 ee;generalize upd e5 bj (.tup [.str "gap",.non,.ref bx])=dg;revert dg;refine id ?_;intro dg a3 ee;clear e2;have T1:=T1.same a3;have T2:=T2.same a3;have T3:=T3.same a3;have T4:=T4.same a3;have T5:=T5.same a3;have T6:=T6.same a3;have I:=I.same a3;have O:=O.same a3;have Z:=a3 _ _ Z;have eB:=a3 _ _ eB;have eU:=a3 _ _ eU;have ck:=a3 _ _ ck;have S:=S.trans a3;have U:TrAt K dg (.ref bj) (.mk "gap" (.flat (.non)) []:Tr):=Ct ee (.inl ⟨rfl,rfl⟩) ck .nil;have ez:GT (.mk "gap" (.flat (.non)) []:Tr):=gt0 (Gw (by right) (by right) (by right) (by right)) (by right) (by right);have gc:(.mk "gap" (.flat (.non)) []:Tr).size<=1:=by
    rw[Tr.size,Ax];lia
   obtain⟨cq,c7⟩:∃x,x=(.mk "gap" (.flat (.non)) []:Tr):=⟨_,rfl⟩;rw[<- c7]at U ez gc;clear c7;left;refine Ba (SqL.of eU) (v:=u0) rfl ?_;left;refine Ba (SqL.of eB) (v:=v3) rfl ?_;left;refine⟨Bq,λb5 ff=>?_⟩;have a0:=Same.upd (o:=.tup [u0,v3]) ff;have ce:=@Ac dg b5 (.tup [u0,v3]);revert a0 ce;generalize upd dg b5 (.tup [u0,v3])=e6;revert e6;refine id ?_;intro e6 a0 ce;clear ff;have T1:=T1.same a0;have T2:=T2.same a0;have T3:=T3.same a0;have T4:=T4.same a0;have T5:=T5.same a0;have T6:=T6.same a0;have I:=I.same a0;have O:=O.same a0;have U:=U.same a0;have Z:=a0 _ _ Z;have eB:=a0 _ _ eB;have eU:=a0 _ _ eU;have S:=S.trans a0;left;refine⟨Bg,λbe eu=>?_⟩;have ax:=Same.upd (o:=.tup [.str "call",.non,.ref b5]) eu;have d7:=@Ac e6 be (.tup [.str "call",.non,.ref b5]);revert ax d7;generalize upd e6 be (.tup [.str "call",.non,.ref b5])=dw;revert dw;refine id ?_;intro dw ax d7;clear eu;have T1:=T1.same ax;have T2:=T2.same ax;have T3:=T3.same ax;have T4:=T4.same ax;have T5:=T5.same ax;have T6:=T6.same ax;have I:=I.same ax;have O:=O.same ax;have U:=U.same ax;have Z:=ax _ _ Z;have eB:=ax _ _ eB;have eU:=ax _ _ eU;have ce:=ax _ _ ce;have S:=S.trans ax;have Y:TrAt K dw (.ref be) (.mk "call" (.flat (.non)) [t5,t3]:Tr):=Ct d7 (.inl ⟨rfl,rfl⟩) ce ((Al.nil.snoc T5).snoc T3);have fy:GT (.mk "call" (.flat (.non)) [t5,t3]:Tr):=Ia (Gw (by right) (by right) (by right) (by right)) (by right) (by right) G5 G3;have gb:(.mk "call" (.flat (.non)) [t5,t3]:Tr).size<=3:=by
    rw[Tr.size,Ax,Ax,Ax];lia
   obtain⟨cu,c5⟩:∃x,x=(.mk "call" (.flat (.non)) [t5,t3]:Tr):=⟨_,rfl⟩;rw[<- c5]at Y fy gb;clear c5;left;refine Ba (SqL.of eU) (v:=u1) rfl ?_;left;refine Ba (SqL.of eB) (v:=v4) rfl ?_;left;refine⟨Bq,λb7 e8=>?_⟩;have ay:=Same.upd (o:=.tup [u1,v4]) e8;have cl:=@Ac dw b7 (.tup [u1,v4]);revert ay cl;generalize upd dw b7 (.tup [u1,v4])=fx;revert fx;refine id ?_;intro fx ay cl;clear e8;have T1:=T1.same ay;have T2:=T2.same ay;have T3:=T3.same ay;have T4:=T4.same ay;have T5:=T5.same ay;have T6:=T6.same ay;have I:=I.same ay;have O:=O.same ay;have U:=U.same ay;have Y:=Y.same ay;have Z:=ay _ _ Z;have eB:=ay _ _ eB;have eU:=ay _ _ eU;have S:=S.trans ay;left;refine⟨Bg,λbo fj=>?_⟩;have au:=Same.upd (o:=.tup [.str "call",.non,.ref b7]) fj;have dz:=@Ac fx bo (.tup [.str "call",.non,.ref b7]);revert au dz;generalize upd fx bo (.tup [.str "call",.non,.ref b7])=dv;revert dv;refine id ?_;intro dv au dz;clear fj;have T1:=T1.same au;have T2:=T2.same au;have T3:=T3.same au;have T4:=T4.same au;have T5:=T5.same au;have T6:=T6.same au;have I:=I.same au;have O:=O.same au;have U:=U.same au;have Y:=Y.same au;have Z:=au _ _ Z;have eB:=au _ _ eB;have eU:=au _ _ eU;have cl:=au _ _ cl;have S:=S.trans au;have aa:TrAt K dv (.ref bo) (.mk "call" (.flat (.non)) [t6,t4]:Tr):=Ct dz (.inl ⟨rfl,rfl⟩) cl ((Al.nil.snoc T6).snoc T4);have fv:GT (.mk "call" (.flat (.non)) [t6,t4]:Tr):=Ia (Gw (by right) (by right) (by right) (by right)) (by right) (by right) G6 G4;have f8:(.mk "call" (.flat (.non)) [t6,t4]:Tr).size<=3:=by
    rw[Tr.size,Ax,Ax,Ax];lia
   obtain⟨cs,c6⟩:∃x,x=(.mk "call" (.flat (.non)) [t6,t4]:Tr):=⟨_,rfl⟩;rw[<- c6]at aa fv f8;clear c6;left;refine⟨Bg,λb9 em=>?_⟩;have av:=Same.upd (o:=.tup [.ref bj,.ref be,.ref bo]) em;have cj:=@Ac dv b9 (.tup [.ref bj,.ref be,.ref bo]);revert av cj;generalize upd dv b9 (.tup [.ref bj,.ref be,.ref bo])=fe;revert fe;refine id ?_;intro fe av cj;clear em;have T1:=T1.same av;have T2:=T2.same av;have T3:=T3.same av;have T4:=T4.same av;have T5:=T5.same av;have T6:=T6.same av;have I:=I.same av;have O:=O.same av;have U:=U.same av;have Y:=Y.same av;have aa:=aa.same av;have Z:=av _ _ Z;have eB:=av _ _ eB;have eU:=av _ _ eU;have S:=S.trans av;left;refine⟨Bg,λbc eg=>?_⟩;have aq:=Same.upd (o:=.tup [.str "if",.non,.ref b9]) eg;have dh:=@Ac fe bc (.tup [.str "if",.non,.ref b9]);revert aq dh;generalize upd fe bc (.tup [.str "if",.non,.ref b9])=ea;revert ea;refine id ?_;intro ea aq dh;clear eg;have T1:=T1.same aq;have T2:=T2.same aq;have T3:=T3.same aq;have T4:=T4.same aq;have T5:=T5.same aq;have T6:=T6.same aq;have I:=I.same aq;have O:=O.same aq;have U:=U.same aq;have Y:=Y.same aq;have aa:=aa.same aq;have Z:=aq _ _ Z;have eB:=aq _ _ eB;have eU:=aq _ _ eU;have cj:=aq _ _ cj;have S:=S.trans aq;have ah:TrAt K ea (.ref bc) (.mk "if" (.flat (.non)) [cq,cu,cs]:Tr):=Ct dh (.inl ⟨rfl,rfl⟩) cj (((Al.nil.snoc U).snoc Y).snoc aa);have ey:GT (.mk "if" (.flat (.non)) [cq,cu,cs]:Tr):=gt3 (Gw (by right) (by right) (by right) (by right)) (by right) (by right) ez fy fv;have f0:(.mk "if" (.flat (.non)) [cq,cu,cs]:Tr).size<=8:=by
    rw[Tr.size,Ax,Ax,Ax,Ax];lia
   obtain⟨cz,df⟩:∃x,x=(.mk "if" (.flat (.non)) [cq,cu,cs]:Tr):=⟨_,rfl⟩;rw[<- df]at ah ey f0;clear df;left;refine Ba (SqL.of Z) (v:=.str n1) rfl ?_;left;refine Ba (SqL.of Z) (v:=.str n4) rfl ?_;left;refine Ba (SqL.of eB) (v:=v2) rfl ?_;left;refine⟨B5,λb6 fg=>?_⟩;have as:=Same.upd (o:=.tup [v2]) fg;have cc:=@Ac ea b6 (.tup [v2]);revert as cc;generalize upd ea b6 (.tup [v2])=fq;revert fq;refine id ?_;intro fq as cc;clear fg;have T1:=T1.same as;have T2:=T2.same as;have T3:=T3.same as;have T4:=T4.same as;have T5:=T5.same as;have T6:=T6.same as;have I:=I.same as;have O:=O.same as;have U:=U.same as;have Y:=Y.same as;have aa:=aa.same as;have ah:=ah.same as;have Z:=as _ _ Z;have eB:=as _ _ eB;have eU:=as _ _ eU;have S:=S.trans as;left;refine⟨Bg,λbi fo=>?_⟩;have ao:=Same.upd (o:=.tup [.str "fn",.str n4,.ref b6]) fo;have dr:=@Ac fq bi (.tup [.str "fn",.str n4,.ref b6]);revert ao dr;generalize upd fq bi (.tup [.str "fn",.str n4,.ref b6])=d6;revert d6;refine id ?_;intro d6 ao dr;clear fo;have T1:=T1.same ao;have T2:=T2.same ao;have T3:=T3.same ao;have T4:=T4.same ao;have T5:=T5.same ao;have T6:=T6.same ao;have I:=I.same ao;have O:=O.same ao;have U:=U.same ao;have Y:=Y.same ao;have aa:=aa.same ao;have ah:=ah.same ao;have Z:=ao _ _ Z;have eB:=ao _ _ eB;have eU:=ao _ _ eU;have cc:=ao _ _ cc;have S:=S.trans ao;have ar:TrAt K d6 (.ref bi) (.mk "fn" (.flat (.str n4)) [t2]:Tr):=Ct dr (.inl ⟨rfl,rfl⟩) cc (Al.nil.snoc T2);have fz:GT (.mk "fn" (.flat (.str n4)) [t2]:Tr):=gt1 ⟨λ_=>⟨_,rfl⟩,λh=>absurd h (by right)⟩ (by right) (by right) G2;have gi:(.mk "fn" (.flat (.str n4)) [t2]:Tr).size<=2:=by
    rw[Tr.size,Ax,Ax];lia
   obtain⟨cv,dc⟩:∃x,x=(.mk "fn" (.flat (.str n4)) [t2]:Tr):=⟨_,rfl⟩;rw[<- dc]at ar fz gi;clear dc;left;refine Ba (SqL.of Z) (v:=.str n2) rfl ?_;left;refine⟨Bq,λb3 e9=>?_⟩;have ap:=Same.upd (o:=.tup [.ref bb,.ref bc]) e9;have ci:=@Ac d6 b3 (.tup [.ref bb,.ref bc]);revert ap ci;generalize upd d6 b3 (.tup [.ref bb,.ref bc])=ft;revert ft;refine id ?_;intro ft ap ci;clear e9;have T1:=T1.same ap;have T2:=T2.same ap;have T3:=T3.same ap;have T4:=T4.same ap;have T5:=T5.same ap;have T6:=T6.same ap;have I:=I.same ap;have O:=O.same ap;have U:=U.same ap;have Y:=Y.same ap;have aa:=aa.same ap;have ah:=ah.same ap;have ar:=ar.same ap;have Z:=ap _ _ Z;have eB:=ap _ _ eB;have eU:=ap _ _ eU;have S:=S.trans ap;left;refine⟨Bg,λbq fk=>?_⟩;have an:=Same.upd (o:=.tup [.str "let",.str n2,.ref b3]) fk;have dl:=@Ac ft bq (.tup [.str "let",.str n2,.ref b3]);revert an dl;generalize upd ft bq (.tup [.str "let",.str n2,.ref b3])=du;revert du;refine id ?_;intro du an dl;clear fk;have T1:=T1.same an;have T2:=T2.same an;have T3:=T3.same an;have T4:=T4.same an;have T5:=T5.same an;have T6:=T6.same an;have I:=I.same an;have O:=O.same an;have U:=U.same an;have Y:=Y.same an;have aa:=aa.same an;have ah:=ah.same an;have ar:=ar.same an;have Z:=an _ _ Z;have eB:=an _ _ eB;have eU:=an _ _ eU;have ci:=an _ _ ci;have S:=S.trans an;have a6:TrAt K du (.ref bq) (.mk "let" (.flat (.str n2)) [cx,cz]:Tr):=Ct dl (.inl ⟨rfl,rfl⟩) ci ((Al.nil.snoc O).snoc ah);have ep:GT (.mk "let" (.flat (.str n2)) [cx,cz]:Tr):=Ia ⟨λ_=>⟨_,rfl⟩,λh=>absurd h (by right)⟩ (by right) (by right) er ey;have f4:(.mk "let" (.flat (.str n2)) [cx,cz]:Tr).size<=13:=by
    rw[Tr.size,Ax,Ax,Ax];lia
   obtain⟨cr,db⟩:∃x,x=(.mk "let" (.flat (.str n2)) [cx,cz]:Tr):=⟨_,rfl⟩;rw[<- db]at a6 ep f4;clear db;left;refine⟨Bq,λbv ej=>?_⟩;have am:=Same.upd (o:=.tup [.ref bi,.ref bq]) ej;have ch:=@Ac du bv (.tup [.ref bi,.ref bq]);revert am ch;generalize upd du bv (.tup [.ref bi,.ref bq])=e7;revert e7;refine id ?_;intro e7 am ch;clear ej;have T1:=T1.same am;have T2:=T2.same am;have T3:=T3.same am;have T4:=T4.same am;have T5:=T5.same am;have T6:=T6.same am;have I:=I.same am;have O:=O.same am;have U:=U.same am;have Y:=Y.same am;have aa:=aa.same am;have ah:=ah.same am;have ar:=ar.same am;have a6:=a6.same am;have Z:=am _ _ Z;have eB:=am _ _ eB;have eU:=am _ _ eU;have S:=S.trans am;left;refine⟨Bg,λbp fh=>?_⟩;have ak:=Same.upd (o:=.tup [.str "let",.str n1,.ref bv]) fh;have dy:=@Ac e7 bp (.tup [.str "let",.str n1,.ref bv]);revert ak dy;generalize upd e7 bp (.tup [.str "let",.str n1,.ref bv])=d8;revert d8;refine id ?_;intro d8 ak dy;clear fh;have T1:=T1.same ak;have T2:=T2.same ak;have T3:=T3.same ak;have T4:=T4.same ak;have T5:=T5.same ak;have T6:=T6.same ak;have I:=I.same ak;have O:=O.same ak;have U:=U.same ak;have Y:=Y.same ak;have aa:=aa.same ak;have ah:=ah.same ak;have ar:=ar.same ak;have a6:=a6.same ak;have Z:=ak _ _ Z;have eB:=ak _ _ eB;have eU:=ak _ _ eU;have ch:=ak _ _ ch;have S:=S.trans ak;have ba:TrAt K d8 (.ref bp) (.mk "let" (.flat (.str n1)) [cv,cr]:Tr):=Ct dy (.inl ⟨rfl,rfl⟩) ch ((Al.nil.snoc ar).snoc a6);have fw:GT (.mk "let" (.flat (.str n1)) [cv,cr]:Tr):=Ia ⟨λ_=>⟨_,rfl⟩,λh=>absurd h (by right)⟩ (by right) (by right) fz ep;have ge:(.mk "let" (.flat (.str n1)) [cv,cr]:Tr).size<=16:=by
    rw[Tr.size,Ax,Ax,Ax];lia
   obtain⟨cy,da⟩:∃x,x=(.mk "let" (.flat (.str n1)) [cv,cr]:Tr):=⟨_,rfl⟩;rw[<- da]at ba fw ge;clear da;left;refine Ba (SqL.of Z) (v:=.str n0) rfl ?_;left;refine Ba (SqL.of Z) (v:=.str n3) rfl ?_;left;refine Ba (SqL.of eB) (v:=v1) rfl ?_;left;refine⟨B5,λbw ek=>?_⟩;have aj:=Same.upd (o:=.tup [v1]) ek;have cm:=@Ac d8 bw (.tup [v1]);revert aj cm;generalize upd d8 bw (.tup [v1])=fu;revert fu;refine id ?_;intro fu aj cm;clear ek;have T1:=T1.same aj;have T2:=T2.same aj;have T3:=T3.same aj;have T4:=T4.same aj;have T5:=T5.same aj;have T6:=T6.same aj;have I:=I.same aj;have O:=O.same aj;have U:=U.same aj;have Y:=Y.same aj;have aa:=aa.same aj;have ah:=ah.same aj;have ar:=ar.same aj;have a6:=a6.same aj;have ba:=ba.same aj;have Z:=aj _ _ Z;have eB:=aj _ _ eB;have eU:=aj _ _ eU;have S:=S.trans aj;left;refine⟨Bg,λbh fm=>?_⟩;have ag:=Same.upd (o:=.tup [.str "fn",.str n3,.ref bw]) fm;have ec:=@Ac fu bh (.tup [.str "fn",.str n3,.ref bw]);revert ag ec;generalize upd fu bh (.tup [.str "fn",.str n3,.ref bw])=d9;revert d9;refine id ?_;intro d9 ag ec;clear fm;have T1:=T1.same ag;have T2:=T2.same ag;have T3:=T3.same ag;have T4:=T4.same ag;have T5:=T5.same ag;have T6:=T6.same ag;have I:=I.same ag;have O:=O.same ag;have U:=U.same ag;have Y:=Y.same ag;have aa:=aa.same ag;have ah:=ah.same ag;have ar:=ar.same ag;have a6:=a6.same ag;have ba:=ba.same ag;have Z:=ag _ _ Z;have eB:=ag _ _ eB;have eU:=ag _ _ eU;have cm:=ag _ _ cm;have S:=S.trans ag;have ca:TrAt K d9 (.ref bh) (.mk "fn" (.flat (.str n3)) [t1]:Tr):=Ct ec (.inl ⟨rfl,rfl⟩) cm (Al.nil.snoc T1);have et:GT (.mk "fn" (.flat (.str n3)) [t1]:Tr):=gt1 ⟨λ_=>⟨_,rfl⟩,λh=>absurd h (by right)⟩ (by right) (by right) G1;have f7:(.mk "fn" (.flat (.str n3)) [t1]:Tr).size<=2:=by
    rw[Tr.size,Ax,Ax];lia
   obtain⟨c3,de⟩:∃x,x=(.mk "fn" (.flat (.str n3)) [t1]:Tr):=⟨_,rfl⟩;rw[<- de]at ca et f7;clear de;left;refine⟨Bq,λb8 el=>?_⟩;have ai:=Same.upd (o:=.tup [.ref bh,.ref bp]) el;have cn:=@Ac d9 b8 (.tup [.ref bh,.ref bp]);revert ai cn;generalize upd d9 b8 (.tup [.ref bh,.ref bp])=e4;revert e4;refine id ?_;intro e4 ai cn;clear el;have T1:=T1.same ai;have T2:=T2.same ai;have T3:=T3.same ai;have T4:=T4.same ai;have T5:=T5.same ai;have T6:=T6.same ai;have I:=I.same ai;have O:=O.same ai;have U:=U.same ai;have Y:=Y.same ai;have aa:=aa.same ai;have ah:=ah.same ai;have ar:=ar.same ai;have a6:=a6.same ai;have ba:=ba.same ai;have ca:=ca.same ai;have Z:=ai _ _ Z;have eB:=ai _ _ eB;have eU:=ai _ _ eU;have S:=S.trans ai;left;refine⟨Bg,λcw fl=>?_⟩;have ae:=Same.upd (o:=.tup [.str "let",.str n0,.ref b8]) fl;have dj:=@Ac e4 cw (.tup [.str "let",.str n0,.ref b8]);revert ae dj;generalize upd e4 cw (.tup [.str "let",.str n0,.ref b8])=gf;revert gf;refine id ?_;intro gf ae dj;clear fl;have T1:=T1.same ae;have T2:=T2.same ae;have T3:=T3.same ae;have T4:=T4.same ae;have T5:=T5.same ae;have T6:=T6.same ae;have I:=I.same ae;have O:=O.same ae;have U:=U.same ae;have Y:=Y.same ae;have aa:=aa.same ae;have ah:=ah.same ae;have ar:=ar.same ae;have a6:=a6.same ae;have ba:=ba.same ae;have ca:=ca.same ae;have Z:=ae _ _ Z;have eB:=ae _ _ eB;have eU:=ae _ _ eU;have cn:=ae _ _ cn;have S:=S.trans ae;have en:TrAt K gf (.ref cw) (.mk "let" (.flat (.str n0)) [c3,cy]:Tr):=Ct dj (.inl ⟨rfl,rfl⟩) cn ((Al.nil.snoc ca).snoc ba);have e3:GT (.mk "let" (.flat (.str n0)) [c3,cy]:Tr):=Ia ⟨λ_=>⟨_,rfl⟩,λh=>absurd h (by right)⟩ (by right) (by right) et fw;have ga:(.mk "let" (.flat (.str n0)) [c3,cy]:Tr).size<=19:=by
    rw[Tr.size,Ax,Ax,Ax];lia
   obtain⟨gj,c9⟩:∃x,x=(.mk "let" (.flat (.str n0)) [c3,cy]:Tr):=⟨_,rfl⟩;rw[<- c9]at en e3 ga;clear c9;exact q _ _ _ S en e3 (by lia)
theorem Zra:Cb [V.str n0,.str n1,.str n2,.str n3,.str n4,.str n5,.str n6,.str n7] (some 3) (some 5)=[V.str n3,.str n4]:=rfl
inductive Zpx (K:Ph)(vs:List V)(H:Hp)(Q:VK)(e9:XK):Prop
 |mk (a b:Addr) (ns:List Int) (ts:List Str) (_:vs=[.ref a,.ref b]) (_:SqL K H a (ns.map V.int)) (_:ns.length<=63) (_:H b=some (.lst (ts.map V.str))) (_:ts.length=8) (_:(∀t∈ts,t.length<=100)) (_:∀(v:V)(t:Tr)(H':Hp),Same H H'->TrAt K H' v t->GT t->t.size<=40->Q v H')
def Zi9 (K:Ph):Sp:=Zpx K
theorem I0:Bm ["_law_script","_law_names_here","_law_bit_here","_law_more_here","_law_inner","_law_form"] ["_law_script","_law_names_here"] (Bh Ma):=by walk_at "sc"
theorem Zrs (F:Fun K "_law_ring" "_law_ring" Ma f fd)(T:Txt K mg)(C__law_cell_at:A7 P w K mg base 1 "_law_cell_at" ["_law_script","_law_k"] (Nq K))(C__law_bit:A7 P w K mg base 1 "_law_bit" ["_law_cell","_law_names_here"] (Oz K))(C__law_tree:A7 P w K mg base 17 "_law_tree" ["_law_cells","_law_names_here"] (Hg K 15)):A8 P w K mg base A9 18 f fd ["_law_script","_law_names_here"] (Zi9 K):=by
 refine F.okq I0 (λvs H Q E h=>?_) (λcu A outer s H vs Q E hr h=>?_)
 ·obtain⟨a,b,ns,ts,rfl,_⟩:=h;rfl
 ·obtain⟨a,b,ns,ts,rfl,hS,hn,eN,hl,hb,q⟩:=h;refine⟨_,Ae (As 2 I0 (A5 C__law_bit hr.m (Aa (A5 C__law_cell_at hr.m (Aa (qv 0) (Aa Ad Ab))) (Aa (qv 1) Ab))))
   (Ae (As 3 I0 (A5 C__law_tree hr.m (Aa (Er (Fm K) (qv 0) (Dm Ad) (Dm Ad)) (Aa (Er (Fm K) (qv 1) (Dm Ad) (Dm Ad)) Ab))))
   (Ae (As 4 I0 (Ak (Aa Aj (Aa (Ah K (qv 1) Ad) (Aa (Ak (Aa (qv 2) Ab)) Ab)))))
   (Ae (Au (Aw (Bf K hr.u200) (A4 B7 (A5 C__law_cell_at hr.m (Aa (qv 0) (Aa Ad Ab))) Ad) Ad (A0 _)) (Ag (As 5 I0 (Ak (Aa Aj (Aa (Ah K (qv 1) Ad) (Aa (Ak (Aa (Ak (Aa Aj (Aa C8 (Aa (Ak (Aa (Ak (Aa Aj (Aa (Ah K (qv 1) Ad) (Aa (Ak Ab) Ab)))) (Aa (qv 4) Ab))) Ab)))) Ab)) Ab)))))) (Ag (As 5 I0 (Ak (Aa Aj (Aa (Ak (Aa (Ah K (qv 1) Ad) (Aa (Ah K (qv 1) Ad) Ab))) (Aa (Ak (Aa (qv 4) Ab)) Ab)))))))
   (Ag (Ar (Ak (Aa Aj (Aa (Ah K (qv 1) Ad) (Aa (Ak (Aa (qv 5) (Aa (qv 3) Ab))) Ab))))))))),?_⟩
  have bg:=big;have Sc:Script K H a:=⟨ns,hS,hn⟩;left;refine⟨a,2,rfl,Sc,by decide,λz=>?_⟩;left;refine⟨z,b,ts,rfl,eN,hl,λv1 t1 H1 S T1 G1 Z1=>?_⟩;obtain⟨n0,n1,n2,n3,n4,n5,n6,n7,rfl⟩:=Zi3 hl;have eN:H1 b=some (.lst [.str n0,.str n1,.str n2,.str n3,.str n4,.str n5,.str n6,.str n7]):=S _ _ eN;left;refine Jq (S.seq hS) λpc cq=>?_;obtain⟨ms,em,lm⟩:=Zcg ns (some 3) (some 9);rw[em];have cv:ms.length<=6:=by
   rw[lm,show(some 3:Option Int)=some ((3:Nat):Int) from rfl,show(some 9:Option Int)=some ((9:Nat):Int) from rfl,HT.sIx_nat,HT.sIx_nat];lia
  have s7:=Same.upd (o:=.lst (ms.map V.int)) cq;have e7:upd H1 pc (.lst (ms.map V.int)) pc=some (.lst (ms.map V.int)):=Ac;revert s7 e7;generalize upd H1 pc (.lst (ms.map V.int))=H7;intro s7 e7;left;refine Jq (SqL.of (s7 _ _ eN)) λpn ck=>?_;rw[Zra];have s8:=Same.upd (o:=.lst [V.str n3,.str n4]) ck;have N8:Nms K (upd H7 pn (.lst [V.str n3,.str n4])) pn [n3,n4]:=⟨Ac,by show 1<=2;decide,λt h=>hb t (by simp only[Pm,P6,or_false]at h;rcases h with rfl|rfl <;> simp),by show 2<=10;decide⟩;revert s8 N8;generalize upd H7 pn (.lst [V.str n3,.str n4])=H8;intro s8 N8;left;refine⟨pc,pn,ms,_,rfl,s8 _ _ e7,N8,by lia,by lia,λv2 t2 H2 s2 T2 G2 Z2=>?_⟩;have Z2:t2.size<=16:=by
   unfold Ga at Z2;lia
  have bc:=s7.trans (s8.trans s2);have eN:=bc _ _ eN;have T1:=T1.same bc;have Sc:=Sc.same (S.trans bc);have S:=S.trans bc;clear s7 s8 s2 e7 N8;left;refine Ba (SqL.of eN) (v:=.str n5) rfl ?_;left;refine⟨B5,λay b6=>?_⟩;have a5:=Same.upd (o:=.tup [v1]) b6;have a8:upd H2 ay (.tup [v1]) ay=some (.tup [v1]):=Ac;revert a5 a8;generalize upd H2 ay (.tup [v1])=b9;intro a5 a8;clear b6;have T1:=T1.same a5;have T2:=T2.same a5;have eN:=a5 _ _ eN;have Sc:=Sc.same a5;have S:=S.trans a5;left;refine⟨Bg,λai cc=>?_⟩;have av:=Same.upd (o:=.tup [.str "fn",.str n5,.ref ay]) cc;have bx:upd b9 ai (.tup [.str "fn",.str n5,.ref ay]) ai=some (.tup [.str "fn",.str n5,.ref ay]):=Ac;revert av bx;generalize upd b9 ai (.tup [.str "fn",.str n5,.ref ay])=a3;intro av bx;clear cc;have T1:=T1.same av;have T2:=T2.same av;have eN:=av _ _ eN;have a8:=av _ _ a8;have Sc:=Sc.same av;have S:=S.trans av;have O:TrAt K a3 (.ref ai) (.mk "fn" (.flat (.str n5)) [t1]:Tr):=Ct bx (.inl ⟨rfl,rfl⟩) a8 (Al.nil.snoc T1);have bu:GT (.mk "fn" (.flat (.str n5)) [t1]:Tr):=gt1 ⟨λ_=>⟨_,rfl⟩,λh=>absurd h (by right)⟩ (by right) (by right) G1;have cm:(.mk "fn" (.flat (.str n5)) [t1]:Tr).size<=2:=by
   rw[Tr.size,Ax,Ax];lia
  obtain⟨ax,bo⟩:∃x,x=(.mk "fn" (.flat (.str n5)) [t1]:Tr):=⟨_,rfl⟩;rw[<- bo]at O bu cm;clear bo;walk_at "q";refine Ds (t:=Dh _ _ _) (R:=λcl H'=>Same a3 H'/\∃vf tf,cl=[some (.ref a),some (.ref b),some v1,some v2,some (.ref ai),some vf]/\TrAt K H' vf tf/\GT tf/\tf.size<=5) ?_ ?_
  ·intro Y hY;left;refine⟨a,9,rfl,Sc,by decide,λz9=>?_⟩;left;have S:=Same.refl a3;refine Bk (λ_=>?_) (λ_=>?_)
   ·left;refine Ba (SqL.of eN) (v:=.str n3) rfl ?_;left;refine Ba (SqL.of eN) (v:=.str n3) rfl ?_;left;refine⟨Bo,λZ aq=>?_⟩;have U:=Same.upd (o:=.tup []) aq;have ae:upd a3 Z (.tup []) Z=some (.tup []):=Ac;revert U ae;generalize upd a3 Z (.tup [])=ao;intro U ae;clear aq;have T1:=T1.same U;have T2:=T2.same U;have O:=O.same U;have eN:=U _ _ eN;have S:=S.trans U;left;refine⟨Bg,λaa as=>?_⟩;have I:=Same.upd (o:=.tup [.str "name",.str n3,.ref Z]) as;have ah:upd ao aa (.tup [.str "name",.str n3,.ref Z]) aa=some (.tup [.str "name",.str n3,.ref Z]):=Ac;revert I ah;generalize upd ao aa (.tup [.str "name",.str n3,.ref Z])=au;intro I ah;clear as;have T1:=T1.same I;have T2:=T2.same I;have O:=O.same I;have eN:=I _ _ eN;have ae:=I _ _ ae;have S:=S.trans I;have ag:TrAt K au (.ref aa) (.mk "name" (.flat (.str n3)) []:Tr):=Ct ah (.inl ⟨rfl,rfl⟩) ae .nil;have a9:GT (.mk "name" (.flat (.str n3)) []:Tr):=gt0 ⟨λ_=>⟨_,rfl⟩,λh=>absurd h (by right)⟩ (by right) (by right);have bw:(.mk "name" (.flat (.str n3)) []:Tr).size<=1:=by
     rw[Tr.size,Ax];lia
    obtain⟨ba,ap⟩:∃x,x=(.mk "name" (.flat (.str n3)) []:Tr):=⟨_,rfl⟩;rw[<- ap]at ag a9 bw;clear ap;left;refine⟨Bq,λa4 ca=>?_⟩;have ar:=Same.upd (o:=.tup [.ref aa,.ref ai]) ca;have bb:upd au a4 (.tup [.ref aa,.ref ai]) a4=some (.tup [.ref aa,.ref ai]):=Ac;revert ar bb;generalize upd au a4 (.tup [.ref aa,.ref ai])=ci;intro ar bb;clear ca;have T1:=T1.same ar;have T2:=T2.same ar;have O:=O.same ar;have ag:=ag.same ar;have eN:=ar _ _ eN;have S:=S.trans ar;left;refine⟨Bg,λan cf=>?_⟩;have am:=Same.upd (o:=.tup [.str "call",.non,.ref a4]) cf;have b0:upd ci an (.tup [.str "call",.non,.ref a4]) an=some (.tup [.str "call",.non,.ref a4]):=Ac;revert am b0;generalize upd ci an (.tup [.str "call",.non,.ref a4])=bq;intro am b0;clear cf;have T1:=T1.same am;have T2:=T2.same am;have O:=O.same am;have ag:=ag.same am;have eN:=am _ _ eN;have bb:=am _ _ bb;have S:=S.trans am;have a6:TrAt K bq (.ref an) (.mk "call" (.flat (.non)) [ba,ax]:Tr):=Ct b0 (.inl ⟨rfl,rfl⟩) bb ((Al.nil.snoc ag).snoc O);have cb:GT (.mk "call" (.flat (.non)) [ba,ax]:Tr):=Ia (Gw (by right) (by right) (by right) (by right)) (by right) (by right) a9 bu;have cs:(.mk "call" (.flat (.non)) [ba,ax]:Tr).size<=4:=by
     rw[Tr.size,Ax,Ax,Ax];lia
    obtain⟨be,bj⟩:∃x,x=(.mk "call" (.flat (.non)) [ba,ax]:Tr):=⟨_,rfl⟩;rw[<- bj]at a6 cb cs;clear bj;left;refine⟨B5,λa0 b7=>?_⟩;have al:=Same.upd (o:=.tup [.ref an]) b7;have a7:upd bq a0 (.tup [.ref an]) a0=some (.tup [.ref an]):=Ac;revert al a7;generalize upd bq a0 (.tup [.ref an])=b4;intro al a7;clear b7;have T1:=T1.same al;have T2:=T2.same al;have O:=O.same al;have ag:=ag.same al;have a6:=a6.same al;have eN:=al _ _ eN;have S:=S.trans al;left;refine⟨Bg,λbh b8=>?_⟩;have aj:=Same.upd (o:=.tup [.str "fn",.str n3,.ref a0]) b8;have bt:upd b4 bh (.tup [.str "fn",.str n3,.ref a0]) bh=some (.tup [.str "fn",.str n3,.ref a0]):=Ac;revert aj bt;generalize upd b4 bh (.tup [.str "fn",.str n3,.ref a0])=cr;intro aj bt;clear b8;have T1:=T1.same aj;have T2:=T2.same aj;have O:=O.same aj;have ag:=ag.same aj;have a6:=a6.same aj;have eN:=aj _ _ eN;have a7:=aj _ _ a7;have S:=S.trans aj;have b5:TrAt K cr (.ref bh) (.mk "fn" (.flat (.str n3)) [be]:Tr):=Ct bt (.inl ⟨rfl,rfl⟩) a7 (Al.nil.snoc a6);have ch:GT (.mk "fn" (.flat (.str n3)) [be]:Tr):=gt1 ⟨λ_=>⟨_,rfl⟩,λh=>absurd h (by right)⟩ (by right) (by right) cb;have cn:(.mk "fn" (.flat (.str n3)) [be]:Tr).size<=5:=by
     rw[Tr.size,Ax,Ax];lia
    obtain⟨cw,bi⟩:∃x,x=(.mk "fn" (.flat (.str n3)) [be]:Tr):=⟨_,rfl⟩;rw[<- bi]at b5 ch cn;clear bi;left;exact hY _ _ ⟨S,_,_,rfl,b5,ch,by lia⟩
   ·left;refine Ba (SqL.of eN) (v:=.str n3) rfl ?_;left;refine Ba (SqL.of eN) (v:=.str n4) rfl ?_;left;refine⟨Bq,λZ aq=>?_⟩;have U:=Same.upd (o:=.tup [.str n3,.str n4]) aq;have ae:upd a3 Z (.tup [.str n3,.str n4]) Z=some (.tup [.str n3,.str n4]):=Ac;revert U ae;generalize upd a3 Z (.tup [.str n3,.str n4])=ao;intro U ae;clear aq;have T1:=T1.same U;have T2:=T2.same U;have O:=O.same U;have eN:=U _ _ eN;have S:=S.trans U;left;refine⟨B5,λaa as=>?_⟩;have I:=Same.upd (o:=.tup [.ref ai]) as;have ah:upd ao aa (.tup [.ref ai]) aa=some (.tup [.ref ai]):=Ac;revert I ah;generalize upd ao aa (.tup [.ref ai])=au;intro I ah;clear as;have T1:=T1.same I;have T2:=T2.same I;have O:=O.same I;have eN:=I _ _ eN;have ae:=I _ _ ae;have S:=S.trans I;left;refine⟨Bg,λbf ce=>?_⟩;have ak:=Same.upd (o:=.tup [.str "rec",.ref Z,.ref aa]) ce;have bv:upd au bf (.tup [.str "rec",.ref Z,.ref aa]) bf=some (.tup [.str "rec",.ref Z,.ref aa]):=Ac;revert ak bv;generalize upd au bf (.tup [.str "rec",.ref Z,.ref aa])=cj;intro ak bv;clear ce;have T1:=T1.same ak;have T2:=T2.same ak;have O:=O.same ak;have eN:=ak _ _ eN;have ae:=ak _ _ ae;have ah:=ak _ _ ah;have S:=S.trans ak;have cg:TrAt K cj (.ref bf) (.mk "rec" (.tup [.flat (.str n3),.flat (.str n4)]) [ax]:Tr):=Ct bv (.inr ⟨_,[.str n3,.str n4],rfl,SqT.of ae,rfl,rfl⟩) ah (Al.nil.snoc O);have b3:GT (.mk "rec" (.tup [.flat (.str n3),.flat (.str n4)]) [ax]:Tr):=gt1 ⟨λh=>absurd h (by right),λ_=>⟨_,_,rfl⟩⟩ (by right) (by right) bu;have cp:(.mk "rec" (.tup [.flat (.str n3),.flat (.str n4)]) [ax]:Tr).size<=3:=by
     rw[Tr.size,Ax,Ax];lia
    obtain⟨cx,bp⟩:∃x,x=(.mk "rec" (.tup [.flat (.str n3),.flat (.str n4)]) [ax]:Tr):=⟨_,rfl⟩;rw[<- bp]at cg b3 cp;clear bp;left;exact hY _ _ ⟨S,_,_,rfl,cg,b3,by lia⟩
  rintro _ H9 ⟨s9,vf,t9,rfl,T9,G9,Z9⟩;have T1:=T1.same s9;have T2:=T2.same s9;have O:=O.same s9;have eN:=s9 _ _ eN;have Sc:=Sc.same s9;have S:=S.trans s9;left;refine Ba (SqL.of eN) (v:=.str n4) rfl ?_;left;refine⟨Bq,λZ aq=>?_⟩;have U:=Same.upd (o:=.tup [vf,v2]) aq;have ae:upd H9 Z (.tup [vf,v2]) Z=some (.tup [vf,v2]):=Ac;revert U ae;generalize upd H9 Z (.tup [vf,v2])=ao;intro U ae;clear aq;have T1:=T1.same U;have T2:=T2.same U;have O:=O.same U;have T9:=T9.same U;have eN:=U _ _ eN;have Sc:=Sc.same U;have S:=S.trans U;left;refine⟨Bg,λaa as=>?_⟩;have I:=Same.upd (o:=.tup [.str "let",.str n4,.ref Z]) as;have ah:upd ao aa (.tup [.str "let",.str n4,.ref Z]) aa=some (.tup [.str "let",.str n4,.ref Z]):=Ac;revert I ah;generalize upd ao aa (.tup [.str "let",.str n4,.ref Z])=au;intro I ah;clear as;have T1:=T1.same I;have T2:=T2.same I;have O:=O.same I;have T9:=T9.same I;have eN:=I _ _ eN;have ae:=I _ _ ae;have Sc:=Sc.same I;have S:=S.trans I;have ag:TrAt K au (.ref aa) (.mk "let" (.flat (.str n4)) [t9,t2]:Tr):=Ct ah (.inl ⟨rfl,rfl⟩) ae ((Al.nil.snoc T9).snoc T2);have a9:GT (.mk "let" (.flat (.str n4)) [t9,t2]:Tr):=Ia ⟨λ_=>⟨_,rfl⟩,λh=>absurd h (by right)⟩ (by right) (by right) G9 G2;have bw:(.mk "let" (.flat (.str n4)) [t9,t2]:Tr).size<=22:=by
   rw[Tr.size,Ax,Ax,Ax];lia
  obtain⟨ba,ap⟩:∃x,x=(.mk "let" (.flat (.str n4)) [t9,t2]:Tr):=⟨_,rfl⟩;rw[<- ap]at ag a9 bw;clear ap;exact q _ _ _ S ag a9 (by lia)
theorem Zr0 (z:Int):∃k:Nat,B8 [V.int 1,.int 2,.int 2,.int 3,.int 8] (z % 5)=some (.int (k:Nat))/\1<=k/\k<=8:=by
 obtain⟨v,F,m⟩:=Ge (xs:=[V.int 1,.int 2,.int 2,.int 3,.int 8]) (i:=z % 5) (Sq _ (by decide)) (Sl _ (by decide));simp only[Pm,P6,or_false]at m;rcases m with rfl|rfl|rfl|rfl|rfl
 ·exact⟨1,F,by decide,by decide⟩
 ·exact⟨2,F,by decide,by decide⟩
 ·exact⟨2,F,by decide,by decide⟩
 ·exact⟨3,F,by decide,by decide⟩
 ·exact⟨8,F,by decide,by decide⟩
theorem Ztl (ts:List Str)(k:Nat):Cb (ts.map V.str) none (some (k:Int))=(ts.take k).map V.str:=by
 unfold Cb;rw[HT.sIx_none,HT.sIx_nat,Pp,Uv,Uq,<- List.map_take];by_cases h:k<=ts.length
 ·rw[Um h]
 ·rw[Nat.min_eq_right (by lia),Q9,Rp (by lia)]
theorem plD (h:H p=some (.tup (Bv pl))):IsD K H 1 (.ref p) (.tup ((pl.map λi=>((i:Nat):Int)).map λi=>.flat (.int i))):=Zk7 (by rw[<- Zie];exact SqT.of h)
theorem plOk (pl:List Nat)(h:pl.length<=1000):Fe (.tup ((pl.map λi=>((i:Nat):Int)).map λi=>.flat (.int i))):=.tup (by simp;lia) λd hd=>by
 obtain⟨i,_,rfl⟩:=Q7.mp hd;exact .flat _
theorem Zpg (t:Tr)(ks:List Kd)(fs:List Bool):((Cq t ks fs).map (·.1)).Nodup:=by
 have F:(Cq t ks fs).map (·.1)=(walk [] t).map (·.1):=by
  refine Wu λj=>?_;unfold Cq;rw[Qf,Qf,T7];cases (walk [] t)[j]? <;> rfl
 rw[F];exact Zbg t []
noncomputable def plDt (pl:List Nat):Dt:=.tup ((pl.map λi=>((i:Nat):Int)).map λi=>.flat (.int i))
noncomputable def akDt:Option Kd->Dt
 |none=>.flat .non
 |some k=>F0 k
noncomputable def Mw (r:Rw):Dt:=.tup [plDt r.1,F0 r.2.1,akDt r.2.2.1,.flat (.str r.2.2.2)]
theorem LkAt.d (h:LkAt K H v r)(d1:Bz r.2.1<=130)(d2:∀a,r.2.2.1=some a->Bz a<=130):IsD K H 133 v (Mw r):=by
 obtain⟨e,p,g,a,rfl,q,Y,O,U⟩:=h;refine .tup q rfl λj v d h h'=>?_
 match j,h,h' with
 |0,h,h'=>cases h;cases h';exact(plD Y).up (by lia)
 |1,h,h'=>cases h;cases h';exact O.d.up (by lia)
 |2,h,h' =>
  cases h;cases h';rcases U with⟨F,rfl⟩|⟨k,F,I⟩
  ·rw[F];exact .flat rfl
  ·have:=d2 k F;rw[F];exact I.d.up (by lia)
 |3,h,h'=>cases h;cases h';exact .flat rfl
theorem Mt:∀k:Kd,Fe (F0 k)
 |.num=>.tup (by show 1<=5000;decide) λd h=>by rw[Py.mp h];exact .flat _
 |.truth=>.tup (by show 1<=5000;decide) λd h=>by rw[Py.mp h];exact .flat _
 |.any n=>.tup (by show 2<=5000;decide) λd h=>by
  rcases Pm.mp h with rfl|h
  ·exact .flat _
  ·rw[Py.mp h];exact .flat _
 |.to x y=>.tup (by show 3<=5000;decide) λd h=>by
  rcases Pm.mp h with rfl|h
  ·exact .flat _
  ·rcases Pm.mp h with rfl|h
   ·exact Mt x
   ·rw[Py.mp h];exact Mt y
theorem Zm5 (r:Rw)(h:r.1.length<=1000):Fe (Mw r):=.tup (by show 4<=5000;decide) λd hd=>by
 rcases Pm.mp hd with rfl|hd
 ·exact plOk _ h
 ·rcases Pm.mp hd with rfl|hd
  ·exact Mt _
  ·rcases Pm.mp hd with rfl|hd
   ·cases r.2.2.1 with
    |none=>exact .flat _
    |some k=>exact Mt k
   ·rw[Py.mp hd];exact .flat _
theorem Al.lst {α:Type}{R:V->α->Prop}{H:Hp}{a:Addr}{vs:List V}{xs:List α}{g:α->Dt}(h:Al R vs xs)(e:H a=some (.lst vs))(hd:∀v x,x∈xs->R v x->IsD K H 133 v (g x)):IsD K H 134 (.ref a) (.lst (xs.map g)):=.lst (SqL.of e) (by rw[Pp];exact h.1) λj v d O F=>by
 rw[Qf]at F;cases I:xs[j]? with
 |none=>rw[I]at F;cases F
 |some x=>rw[I]at F;cases F;exact hd v x (Qu I) (h.2 j v x O I)
theorem Zml {α:Type}{xs:List α}{g:α->Dt}(hl:xs.length<=5000)(h:∀x∈xs,Fe (g x)):Fe (.lst (xs.map g)):=.lst (by rw[Pp];exact hl) λd hd=>by
 obtain⟨x,F,rfl⟩:=Q7.mp hd;exact h x F
theorem Zfs (h:C1 N σ a b o):∀N',N<=N'->C1 N' σ a b o:=by
 induction h with
 |eq ha hb=>intro N' F;obtain⟨m,rfl⟩:∃m,N'=m+1:=⟨N'-1,by lia⟩;exact .eq ha hb
 |bl ha hb ne I=>intro N' F;obtain⟨m,rfl⟩:∃m,N'=m+1:=⟨N'-1,by lia⟩;exact .bl ha hb ne I
 |br ha hb O I=>intro N' F;obtain⟨m,rfl⟩:∃m,N'=m+1:=⟨N'-1,by lia⟩;exact .br ha hb O I
 |clash ha hb ne h1 h2 nt=>intro N' F;obtain⟨m,rfl⟩:∃m,N'=m+1:=⟨N'-1,by lia⟩;exact .clash ha hb ne h1 h2 nt
 |toT ha hb ne k1 k2 i1 i2=>intro N' F;obtain⟨m,rfl⟩:∃m,N'=m+1:=⟨N'-1,by lia⟩;exact .toT ha hb ne (i1 m (by lia)) (i2 m (by lia))
 |toF ha hb ne k1 i1=>intro N' F;obtain⟨m,rfl⟩:∃m,N'=m+1:=⟨N'-1,by lia⟩;exact .toF ha hb ne (i1 m (by lia))
mutual
theorem Zuf:∀(t:Tr)(i:Nat)(ar:List (Str×Kd))(a:Kd),AT t->WT t->∀r∈B1 i ar (some a) t,r.2≠none
 |.mk w n ts,i,ar,a,Y,I,r,F=>by
  cases Y with
  |mk _ O h =>
  cases I with
  |mk U hc =>
  rw[B1]at F;rcases Pm.mp F with rfl|F
  ·exact λz=>by cases z
  ·exact Zcp ts (i+1) w n i ar 0 (by rw[Za0 U,O,Rc]) h hc r F
theorem Zcp:∀(ts:List Tr)(s:Nat)(w:Str)(n:Dt)(i:Nat)(ar:List (Str×Kd))(j:Nat),(Bj w i).length=j+ts.length->(∀t∈ts,AT t)->(∀t∈ts,WT t)->∀r∈Ca s w n i ar j ts,r.2≠none
 |[],s,w,n,i,ar,j,_,_,_,r,F=>by rw[Ca]at F;cases F
 |t::ts,s,w,n,i,ar,j,U,O,I,r,F=>by
  rw[Ca]at F;rw[Pw]at U;rcases P3.mp F with F|F
  ·rw[Pj (by lia)]at F;exact Zuf t _ _ _ (O t (by simp)) (I t (by simp)) r F
  ·exact Zcp ts _ w n i ar (j+1) (by lia) (λt h=>O t (by simp[h])) (λt h=>I t (by simp[h])) r F
end
theorem Zkw (hA:AT t)(hW:WT t)(h:(B1 0 [] none t)[j]?=some r):r.2=none↔j=0:=by
 cases t with
 |mk w n ts =>
 cases hA with
 |mk _ F hc =>
 cases hW with
 |mk I hd =>
 rw[B1]at h;cases j with
 |zero=>cases h;exact⟨λ_=>rfl,λ_=>rfl⟩
 |succ j =>
  have:=Zcp ts _ w n 0 [] 0 (by rw[Za0 I,F,Rc]) hc hd r (Qu (by simpa using h));exact⟨λz=>absurd z this,λz=>by cases z⟩
theorem Zjw (h:(walk [] t)[j]?=some x):x.1=[]↔j=0:=by
 have nd:=Zbg t [];have I:(walk [] t)[0]?=some ([],t):=by cases t;rw[walk];rfl
 obtain⟨O,U⟩:=Pq.mp h;obtain⟨F,Y⟩:=Pq.mp I;constructor
 ·intro z;have e:((walk [] t).map (·.1))[j]'(by rw[Pp];exact O)=((walk [] t).map (·.1))[0]'(by rw[Pp];exact F):=by rw[Vk,Vk,U,Y,z]
  rcases Nat.eq_zero_or_pos j with z|z
  ·exact z
  ·exact absurd e.symm (List.pairwise_iff_getElem.mp nd 0 j _ _ z)
 ·intro z;subst z;rw[I]at h;cases h;rfl
noncomputable def Zbj (fs:List Bool)(j:Nat)(r:Rw):Rw:=(r.1,r.2.1,r.2.2.1,if fs.getD j false=true then r.2.2.2 else "unlike")
noncomputable def Hu (t:Tr)(fs:List Bool):List Rw:=(Fo t).mapIdx (Zbj fs)
theorem Zg4 {t:Tr}{j:Nat}{r:Rw}(h:(Fo t)[j]?=some r):∃x k,(walk [] t)[j]?=some x/\(B1 0 [] none t)[j]?=some k/\r=Iu t x k:=by
 unfold Fo at h;rw[List.getElem?_zipWith]at h;cases F:(walk [] t)[j]? with
 |none=>rw[F]at h;cases h
 |some x =>
  cases I:(B1 0 [] none t)[j]? with
  |none=>rw[F,I]at h;cases h
  |some k=>rw[F,I]at h;cases h;exact⟨x,k,rfl,rfl,rfl⟩
theorem Zjc (t:Tr):(Fo t).length=t.size:=by unfold Fo;rw[List.length_zipWith,D5,Hf];exact Nat.min_self _
theorem Zl0 (t:Tr)(x:List Nat×Tr)(b:Bool):(if b=true then Cg t x.1 x.2 true else ("unlike":Str))=Cg t x.1 x.2 b:=by
 obtain⟨pl,w,n,ts⟩:=x;cases b with
 |true=>exact if_pos rfl
 |false=>exact if_neg (by decide)
theorem M9 (h:K7 t ks fs)(hz:t.size<=40)(hr:r∈Cq t ks fs):Bz r.2.1<=130/\∀a,r.2.2.1=some a->Bz a<=130:=by
 obtain⟨i,hi,e⟩:=Wg hr;exact Zqa h hz r.1 r.2 (Zqr (i:=i) (by rw[Pj hi,e]) (Zpg t ks fs))
theorem Zba {α:Type}{l:List α}{i:Nat}{b:α}{r:List α}(h:l.drop i=b::r):l[i]?=some b/\l.drop (i+1)=r:=by
 constructor
 ·rw[<- List.head?_drop,h];rfl
 ·rw[<- List.tail_drop,h];rfl
theorem Zna {α:Type}{l:List α}{i:Nat}{x:α}(h:l[i]?=some x):l.drop i=x::l.drop (i+1):=by
 obtain⟨hi,e⟩:=Pq.mp h;rw[Rn hi,e]
theorem KnAt.bd {K:Ph}{H H':Hp}{d e:Addr}{σ:Kn}{M:Nat}{kvs:List (Av×V)}(h:KnAt K H d σ M kvs)(n:d≠e)(b:Bd1 e H H'):KnAt K H' d σ M kvs:=⟨b.b d _ n h.e,λm=>(h.v m).imp id λ⟨k,v,h1,h2,F⟩=>⟨k,v,h1,h2,F.same b.t⟩,h.l⟩
theorem KnAt.set {K:Ph}{H:Hp}{d e:Addr}{σ:Kn}{M:Nat}{kvs:List (Av×V)}{us vs:List V}(h:KnAt K H d σ M kvs)(he:H e=some (.lst us)):KnAt K (upd H e (.lst vs)) d σ M kvs:=h.bd (Co h.e he (λz=>by cases z)) (Bd1.set he)
structure KeJ (K:Ph)(t:Tr)(fs:List Bool)(σf:Kn)(pR pk:Addr)(rv:List V)(HB H':Hp)(i:Nat)(d:Addr)(σ:Kn)(kvs:List (Av×V))(kv:List V):Prop where
 r:H' pR=some (.lst rv)
 k:H' pk=some (.lst kv)
 a:Al (LkAt K H') kv ((Hu t fs).take i)
 x:SameT HB H'
 n:KnAt K H' d σ t.size kvs
 o:∃rk c,KnOk t.size σ rk c
 f:E2 t.size ((B1 0 [] none t).drop i) σ (fs.drop i) σf
structure DuJ (K:Ph)(t:Tr)(ks:List Kd)(fs:List Bool)(σf:Kn)(rr cs:Nat->Nat)(pk ps pd d:Addr)(kvs:List (Av×V))(kv:List V)(HB H':Hp)(i:Nat)(dv:List V):Prop where
 k:H' pk=some (.lst kv)
 s:H' ps=some (.lst (Fh ((Pn (cs (2*i))).map rr)))
 e:H' pd=some (.lst dv)
 a:Al (LkAt K H') dv ((Cq t ks fs).take i)
 x:SameT HB H'
 n:KnAt K H' d σf t.size kvs
def Zes (K:Ph):Sp:=λvs H Q _=>∃(a:Addr)(ns:List Int),vs=[.ref a]/\SqL K H a (ns.map V.int)/\ns.length<=63/\∀H',Q (.bl true) H'
theorem sc_law:Bm ["_law_script","_law_names_here","_law_few","_law_tree_here","_law_turn","_law_known","_law_kept","_law_place","_law_given","_law_asked","_law_mark","_law_tried","_law_seen","_law_due"] ["_law_script"] (Bh Kf):=by walk_at "sc"
theorem Zlm (F:Fun K "law" "law" Kf f fd)(T:Txt K mg)(C__law_cell_at:A7 P w K mg base 1 "_law_cell_at" ["_law_script","_law_k"] (Nq K))(C__law_names:A7 P w K mg base 1 "_law_names" ["_law_cell","_law_at"] Zc9)(C__law_tree:A7 P w K mg base 17 "_law_tree" ["_law_cells","_law_names_here"] (Hg K 15))(C__law_two:A7 P w K mg base 2 "_law_two" ["_law_script","_law_names_here"] (Zhv K))(C__law_ring:A7 P w K mg base 18 "_law_ring" ["_law_script","_law_names_here"] (Zi9 K))(C__law_rows:A7 P w K mg base 3 "_law_rows" ["_law_tree_here"] (Zi1 K))(C__law_solved:A7 P w K mg base 167 "_law_solved" ["_law_one","_law_other","_law_known"] (Hs K 41))(C__law_put:A7 P w K mg base 126 "_law_put" ["_law_kind","_law_known"] (F9 K 125))(C__law_numbered:A7 P w K mg base 46 "_law_numbered" ["_law_kind","_law_seen"] (Ip K 45))(C_looks:A7 P w K mg base 8 "looks" ["tree"] (Zia K))(C__law_same:A7 P w K mg base 141 "_law_same" ["_law_found","_law_due"] (Ii K 140)):A8 P w K mg base A9 168 f fd ["_law_script"] (Zes K):=by
 refine F.okq sc_law (λvs H Q E h=>?_) (λdj A outer s H vs Q E Z h=>?_)
 ·obtain⟨a,ns,rfl,_⟩:=h;rfl
 ·obtain⟨a,ns,rfl,hS,hl,q⟩:=h;have S:Script K H a:=⟨ns,hS,hl⟩;refine⟨_,Ae (As 1 sc_law (A5 C__law_names (Z.mono (by lia)) (Aa (A5 C__law_cell_at (Z.mono (by lia)) (Aa (qv 0) (Aa Ad Ab))) (Aa (A5 C__law_cell_at (Z.mono (by lia)) (Aa (qv 0) (Aa Ad Ab))) Ab))))
   (Ae (As 2 sc_law (Er (Fm K) (qv 1) (Go) (Dm (Ah K (Bc (M7 (xs:=[.int 1,.int 2,.int 2,.int 3,.int 8]) rfl)) (A4 B7 (A4 D8 (A5 C__law_cell_at (Z.mono (by lia)) (Aa (qv 0) (Aa Ad Ab))) Ad) Ad)))))
   (Ae (As 3 sc_law (A5 C__law_tree (Z.mono (by lia)) (Aa (Er (Fm K) (qv 0) (Dm Ad) (Dm Ad)) (Aa (qv 2) Ab))))
   (Ae (As 4 sc_law (A4 B7 (A5 C__law_cell_at (Z.mono (by lia)) (Aa (qv 0) (Aa Ad Ab))) Ad))
   (Ae (Au (QW.qt (Zca (Aw (Bf K Z.u200) (qv 4) Ad (A0 _)) (Zcm (Aw (Bf K Z.u200) (qv 4) Ad (A0 _))))) (Ag (As 3 sc_law (A5 C__law_two (Z.mono (by lia)) (Aa (qv 0) (Aa (qv 1) Ab))))) Ay)
   (Ae (Au (Aw (Bf K Z.u200) (qv 4) Ad (A0 _)) (Ag (As 3 sc_law (A5 C__law_ring (Z.mono (by lia)) (Aa (qv 0) (Aa (qv 1) Ab))))) Ay)
   (Ae (As 5 sc_law (Np))
   (Ae (As 6 sc_law (Bc Ab))
   (Ae (Cw Qc rfl (D6 K (A5 C__law_rows (Z.mono (by lia)) (Aa (qv 3) Ab))) (Dq K (n:=4) rfl (Bu (Bb (i:=7) sc_law.nd rfl (Or.inl rfl)) (Bu (Bb (i:=8) sc_law.nd rfl (Or.inl rfl)) (Bu (Bb (i:=9) sc_law.nd rfl (Or.inl rfl)) (Bu (Bb (i:=10) sc_law.nd rfl (Or.inl rfl)) (Di)))))) (Ae (Au (E6 (N2 (qv 9))) (Ae (As 11 sc_law (Hk Zil (by rfl) T.dict (by right) (Aa (qv 5) Ab)))
   (Ag (Au (Ex (A5 C__law_solved (Z.mono (by lia)) (Aa (qv 8) (Aa (qv 9) (Aa (qv 11) Ab))))) (Ag (As 5 sc_law (qv 11))) (Ag (As 10 sc_law Aj))))) Ay)
   (Ag (Cr (Cu K Qd Qs Qt C9 (qv 6) (Aa (Ak (Aa (qv 7) (Aa (qv 8) (Aa (qv 9) (Aa (qv 10) Ab))))) Ab))))))
   (Ae (As 12 sc_law (Bc Ab))
   (Ae (As 13 sc_law (Bc Ab))
   (Ae (Cw Qc rfl (D6 K (qv 6)) (Dq K (n:=4) rfl (Bu (Bb (i:=7) sc_law.nd rfl (Or.inl rfl)) (Bu (Bb (i:=8) sc_law.nd rfl (Or.inl rfl)) (Bu (Bb (i:=9) sc_law.nd rfl (Or.inl rfl)) (Bu (Bb (i:=10) sc_law.nd rfl (Or.inl rfl)) (Di)))))) (Ae (As 8 sc_law (A5 C__law_numbered (Z.mono (by lia)) (Aa (A5 C__law_put (Z.mono (by lia)) (Aa (qv 8) (Aa (qv 5) Ab))) (Aa (qv 12) Ab))))
   (Ae (Au (E6 (N2 (qv 9))) (Ag (As 9 sc_law (A5 C__law_numbered (Z.mono (by lia)) (Aa (A5 C__law_put (Z.mono (by lia)) (Aa (qv 9) (Aa (qv 5) Ab))) (Aa (qv 12) Ab))))) Ay)
   (Ag (Cr (Cu K Qd Qs Qt C9 (qv 13) (Aa (Ak (Aa (qv 7) (Aa (qv 8) (Aa (qv 9) (Aa (qv 10) Ab))))) Ab)))))))
   (Ag (Ar (A5 C__law_same (Z.mono (by lia)) (Aa (A5 C_looks (Z.mono (by lia)) (Aa (qv 3) Ab)) (Aa (qv 13) Ab)))))))))))))))),?_⟩
  have bg:=big;left;refine⟨a,0,rfl,S,by decide,λz0=>?_⟩;left;refine⟨a,1,rfl,S,by decide,λz1=>?_⟩;left;refine⟨z0,z1,rfl,λpn ts H1 s1 dc lt bt e1=>?_⟩;left;refine⟨sz5,λp5 h5=>?_⟩;have s2:Same H1 (upd H1 p5 (.lst [V.int 1,.int 2,.int 2,.int 3,.int 8])):=Same.upd h5;left;refine⟨a,1,rfl,(S.same s1).same s2,by decide,λz2=>?_⟩;left;obtain⟨k,hk,k1,k4⟩:=Zr0 (z2 / 8);refine Ba (SqL.of Ac) hk ?_;refine⟨_,rfl,?_⟩;refine Jq (SqL.of (s2 _ _ e1)) λpf ci=>?_;rw[Ztl];have N0:Nms K (upd (upd H1 p5 (.lst [V.int 1,.int 2,.int 2,.int 3,.int 8])) pf (.lst ((ts.take k).map V.str))) pf (ts.take k):=⟨Ac,by rw[Qb];lia,λt h=>bt t (List.mem_of_mem_take h),by rw[Qb];lia⟩;have s3:=s2.put (o:=.lst ((ts.take k).map V.str)) ci;revert N0 s3;generalize upd (upd H1 p5 (.lst [V.int 1,.int 2,.int 2,.int 3,.int 8])) pf (.lst ((ts.take k).map V.str))=H3;intro N0 s3;have b7:=s1.trans s3;left;refine Jq (b7.seq hS) λpc ao=>?_;obtain⟨ms,em,lm⟩:=Zcg ns (some 2) (some 16);rw[em];have df:ms.length<=14:=by
   rw[lm,show(some 2:Option Int)=some ((2:Nat):Int) from rfl,show(some 16:Option Int)=some ((16:Nat):Int) from rfl,HT.sIx_nat,HT.sIx_nat];lia
  left;refine⟨pc,pf,ms,ts.take k,rfl,Ac,N0.same (Same.upd ao),by lia,by lia,λv t H4 s4 ht hg hz=>?_⟩;have hz:t.size<=40:=by unfold Ga at hz;lia
  have bw:Same H3 H4:=(Same.upd ao).trans s4;have a6:=b7.trans bw;have bj:=(s3.trans bw) _ _ e1;left;refine⟨a,16,rfl,S.same a6,by decide,λFq=>?_⟩;walk_at "q";refine' s_rI ?c ?_
  case c=>decide
  walk_at "q";refine Ds (t:=Dh _ _ _) (R:=λI H'=>Same H4 H'/\∃v t,I=[some (.ref a),some (.ref pn),some (.ref pf),some v,some (.int (Fq % 5)),none,none,none,none,none,none,none,none,none]/\TrAt K H' v t/\GT t/\t.size<=40) ?_ ?_
  ·intro Y hY;have stay:Y _ H4:=hY _ _ ⟨Same.refl _,v,t,rfl,ht,hg,hz⟩;left;refine Bk (λ_=>?_) (λ_=>?_)
   ·left;refine⟨a,pn,ts,rfl,S.same a6,bj,lt,λv' t' H5 s5 au as av=>?_⟩;left;exact hY _ _ ⟨s5,v',t',rfl,au,as,av⟩
   ·left;refine Bk (λ_=>?_) (λ_=>?_)
    ·left;refine⟨a,pn,ts,rfl,S.same a6,bj,lt,λv' t' H5 s5 au as av=>?_⟩;left;exact hY _ _ ⟨s5,v',t',rfl,au,as,av⟩
    ·left;exact stay
  rintro _ H5 ⟨s5,v,t,rfl,ht,hg,hz⟩;walk_at "q";refine Ds (t:=Dh _ _ _) (R:=λI H'=>Same H5 H'/\∃v t,I=[some (.ref a),some (.ref pn),some (.ref pf),some v,some (.int (Fq % 5)),none,none,none,none,none,none,none,none,none]/\TrAt K H' v t/\GT t/\t.size<=40) ?_ ?_
  ·intro Y hY;have stay:Y _ H5:=hY _ _ ⟨Same.refl _,v,t,rfl,ht,hg,hz⟩;left;refine Bk (λ_=>?_) (λ_=>?_)
   ·left;refine⟨a,pn,ns,ts,rfl,(a6.trans s5).seq hS,hl,s5 _ _ bj,lt,bt,λv' t' H6 s6 au as av=>?_⟩;left;exact hY _ _ ⟨s6,v',t',rfl,au,as,av⟩
   ·left;exact stay
  rintro _ H6 ⟨s6,v,t,rfl,ht,hg,hz⟩;obtain⟨ks,fs,aa⟩:=Zn0 hg.a hz;have bp:=Zbm (M:=t.size) t 0 [] none (by lia) (λx h=>nomatch h) (λa h=>by cases h);obtain⟨fs',bh,a8⟩:=Oh (M:=t.size) (B1 0 [] none t) (λ_=>none) _ _ (kn0 _) bp;obtain⟨rr,cs,O⟩:=Zo3 hg.a hg.w hz aa a8;have ef:=O.f;subst ef;obtain⟨de,cf,ag⟩:=O.kn;have dh:cf<=80:=by have:=ag.f;lia
  left;refine λd0 c4=>?_;have sd:=Same.upd (o:=.dK []) c4;have ed:upd H6 d0 (.dK []) d0=some (.dK []):=Ac;revert sd ed;generalize upd H6 d0 (.dK [])=H7;intro sd ed;left;refine⟨Bo,λpk cv=>?_⟩;have sk:=Same.upd (o:=.lst []) cv;have ek:upd H7 pk (.lst []) pk=some (.lst []):=Ac;revert sk ek;generalize upd H7 pk (.lst [])=H8;intro sk ek;have b6:=ht.same (sd.trans sk);left;refine⟨v,t,rfl,b6,hg,hz,λpR rv H9 s9 cu eR cc=>?_⟩;have cq:=b6.same s9;have cw:pk≠pR:=A6 ek cu;have ba:rv.length=t.size:=by rw[cc.1,Zjc]
  refine .inl ⟨pR,rfl,⟨_,SqL.of eR⟩,?_⟩;refine Jr (K:=K) (a:=pR) (xs:=rv) (λi I H'=>eX9 λd y7 y8 y9 an ae σ kvs kv=>I=[some (.ref a),some (.ref pn),some (.ref pf),some v,some (.int (Fq % 5)),some (.ref d),some (.ref pk),y7,y8,y9,an,ae,none,none]/\KeJ K t fs bh pR pk rv H9 H' i d σ kvs kv) ⟨d0,none,none,none,none,none,λ_=>none,[],[],rfl,⟨eR,s9 _ _ ek,.nil,SameT.refl _,⟨(sk.trans s9) _ _ ed,λn=>.inl ⟨rfl,rfl⟩,by rw[W1,Rc];exact Hi _ _⟩,⟨_,_,kn0 _⟩,by simpa using a8⟩⟩ ?_ ?_ ?_
  ·rintro i I H' _ ⟨_,_,_,_,_,_,_,_,_,_,J⟩;exact SqL.of J.r
  ·rintro i x I HA hx ⟨d,y7,y8,y9,an,ae,σ,kvs,kv,rfl,J⟩;have hi:=(Pq.mp hx).1;obtain⟨r,ah,e,p,g,b,rfl,qe,qp,kg,ka⟩:=cc.get hx;obtain⟨xw,⟨k0,ak⟩,bq,ap,er⟩:=Zg4 ah;subst er;have kg:KdAt K H9 g k0:=kg;have ka:AkD K H9 b ak:=ka;have ar:=kg.same J.x;have aq:=ka.same J.x;clear kg ka;have bs:=bp _ (Qu ap);have Ff:=J.f;rw[Zna ap]at Ff;have dg:kv.length<=40:=by rw[J.a.1,Qb];lia
   left;refine Dp (J.x.tup qe) rfl ?_;walk_at "q";refine Ds (t:=Dh _ _ _) (R:=λI H'=>eX4 λd' bb ai aj=>I=[some (.ref a),some (.ref pn),some (.ref pf),some v,some (.int (Fq % 5)),some (.ref d'),some (.ref pk),some (.ref p),some g,some b,some (.str (if fs.getD i false=true then Cg t xw.1 xw.2 true else ("unlike":Str))),bb,none,none]/\SameT HA H'/\H' pR=some (.lst rv)/\H' pk=some (.lst kv)/\KnAt K H' d' ai t.size aj/\(∃rk c,KnOk t.size ai rk c)/\E2 t.size ((B1 0 [] none t).drop (i+1)) ai (fs.drop (i+1)) bh) ?_ ?_
   ·intro Y hY;obtain⟨cr,c1,c2⟩:=J.o;generalize hfd:fs.drop i=fd at Ff;cases Ff with
    |top Ft =>
     obtain⟨hb,hd⟩:=Zba hfd;have eb:fs.getD i false=true:=by rw[Qm,hb];rfl
     rcases aq with⟨_,rfl⟩|⟨k',z,_⟩
     ·left;rw[decide_eq_true (show V.non=V.non from rfl)];left;exact hY _ _ ⟨d,ae,σ,kvs,by rw[if_pos eb];rfl,SameT.refl _,J.r,J.k,J.n,J.o,by rw[hd];exact Ft⟩
     ·cases z
    | @ok _ a0 _ _ ai _ fr sl Ft =>
     obtain⟨hb,hd⟩:=Zba hfd;have eb:fs.getD i false=true:=by rw[Qm,hb];rfl
     rcases aq with⟨z,_⟩|⟨k',z,al⟩
     ·cases z
     cases z;obtain⟨bc,rfl⟩:=al.ref;left;rw[decide_eq_false (show ¬V.ref bc=V.non from λz=>by cases z)];left;refine⟨d,kvs,rfl,J.n.e,λpT hT=>?_⟩;have sT:=Same.upd (o:=.dK kvs) hT;have nT:KnAt K (upd HA pT (.dK kvs)) pT σ t.size kvs:=⟨Ac,(J.n.same sT).v,J.n.l⟩;have nR:pR≠pT:=A6 J.r hT;have nk:pk≠pT:=A6 J.k hT;revert sT nT;generalize upd HA pT (.dK kvs)=HT;intro sT nT;left;refine⟨g,.ref bc,pT,k0,a0,σ,t.size,kvs,some ai,rfl,⟨ar.same sT.t,al.same sT.t,nT,hz,J.o,bs.1.ok σ,(bs.2 a0 rfl).ok σ⟩,Zfs sl 41 (by lia),(λz=>by cases z),λI z aj HC bd c5=>?_⟩;cases z;left;obtain⟨cz,c',cl⟩:=Hq sl ai rfl cr c1 c2 (bs.1.ok σ) ((bs.2 a0 rfl).ok σ);exact hY _ _ ⟨pT,_,ai,aj,by rw[if_pos eb];rfl,sT.t.trans bd.t,bd.b _ _ nR (sT _ _ J.r),bd.b _ _ nk (sT _ _ J.k),c5,⟨cz,c',cl⟩,by rw[hd];exact Ft⟩
    | @no _ a0 _ _ _ fr sl Ft =>
     obtain⟨hb,hd⟩:=Zba hfd;have eb:¬fs.getD i false=true:=by rw[Qm,hb];decide
     rcases aq with⟨z,_⟩|⟨k',z,al⟩
     ·cases z
     cases z;obtain⟨bc,rfl⟩:=al.ref;left;rw[decide_eq_false (show ¬V.ref bc=V.non from λz=>by cases z)];left;refine⟨d,kvs,rfl,J.n.e,λpT hT=>?_⟩;have sT:=Same.upd (o:=.dK kvs) hT;have nT:KnAt K (upd HA pT (.dK kvs)) pT σ t.size kvs:=⟨Ac,(J.n.same sT).v,J.n.l⟩;have nR:pR≠pT:=A6 J.r hT;have nk:pk≠pT:=A6 J.k hT;have cg:d≠pT:=A6 J.n.e hT;revert sT nT;generalize upd HA pT (.dK kvs)=HT;intro sT nT;left;refine⟨g,.ref bc,pT,k0,a0,σ,t.size,kvs,none,rfl,⟨ar.same sT.t,al.same sT.t,nT,hz,J.o,bs.1.ok σ,(bs.2 a0 rfl).ok σ⟩,Zfs sl 41 (by lia),(λ_ HC bd _=>?_),λI z=>by cases z⟩;left;exact hY _ _ ⟨d,_,σ,kvs,by rw[if_neg eb];rfl,sT.t.trans bd.t,bd.b _ _ nR (sT _ _ J.r),bd.b _ _ nk (sT _ _ J.k),(J.n.same sT).bd cg bd,J.o,by rw[hd];exact Ft⟩
   rintro _ HB ⟨d',bb,ai,aj,rfl,tB,cy,a3,nB,oB,fB⟩;generalize hmk:(if fs.getD i false=true then Cg t xw.1 xw.2 true else ("unlike":Str))=mk;left;refine B9 (SqL.of a3) ?_;left;refine⟨Jy,λpc ao=>?_⟩;have U:=Same.upd (o:=.tup [.ref p,g,b,.str mk]) ao;have ec:upd HB pc (.tup [.ref p,g,b,.str mk]) pc=some (.tup [.ref p,g,b,.str mk]):=Ac;revert U ec;generalize upd HB pc (.tup [.ref p,g,b,.str mk])=HC;intro U ec;left;refine Cy (U _ _ a3) (by lia) ?_;have tS:=SameT.set (o:=.lst (kv++[.ref pc])) (U _ _ a3);have am:=J.x.trans (tB.trans (U.t.trans tS));left;refine⟨d',_,_,_,_,_,ai,aj,kv++[.ref pc],rfl,⟨by rw[Ai cw.symm];exact U _ _ cy,Ac,?_,am,(nB.same U).set (U _ _ a3),oB,fB⟩⟩;have e1:(Hu t fs).take (i+1)=(Hu t fs).take i++[Zbj fs i (Iu t xw (k0,ak))]:=by
    rw[Qq];unfold Hu;rw[T7,ah];rfl
   rw[e1];refine(J.a.mono (LkAt.same (tB.trans (U.t.trans tS)))).snoc ⟨pc,p,g,b,rfl,tS.tup (SqT.of ?_),(am p).1 _ qp,ar.same (tB.trans (U.t.trans tS)),aq.same (tB.trans (U.t.trans tS))⟩;rw[ec,<- hmk];rfl
  rintro I HA ⟨d,y7,y8,y9,an,ae,σ,kvs,kv,rfl,J⟩;have Ff:=J.f;rw[ba,Tx (by rw[Hf];exact Pk _)]at Ff;have Ja:=J.a;have cj:(Hu t fs).length=t.size:=by unfold Hu;rw[Wm,Zjc]
  rw[ba,Rp (by lia)]at Ja;obtain rfl:σ=bh:=by
   generalize hfd:fs.drop t.size=fd at Ff;cases Ff with
   |nil=>rfl
  have cm:=cq.sameT J.x;have bx:kv.length=t.size:=by rw[Ja.1,cj]
  left;refine⟨Bo,λps b4=>?_⟩;have ss:=Same.upd (o:=.lst []) b4;have es:upd HA ps (.lst []) ps=some (.lst []):=Ac;have b8:pk≠ps:=A6 J.k b4;revert ss es;generalize upd HA ps (.lst [])=HB;intro ss es;left;refine⟨Bo,λpd bu=>?_⟩;have sp:=Same.upd (o:=.lst []) bu;have ep:upd HB pd (.lst []) pd=some (.lst []):=Ac;have c6:pk≠pd:=A6 (ss _ _ J.k) bu;have bf:ps≠pd:=A6 es bu;revert sp ep;generalize upd HB pd (.lst [])=HC;intro sp ep;have ax:=ss.trans sp;have c9:=cm.same ax;have cp:=Ja.mono (LkAt.same ax.t);have nC:=J.n.same ax;have bv:=ax _ _ J.k;have c8:=sp _ _ es;left;refine .inl ⟨pk,rfl,⟨_,SqL.of bv⟩,?_⟩;refine Jr (K:=K) (a:=pk) (xs:=kv) (λi I H'=>eX6 λy7 y8 y9 an ae dv=>I=[some (.ref a),some (.ref pn),some (.ref pf),some v,some (.int (Fq % 5)),some (.ref d),some (.ref pk),y7,y8,y9,an,ae,some (.ref ps),some (.ref pd)]/\DuJ K t ks fs σ rr cs pk ps pd d kvs kv HC H' i dv) ⟨_,_,_,_,_,[],rfl,⟨bv,by rw[Nat.mul_zero,O.c0];exact c8,ep,.nil,SameT.refl _,nC⟩⟩ ?_ ?_ ?_
  ·rintro i I H' _ ⟨_,_,_,_,_,_,_,D⟩;exact SqL.of D.k
  ·rintro i x I HD hx ⟨y7,y8,y9,an,ae,dv,rfl,D⟩;have hi:=(Pq.mp hx).1;obtain⟨r,ah,e,p,g,b,rfl,qe,qp,kg,ka⟩:=cp.get hx;obtain⟨r0,ch,er⟩:∃r0,(Fo t)[i]?=some r0/\r=Zbj fs i r0:=by
    unfold Hu at ah;rw[T7]at ah;cases z:(Fo t)[i]? with
    |none=>rw[z]at ah;cases ah
    |some r0=>rw[z]at ah;exact⟨r0,rfl,(Pz ah).symm⟩
   subst er;obtain⟨xw,⟨k0,ak⟩,bq,ap,er⟩:=Zg4 ch;subst er;have kg:KdAt K HC g k0:=kg;have ka:AkD K HC b ak:=ka;have qe:SqT K HC e [.ref p,g,b,.str (if fs.getD i false=true then Cg t xw.1 xw.2 true else ("unlike":Str))]:=qe;rw[Zl0]at qe;have qp:HC p=some (.tup (Bv xw.1)):=qp;have ar:=kg.same D.x;have aq:=ka.same D.x;clear kg ka;have bs:=bp _ (Qu ap);have di:dv.length<=40:=by rw[D.a.1,Qb];lia
   obtain⟨b1,bi⟩:=ag.t.put k0;obtain⟨b2,bo⟩:=ag.t.put (ak.getD k0);obtain⟨n1,n2,n3⟩:=O.n i _ b1 b2 ap bi bo;have o1:=Es ag.k bi (bs.1.ok σ);have d1:=ag.deep o1;have p1:=(Nk ag.t bi 0 (λ_ _ _=>P8 _)).up (M:=125) (by lia);have l1:∀j,((Pn (cs j)).map rr).length<=200:=λj=>by rw[Pp,Vh];exact O.c1 j
   have g1:=l1 (2*i+1);have g2:=l1 (2*(i+1));have a9:=Zkw hg.a hg.w ap;have be:=Zjw bq;generalize hmk:Cg t xw.1 xw.2 (fs.getD i false)=mk at qe;left;refine Dp (D.x.tup qe) rfl ?_;left;refine⟨g,d,k0,b1,σ,t.size,kvs,rfl,ar,D.n,p1,λu1 HE sE ku=>?_⟩;left;refine⟨u1,ps,b1,_,rfl,ku,by lia,sE _ _ D.s,by rw[n1];exact Qn g1 (by decide),λw1 HF bd a5 kw=>?_⟩;rw[n1]at a5 kw;have b0:=sE.t.trans bd.t;have b5:=bd.b _ _ b8 (sE _ _ D.k);have cb:=bd.b _ _ bf.symm (sE _ _ D.e);have a4:=(D.n.same sE).bd (Co D.n.e D.s (λz=>by cases z)) bd;walk_at "q";refine Ds (t:=Dh _ _ _) (R:=λI H'=>∃w2,I=[some (.ref a),some (.ref pn),some (.ref pf),some v,some (.int (Fq % 5)),some (.ref d),some (.ref pk),some (.ref p),some w1,some w2,some (.str mk),ae,some (.ref ps),some (.ref pd)]/\SameT HF H'/\H' pk=some (.lst kv)/\H' pd=some (.lst dv)/\KnAt K H' d σ t.size kvs/\H' ps=some (.lst (Fh ((Pn (cs (2*(i+1)))).map rr)))/\AkD K H' w2 (if xw.1=[] then none else some (ks.getD (2*i+1) .num))) ?_ ?_
   ·intro Y hY;rcases aq with⟨rfl,rfl⟩|⟨a0,rfl,al⟩
    ·have h0:xw.1=[]:=be.mpr (a9.mp rfl);left;rw[decide_eq_true (show V.non=V.non from rfl)];left;exact hY _ _ ⟨.non,rfl,SameT.refl _,b5,cb,a4,by rw[n3 rfl];exact a5,by rw[if_pos h0];exact .inl ⟨rfl,rfl⟩⟩
    ·have h0:¬xw.1=[]:=λz=>by have:=a9.mpr (be.mp z);cases this
     obtain⟨bc,rfl⟩:=al.ref;have o2:=Es ag.k bo ((bs.2 a0 rfl).ok σ);have d2:=ag.deep o2;have p2:=(Nk ag.t bo 0 (λ_ _ _=>P8 _)).up (M:=125) (by lia);left;rw[decide_eq_false (show ¬V.ref bc=V.non from λz=>by cases z)];left;refine⟨.ref bc,d,a0,b2,σ,t.size,kvs,rfl,al.same b0,a4,p2,λu2 HG sG c3=>?_⟩;left;refine⟨u2,ps,b2,_,rfl,c3,by lia,sG _ _ a5,by rw[n2];exact Qn g2 (by decide),λw2 HI a7 ca ce=>?_⟩;rw[n2]at ca ce;left;exact hY _ _ ⟨w2,rfl,sG.t.trans a7.t,a7.b _ _ b8 (sG _ _ b5),a7.b _ _ bf.symm (sG _ _ cb),(a4.same sG).bd (Co a4.e a5 (λz=>by cases z)) a7,ca,by rw[if_neg h0];exact .inr ⟨_,rfl,ce⟩⟩
   rintro _ HG ⟨w2,rfl,tG,cn,ay,ck,da,cx⟩;left;refine B9 (SqL.of ay) ?_;left;refine⟨Jy,λpc ao=>?_⟩;have U:=Same.upd (o:=.tup [.ref p,w1,w2,.str mk]) ao;have ec:upd HG pc (.tup [.ref p,w1,w2,.str mk]) pc=some (.tup [.ref p,w1,w2,.str mk]):=Ac;revert U ec;generalize upd HG pc (.tup [.ref p,w1,w2,.str mk])=HI;intro U ec;left;refine Cy (U _ _ ay) (by lia) ?_;have tS:=SameT.set (o:=.lst (dv++[.ref pc])) (U _ _ ay);have b9:=b0.trans (tG.trans (U.t.trans tS));have am:=D.x.trans b9;left;refine⟨_,_,_,_,_,dv++[.ref pc],rfl,⟨by rw[Ai c6];exact U _ _ cn,by rw[Ai bf];exact U _ _ da,Ac,?_,am,(ck.same U).set (U _ _ ay)⟩⟩;have e1:(Cq t ks fs).take (i+1)=(Cq t ks fs).take i++[Im t ks fs i xw]:=by
    rw[Qq];unfold Cq;rw[T7,bq];rfl
   rw[e1];refine(D.a.mono (LkAt.same b9)).snoc ⟨pc,p,w1,w2,rfl,tS.tup (SqT.of ?_),(am p).1 _ qp,kw.same (tG.trans (U.t.trans tS)),cx.same (U.t.trans tS)⟩;rw[ec,<- hmk];rfl
  rintro I HD ⟨y7,y8,y9,an,ae,dv,rfl,D⟩;have dl:(Cq t ks fs).length=t.size:=by unfold Cq;rw[Wm];exact D5 [] t
  have Da:=D.a;rw[bx,Rp (by lia)]at Da;have b3:∀r∈Cq t ks fs,r.1.length<=1000:=λr Z=>by
   unfold Cq at Z;obtain⟨i,hi,rfl⟩:=List.mem_mapIdx.mp Z;have:=Jt [] t _ (Q4 hi);simp at this;show((walk [] t)[i]).1.length<=1000;lia
  left;refine⟨v,t,ks,fs,rfl,c9.sameT D.x,hg.s,hz,aa,λpL db HE sE _ eL c7=>?_⟩;left;refine⟨.ref pL,.ref pd,_,134,rfl,by decide,Al.lst (g:=Mw) c7 eL (λv x hx h=>h.d (M9 aa hz hx).1 (M9 aa hz hx).2),Al.lst (g:=Mw) (Da.mono (LkAt.same sE.t)) (sE _ _ D.e) (λv x hx h=>h.d (M9 aa hz hx).1 (M9 aa hz hx).2),Zml (by lia) (λx hx=>Zm5 x (b3 x hx)),λHL sL=>?_⟩;exact q _
theorem Zjp:Bm ["shapes","shape"] ["shapes","shape"] (Bh Mf):=by walk_at "sc"
theorem Zn3 (F:Fun K "new_kind" "new_kind" Mf f fd)(T:Txt K mg):A8 P w K mg base A9 1 f fd ["shapes","shape"] Zh1:=by
 refine F.okq Zjp (λvs H Q E h=>?_) (λO A outer s H vs Q E Y h=>?_)
 ·obtain⟨a,x,I,rfl,_⟩:=h;rfl
 ·obtain⟨a,x,I,rfl,ha,Z,q⟩:=h;refine⟨_,Ae (Cr (Cu K Qd Qs Qt C9 (qv 0) (Aa (qv 1) Ab)))
   (Ag (Ar (A4 Zbu (B6 (Dc K) (by rfl) T.len (by right) (Aa (qv 0) Ab)) Ad))),?_⟩
  have U:=big;left;refine B9 (SqL.of ha) ?_;left;refine Cy ha (by lia) ?_;left;refine D0 (SqL.of Ac) ?_;left;rw[Pr,Qg,show((I.length+1:Nat):Int)-1=(I.length:Nat) by lia];exact q
end
local macro_rules | `(tactic| walk_at "zA")=>`(tactic| exact(let +zeta a:=_; let +zeta b:=_; let +zeta c:=_; have +usedOnly q:(‹Stmt›:Stmt)=.Assign a b c:=rfl; .Assign a b c))
local macro_rules | `(tactic| walk_at "zC")=>`(tactic| exact(let +zeta a:=_; let +zeta b:=_; let +zeta c:=_; let +zeta d:=_; let +zeta e:=_; let +zeta f:=_; let +zeta g:=_; let +zeta h:=_; let +zeta i:=_; let +zeta j:=_; let +zeta k:=_; have +usedOnly q:(‹Stmt›:Stmt)=.ClassDef a b c d e f g h i j k:=rfl; .ClassDef a b c d e f g h i j k))
local macro_rules | `(tactic| walk_at "zF")=>`(tactic| exact(let +zeta a:=_; let +zeta b:=_; let +zeta c:=_; let +zeta d:=_; let +zeta e:=_; let +zeta f:=_; let +zeta g:=_; let +zeta h:=_; let +zeta i:=_; let +zeta j:=_; have +usedOnly q:(‹Stmt›:Stmt)=.FunctionDef a b c d e f g h i j:=rfl; .FunctionDef a b c d e f g h i j))
noncomputable def w0:Stmt:=by let +zeta s:=top 0;walk_at "zA"
noncomputable def w1:Stmt:=by let +zeta s:=top 1;walk_at "zC"
noncomputable def w2:Stmt:=by let +zeta s:=top 2;walk_at "zC"
noncomputable def w3:Stmt:=by let +zeta s:=top 3;walk_at "zC"
noncomputable def w4:Stmt:=by let +zeta s:=top 4;walk_at "zA"
noncomputable def w5:Stmt:=by let +zeta s:=top 5;walk_at "zF"
noncomputable def w6:Stmt:=by let +zeta s:=top 6;walk_at "zA"
noncomputable def w7:Stmt:=by let +zeta s:=top 7;walk_at "zF"
noncomputable def w8:Stmt:=by let +zeta s:=top 8;walk_at "zF"
noncomputable def w9:Stmt:=by let +zeta s:=top 9;walk_at "zF"
noncomputable def Eo:Stmt:=by let +zeta s:=top 10;walk_at "zA"
noncomputable def Fd:Stmt:=by let +zeta s:=top 11;walk_at "zF"
noncomputable def Ib:Stmt:=by let +zeta s:=top 12;walk_at "zF"
noncomputable def w13:Stmt:=by let +zeta s:=top 13;walk_at "zF"
noncomputable def w14:Stmt:=by let +zeta s:=top 14;walk_at "zF"
noncomputable def w15:Stmt:=by let +zeta s:=top 15;walk_at "zA"
noncomputable def w16:Stmt:=by let +zeta s:=top 16;walk_at "zA"
noncomputable def w17:Stmt:=by let +zeta s:=top 17;walk_at "zA"
noncomputable def w18:Stmt:=by let +zeta s:=top 18;walk_at "zA"
noncomputable def w19:Stmt:=by let +zeta s:=top 19;walk_at "zF"
noncomputable def w20:Stmt:=by let +zeta s:=top 20;walk_at "zF"
noncomputable def w21:Stmt:=by let +zeta s:=top 21;walk_at "zF"
noncomputable def w22:Stmt:=by let +zeta s:=top 22;walk_at "zF"
noncomputable def w23:Stmt:=by let +zeta s:=top 23;walk_at "zF"
noncomputable def w24:Stmt:=by let +zeta s:=top 24;walk_at "zF"
noncomputable def w25:Stmt:=by let +zeta s:=top 25;walk_at "zF"
noncomputable def w26:Stmt:=by let +zeta s:=top 26;walk_at "zF"
noncomputable def w27:Stmt:=by let +zeta s:=top 27;walk_at "zF"
noncomputable def w28:Stmt:=by let +zeta s:=top 28;walk_at "zA"
noncomputable def w29:Stmt:=by let +zeta s:=top 29;walk_at "zA"
noncomputable def w30:Stmt:=by let +zeta s:=top 30;walk_at "zF"
noncomputable def w31:Stmt:=by let +zeta s:=top 31;walk_at "zF"
noncomputable def w32:Stmt:=by let +zeta s:=top 32;walk_at "zA"
noncomputable def w33:Stmt:=by let +zeta s:=top 33;walk_at "zF"
noncomputable def w34:Stmt:=by let +zeta s:=top 34;walk_at "zF"
noncomputable def w35:Stmt:=by let +zeta s:=top 35;walk_at "zF"
noncomputable def w36:Stmt:=by let +zeta s:=top 36;walk_at "zF"
noncomputable def w37:Stmt:=by let +zeta s:=top 37;walk_at "zF"
noncomputable def w38:Stmt:=by let +zeta s:=top 38;walk_at "zF"
noncomputable def w39:Stmt:=by let +zeta s:=top 39;walk_at "zF"
noncomputable def w40:Stmt:=by let +zeta s:=top 40;walk_at "zF"
noncomputable def w41:Stmt:=by let +zeta s:=top 41;walk_at "zF"
noncomputable def w42:Stmt:=by let +zeta s:=top 42;walk_at "zF"
noncomputable def w43:Stmt:=by let +zeta s:=top 43;walk_at "zF"
noncomputable def w44:Stmt:=by let +zeta s:=top 44;walk_at "zF"
noncomputable def w45:Stmt:=by let +zeta s:=top 45;walk_at "zF"
noncomputable def w46:Stmt:=by let +zeta s:=top 46;walk_at "zF"
noncomputable def w47:Stmt:=by let +zeta s:=top 47;walk_at "zF"
noncomputable def w48:Stmt:=by let +zeta s:=top 48;walk_at "zF"
noncomputable def w49:Stmt:=by let +zeta s:=top 49;walk_at "zF"
noncomputable def w50:Stmt:=by let +zeta s:=top 50;walk_at "zF"
noncomputable def w51:Stmt:=by let +zeta s:=top 51;walk_at "zF"
noncomputable def pk0 (r:List Stmt):List Stmt:=w0::w1::w2::w3::w4::w5::w6::w7::r
noncomputable def pk1 (r:List Stmt):List Stmt:=w8::w9::Eo::Fd::Ib::w13::w14::w15::r
noncomputable def pk2 (r:List Stmt):List Stmt:=w16::w17::w18::w19::w20::w21::w22::w23::r
noncomputable def pk3 (r:List Stmt):List Stmt:=w24::w25::w26::w27::w28::w29::w30::w31::r
noncomputable def pk4 (r:List Stmt):List Stmt:=w32::w33::w34::w35::w36::w37::w38::w39::r
noncomputable def pk5 (r:List Stmt):List Stmt:=w40::w41::w42::w43::w44::w45::w46::w47::r
noncomputable def pk6 (r:List Stmt):List Stmt:=w48::w49::w50::w51::r
noncomputable def PWc:Program:=let +zeta a:=_;let +zeta b:=_;let +zeta c:=_;let +zeta d:=_;let +zeta e:=_;let +zeta f:=_;let +zeta g:=_;let +zeta h:=_;let +zeta i:=_;let +zeta j:=_;have +usedOnly q:Sv=⟨⟨a,b,c,d,e⟩,f,g,h,i,j⟩:=rfl;⟨⟨pk0 (pk1 (pk2 (pk3 (pk4 (pk5 (pk6 [])))))),b,c,d,e⟩,f,g,h,i,j⟩
theorem e_PW:PWc=PWc:=rfl
name_quick x_PW for K38.PWc by K38.e_PW
end K38
noncomputable def PySem.W.Fast.tw13823841791546884310:PySem.Program:=PySem.W.Fast.tw7653819737761992238
theorem PySem.W.Fast.te13823841791546884310:Sv=PySem.W.Fast.tw13823841791546884310:=(rfl:Sv=K38.PWc).trans PySem.W.Fast.te7653819737761992238
namespace K38
open PySem L2
noncomputable def vk0 (r:List Stmt):List Stmt:=w1::w2::w3::w5::w7::w8::w9::Fd::r
noncomputable def vk1 (r:List Stmt):List Stmt:=Ib::w13::w14::w16::w17::w18::w19::w20::r
noncomputable def vk2 (r:List Stmt):List Stmt:=w21::w22::w23::w24::w25::w26::w27::w29::r
noncomputable def vk3 (r:List Stmt):List Stmt:=w30::w31::w33::w34::w35::w36::w37::w38::r
noncomputable def vk4 (r:List Stmt):List Stmt:=w39::w40::w41::w42::w43::w44::w45::w46::r
noncomputable def vk5 (r:List Stmt):List Stmt:=w47::w48::w49::w50::w51::r
noncomputable def VWc:Program:={ Sv with main:={ Sv.main with body:=vk0 (vk1 (vk2 (vk3 (vk4 (vk5 []))))) } }
noncomputable def S0:List Stmt:=[w0,w1]
noncomputable def S1:List Stmt:=[w25,w26,w27,w28,w29,w30,w31,w32,w33,w34,w35,w36,w37,w38,w39]
noncomputable def S2:List Stmt:=[w3,w4,w5,w6,w7,w8,w9,Eo]
noncomputable def S3:List Stmt:=[w2]
noncomputable def S4:List Stmt:=[Fd,Ib,w13,w14,w15,w16,w17,w18,w19,w20,w21,w22,w23,w24]
noncomputable def S5:List Stmt:=[w40,w41,w42,w43,w44,w45,w46,w47,w48,w49,w50,w51]
noncomputable def SB:Program×List (List Stmt):=(VWc,[S0,S1,S2,S3,S4,S5])
theorem e_SB:SB=SB:=rfl
name_quick x_SB for K38.SB by K38.e_SB
end K38
noncomputable def PySem.W.Fast.tw18040379912441971723:PySem.Program:=PySem.W.Fast.tw1114695028052178576
theorem PySem.W.Fast.te18040379912441971723:K38.VWc=PySem.W.Fast.tw18040379912441971723:=PySem.W.Fast.te1114695028052178576
noncomputable def PySem.W.Fast.tw3190311974842746119:List Tu:=PySem.W.Fast.tw4016329758881303172
theorem PySem.W.Fast.te3190311974842746119:K38.S0=PySem.W.Fast.tw3190311974842746119:=PySem.W.Fast.te4016329758881303172
noncomputable def PySem.W.Fast.tw383743901375182418:List Tu:=PySem.W.Fast.tw13990659383501091593
theorem PySem.W.Fast.te383743901375182418:K38.S1=PySem.W.Fast.tw383743901375182418:=PySem.W.Fast.te13990659383501091593
noncomputable def PySem.W.Fast.tw7557638466799313909:List Tu:=PySem.W.Fast.tw6206125410564289358
theorem PySem.W.Fast.te7557638466799313909:K38.S2=PySem.W.Fast.tw7557638466799313909:=PySem.W.Fast.te6206125410564289358
noncomputable def PySem.W.Fast.tw7293527738009729078:List Tu:=PySem.W.Fast.tw18013111357654804128
theorem PySem.W.Fast.te7293527738009729078:K38.S3=PySem.W.Fast.tw7293527738009729078:=PySem.W.Fast.te18013111357654804128
noncomputable def PySem.W.Fast.tw1204644915702956728:List Tu:=PySem.W.Fast.tw4330784519277173173
theorem PySem.W.Fast.te1204644915702956728:K38.S4=PySem.W.Fast.tw1204644915702956728:=PySem.W.Fast.te4330784519277173173
noncomputable def PySem.W.Fast.tw3956100022942568157:List Tu:=PySem.W.Fast.tw2381599413275317021
theorem PySem.W.Fast.te3956100022942568157:K38.S5=PySem.W.Fast.tw3956100022942568157:=PySem.W.Fast.te2381599413275317021
namespace K38
open PySem L2 PySem.W
noncomputable def zs (i j:Nat):Stmt:=match top i with|.ClassDef _ _ _ b _ _ _ _ _ _ _=>b.getD j (.Pass ⟨0,0,0,0⟩)|s=>s
noncomputable def ze (P:Params)(s:Str)(t:Tok)(v:Value):DictEntry:=⟨PyData.keyHash P s,.str s t,v⟩
noncomputable abbrev B:=Su
noncomputable def evb (l:List Obj):Bool->List Obj:=@List.rec Obj (λ_=>Bool->List Obj) (λ_=>[]) (λa _ F b=>@Bool.rec (λ_=>List Obj) (F true) (a::F false) b) l
noncomputable def tO (l:List Obj):B:=@Nat.rec (λ_=>List Obj->B) (λ_=>.nil) (λ_ F l=>@List.rec Obj (λ_=>B) .nil (λx r _=>.node x (F (evb r true)) (F (evb r false))) l) 12 l
noncomputable def zv:List (Str×Tok)->List Value
 |[]=>[]
 | (a,b)::t=>.str a b::zv t
noncomputable def zu (l:List (Str×Tok)):Obj:=⟨.type "tuple",none,.seq ⟨zv l⟩,#[]⟩
noncomputable def zt (c:String)(d:Data):Obj:=⟨.type c,none,d,#[]⟩
noncomputable def zf (n q:Str)(s:Stmt)(m:Str)(t:Tok)(c:Addr):Obj:=⟨.type "function",none,.func (Se n q (Io s) (F1 s) (Bh s) .none .none .none (.str m t) none (.ref c) .none),#[]⟩
noncomputable def zh (n q:Str)(s:Stmt):Obj:=⟨.none,none,.func ⟨n,q,Io s,.stmts (F1 s),Bh s,0,[],.none,.none,.none,.none,none,.none,.none,0⟩,#[]⟩
noncomputable def zk (n q:Str)(t:Tok)(l a g:Int)(r:Addr)(b:Bool)(x:Value)(u:Int)(v:Tok):Obj:=⟨.type "code",none,.fields #[.str n t,.str q (t+1),.str "/claim/cut.py" (t+2),.int l 0,.int a 0,.int 0 0,.int 0 0,.int g 0,.ref r,.bool b,.int 181 0,.ref (r+1),.none,.none,.none,x,.int u 0,.int l 0,.str "/claim/cut.py" v],#[]⟩
noncomputable def zw:List (Int×Int×Addr)->List Value
 |[]=>[]
 | (a,b,c)::t=>.int a 0::.int b 0::.ref c::zw t
noncomputable def zy (l:List (Int×Int×Addr)):Obj:=⟨.none,none,.fields ⟨zw l⟩,#[]⟩
noncomputable def zc (n q:Str)(t:Tok)(l a g:Int)(r:Addr)(u:Int)(v:Tok):Obj:=⟨.type "code",none,.fields #[.str n t,.str q (t+1),.str "/claim/cut.py" (t+2),.int l 0,.int a 0,.int 0 0,.int 0 0,.int g 0,.ref r,.bool true,.int 181 0,.ref (r+1),.none,.ref (r+2),.ref (r+3),.ref (r+4),.int u 0,.int l 0,.str "/claim/cut.py" v],#[]⟩
noncomputable def zb (n:Str):=zc n n
noncomputable def zi (n:Str):=zf n n
noncomputable def zj (n:Str):=zh n n
noncomputable section
def d0 (P:Params):=[ze P "__name__" 165 (.str "gapscribe.errors" 187),ze P "__doc__" 166 .none,ze P "__package__" 167 .none,ze P "__loader__" 168 (.builtin "__main__.__loader__#opaque"),ze P "__spec__" 169 .none,ze P "__annotations__" 170 (.ref 6),ze P "__builtins__" 171 (.ref 4),ze P "__file__" 173 (.str "/claim/cut.py" 172),ze P "__cached__" 174 .none,ze P "GapError" 206 (.ref 24),ze P "TooBig" 222 (.ref 37)]
def z0 (P:Params):=zt "dict" (.dict ⟨d0 P⟩ 11)
def z1:=zt "tuple" (.seq #[])
noncomputable def y0:List (Int×Int×Addr):=[(2,0,20),(4,0,33)]
def z2:=zy y0
def z3:=zk "<module>" "<module>" 182 1 0 0 11 false .none 185 186
noncomputable def zq0 (x0:Nat)(x1:Nat)(x2:Str)(x3:Nat):Obj:=Obj.mk (.type "frame") none Data.plain #[some (.ref x0),some (.ref 3),some (.ref x1),none,some (.str x2 x3),none,some (.ref 0)]
def z4:=zq0 13 3 "__main__" 164
def z5:=zt "tuple" (.seq #[.type "ValueError"])
def h0_0 (P:Params)(t:List Obj):=(boot_o_0 P)::(boot_o_1 P)::(boot_o_2 P)::(z0 P)::(boot_o_4 P)::(boot_o_5 P)::(boot_o_6 P)::(boot_o_7 P)::(boot_o_8 P)::(boot_o_9 P)::(boot_o_10 P)::z1::z2::z3::z4::z5::t
def z6:=zt "builtin_function_or_method" (.fields #[.builtin "type.__prepare__",.type "type"])
def z7 (P:Params):=zt "dict" (.dict #[ze P "__module__" 196 (.str "gapscribe.errors" 187),ze P "__qualname__" 198 (.str "GapError" 197),ze P "__firstlineno__" 200 (.int 2 199),ze P "__static_attributes__" 201 (.ref 22)] 4)
noncomputable def z8:=Obj.mk .none none (.fields #[]) #[]
def z9:=zk "GapError" "GapError" 191 2 0 0 18 false .none 194 195
def z10:=zq0 20 17 "gapscribe.errors" 187
def z11 (P:Params):=zt "dict" (.dict #[ze P "__module__" 196 (.str "gapscribe.errors" 187),ze P "__firstlineno__" 200 (.int 2 199),ze P "__static_attributes__" 201 (.ref 22),ze P "__weakref__" 203 (.ref 25),ze P "__doc__" 204 .none] 3)
noncomputable def z12:=Obj.mk (.type "type") none (.cls (ClassData.mk "GapError" [.type "ValueError"] [.ref 24,.type "ValueError",.type "Exception",.type "BaseException",.type "object"] 23 "GapError" true [] [.ref 37] false none false)) #[some (.ref 15),none,some (.str "GapError" 189),some (.str "GapError" 197),some (.builtin "ValueError.__new__"),some (.bool true)]
def z13:=zt "getset_descriptor" (.fields #[.str "__weakref__" 202,.ref 24,.builtin "ExceptionGroup.__weakref__",.none])
def z14:=zt "super" (.fields #[.ref 24,.ref 24,.ref 24])
def z15:=zt "builtin_function_or_method" (.fields #[.builtin "object.__init_subclass__",.ref 24])
def Fq:Obj:=zt "tuple" (.seq #[.ref 24])
def z17 (P:Params):=zt "dict" (.dict #[ze P "__module__" 214 (.str "gapscribe.errors" 187),ze P "__qualname__" 216 (.str "TooBig" 215),ze P "__firstlineno__" 218 (.int 4 217),ze P "__static_attributes__" 219 (.ref 35)] 4)
def h1_0 (P:Params)(t:List Obj):=z6::(z7 P)::z1::z8::z9::z10::z1::(z11 P)::z12::z13::z14::z15::Fq::z6::(z17 P)::z1::t
def z18:=zk "TooBig" "TooBig" 209 4 0 0 31 false .none 212 213
def z19:=zq0 33 30 "gapscribe.errors" 187
def z20 (P:Params):=zt "dict" (.dict #[ze P "__module__" 214 (.str "gapscribe.errors" 187),ze P "__firstlineno__" 218 (.int 4 217),ze P "__static_attributes__" 219 (.ref 35),ze P "__doc__" 220 .none] 2)
noncomputable def z21:=Obj.mk (.type "type") none (.cls (ClassData.mk "TooBig" [.ref 24] [.ref 37,.ref 24,.type "ValueError",.type "Exception",.type "BaseException",.type "object"] 36 "TooBig" true [] [] false none false)) #[some (.ref 28),none,some (.str "TooBig" 207),some (.str "TooBig" 215),some (.builtin "ValueError.__new__"),some (.bool true)]
def z22:=zt "super" (.fields #[.ref 37,.ref 37,.ref 37])
def z23:=zt "builtin_function_or_method" (.fields #[.builtin "object.__init_subclass__",.ref 37])
def h2_0 (P:Params)(t:List Obj):=z8::z18::z19::z1::(z20 P)::z21::z22::z23::t
def Rtree_78:Params->B:=λP=>tO (h0_0 P (h1_0 P (h2_0 P [])))
def d1 (P:Params):=[ze P "__name__" 165 (.str "gapscribe.scopes" 289),ze P "__doc__" 166 .none,ze P "__package__" 167 .none,ze P "__loader__" 168 (.builtin "__main__.__loader__#opaque"),ze P "__spec__" 169 .none,ze P "__annotations__" 170 (.ref 6),ze P "__builtins__" 171 (.ref 4),ze P "__file__" 173 (.str "/claim/cut.py" 172),ze P "__cached__" 174 .none,ze P "GapError" 206 (.ref 24),ze P "TooBig" 222 (.ref 37),ze P "NoPlace" 247 (.ref 56),ze P "is_whole" 256 (.ref 65),ze P "placed_forms" 270 (.ref 72),ze P "has_part" 278 (.ref 79),ze P "forms_down_to" 288 (.ref 86)]
def z24 (P:Params):=zt "dict" (.dict ⟨d1 P⟩ 16)
def y1:List (Int×Int×Addr):=y0++[(6,0,45),(11,0,64),(14,0,71),(23,0,78),(25,0,85)]
def z25:=zy y1
def zn0 (P:Params)(x0 x1:Obj)(t:List Obj):List Obj:=(boot_o_0 P)::(boot_o_1 P)::(boot_o_2 P)::x0::(boot_o_4 P)::(boot_o_5 P)::(boot_o_6 P)::(boot_o_7 P)::(boot_o_8 P)::(boot_o_9 P)::(boot_o_10 P)::z1::x1::z3::z4::z5::t
def h3_0 (P:Params)(t:List Obj):=zn0 P (z24 P) z25 t
noncomputable def z26:=Obj.mk (.type "type") none (.cls (ClassData.mk "GapError" [.type "ValueError"] [.ref 24,.type "ValueError",.type "Exception",.type "BaseException",.type "object"] 23 "GapError" true [] [.ref 37,.ref 56] false none false)) #[some (.ref 15),none,some (.str "GapError" 189),some (.str "GapError" 197),some (.builtin "ValueError.__new__"),some (.bool true)]
def Lc (P:Params)(t:List Obj):List Obj:=z6::(z7 P)::z1::z8::z9::z10::z1::(z11 P)::z26::z13::z14::z15::Fq::z6::(z17 P)::z1::t
def d2 (P:Params):=[ze P "__module__" 230 (.str "gapscribe.errors" 187),ze P "__qualname__" 232 (.str "NoPlace" 231),ze P "__firstlineno__" 234 (.int 6 233),ze P "__init__" 242 (.ref 53),ze P "__static_attributes__" 244 (.ref 54)]
def z27 (P:Params):=zt "dict" (.dict ⟨d2 P⟩ 5)
noncomputable def y2:List (Int×Int×Addr):=[(8,4,52)]
def z28:=zy y2
def z29:=zk "NoPlace" "NoPlace" 225 6 0 0 43 false .none 228 229
def z30:=zq0 45 42 "gapscribe.errors" 187
def L5 (P:Params)(t:List Obj):List Obj:=z8::z18::z19::z1::(z20 P)::z21::z22::z23::Fq::z6::(z27 P)::z1::z28::z29::z30::z1::t
def z31:=zu [("self",238),("place",239)]
noncomputable abbrev zsS (i j:Nat):Stmt:=match top i with|.ClassDef _ _ _ b _ _ _ _ _ _ _=>b.getD j (.Pass ⟨0,0,0,0⟩)|s=>s
def z32:=zh "__init__" "NoPlace.__init__" (zsS 3 0)
def z33:=zc "__init__" "NoPlace.__init__" 235 8 2 3 47 240 241
def z34:=zf "__init__" "NoPlace.__init__" (zsS 3 0) "gapscribe.errors" 187 52
def z35:=zu [("place",243)]
def z36 (P:Params):=zt "dict" (.dict #[ze P "__module__" 230 (.str "gapscribe.errors" 187),ze P "__firstlineno__" 234 (.int 6 233),ze P "__init__" 242 (.ref 53),ze P "__static_attributes__" 244 (.ref 54),ze P "__doc__" 245 .none] 2)
noncomputable def z37:=Obj.mk (.type "type") none (.cls (ClassData.mk "NoPlace" [.ref 24] [.ref 56,.ref 24,.type "ValueError",.type "Exception",.type "BaseException",.type "object"] 55 "NoPlace" true [] [] false none false)) #[some (.ref 40),none,some (.str "NoPlace" 223),some (.str "NoPlace" 231),some (.builtin "ValueError.__new__"),some (.bool true)]
def z38:=zt "super" (.fields #[.ref 56,.ref 56,.ref 56])
def z39:=zt "builtin_function_or_method" (.fields #[.builtin "object.__init_subclass__",.ref 56])
def z40:=zu [("thing",253)]
def z41:=zj "is_whole" Ln
def L8 (P:Params)(t:List Obj):List Obj:=z8::z31::z1::z32::z33::z34::z35::(z36 P)::z37::z38::z39::z1::z8::z40::z1::z41::t
def z42:=zb "is_whole" 250 11 1 3 59 254 255
def z43:=zi "is_whole" Ln "gapscribe.forms" 248 64
def z44:=zu [("tree",262),("told",263),("waiting",264),("pair",265),("number",266),("part",267)]
def z45:=zj "placed_forms" L4
def z46:=zb "placed_forms" 259 14 1 3 66 268 269
def z47:=zi "placed_forms" L4 "gapscribe.places" 257 71
def z48:=zu [("form",274),("number",275)]
def z49:=zj "has_part" Lg
def z50:=zb "has_part" 271 23 2 3 73 276 277
def z51:=zi "has_part" Lg "gapscribe.places" 257 78
def Mk (P:Params)(t:List Obj):List Obj:=z42::z43::z1::z8::z44::z1::z45::z46::z47::z1::z8::z48::z1::z49::z50::z51::t
def z52:=zu [("tree",282),("place",283),("passed",284),("number",285)]
def z53:=zj "forms_down_to" Mh
def z54:=zb "forms_down_to" 279 25 2 3 80 286 287
def z55:=zi "forms_down_to" Mh "gapscribe.places" 257 85
def h8_0 (P:Params)(t:List Obj):=z1::z8::z52::z1::z53::z54::z55::t
def Rtree_128:Params->B:=λP=>tO (h3_0 P (Lc P (L5 P (L8 P (Mk P (h8_0 P []))))))
def d3 (P:Params):=[ze P "__name__" 165 (.str "gapscribe.solve" 329),ze P "__doc__" 166 .none,ze P "__package__" 167 .none,ze P "__loader__" 168 (.builtin "__main__.__loader__#opaque"),ze P "__spec__" 169 .none,ze P "__annotations__" 170 (.ref 6),ze P "__builtins__" 171 (.ref 4),ze P "__file__" 173 (.str "/claim/cut.py" 172),ze P "__cached__" 174 .none,ze P "GapError" 206 (.ref 24),ze P "TooBig" 222 (.ref 37),ze P "NoPlace" 247 (.ref 56),ze P "is_whole" 256 (.ref 65),ze P "placed_forms" 270 (.ref 72),ze P "has_part" 278 (.ref 79),ze P "forms_down_to" 288 (.ref 86),ze P "names_bound" 298 (.ref 93),ze P "bindings_at" 310 (.ref 100),ze P "names_at" 316 (.ref 105),ze P "binding_at" 328 (.ref 112),ze P "NUM" 332 (.int 0 331),ze P "TRUTH" 334 (.int 1 333),ze P "FIRST_SHAPES" 337 (.ref 115),ze P "new_kind" 345 (.ref 122),ze P "kinds_of_word" 356 (.ref 129),ze P "with_names" 368 (.ref 136),ze P "kinds_in" 387 (.ref 143),ze P "last_same" 396 (.ref 150),ze P "holds_itself" 409 (.ref 157)]
def z56 (P:Params):=zt "dict" (.dict ⟨d3 P⟩ 29)
def y3:List (Int×Int×Addr):=y1++[(33,0,92),(41,0,99),(47,0,104),(49,0,111),(59,0,121),(62,0,128),(85,0,135),(90,0,142),(105,0,149),(110,0,156)]
def z57:=zy y3
def h9_0 (P:Params)(t:List Obj):=zn0 P (z56 P) z57 t
def z58:=zu [("form",294),("number",295)]
def z59:=zj "names_bound" Lr
def z60:=zb "names_bound" 291 33 2 3 87 296 297
def z61:=zi "names_bound" Lr "gapscribe.scopes" 289 92
def N6 (P:Params)(t:List Obj):List Obj:=z1::z8::z52::z1::z53::z54::z55::z1::z8::z58::z1::z59::z60::z61::z1::z8::t
def z62:=zu [("tree",302),("place",303),("told",304),("depth",305),("above",306),("name",307)]
def z63:=zj "bindings_at" Ka
def z64:=zb "bindings_at" 299 41 2 3 94 308 309
def z65:=zi "bindings_at" Ka "gapscribe.scopes" 289 99
def z66:=zj "names_at" K4
def z67:=zk "names_at" "names_at" 311 47 2 3 101 true (.ref 103) 314 315
def z68:=zi "names_at" K4 "gapscribe.scopes" 289 104
def z69:=zu [("tree",320),("place",321),("name",322),("last",323),("number",324),("bound",325)]
def z70:=zj "binding_at" L7
def z71:=zb "binding_at" 317 49 3 3 106 326 327
def Nl (P:Params)(t:List Obj):List Obj:=z62::z1::z63::z64::z65::z1::z8::z66::z67::z68::z1::z8::z69::z1::z70::z71::t
def z72:=zi "binding_at" L7 "gapscribe.scopes" 289 111
def z73:=zu [("num",335)]
def z74:=zu [("truth",336)]
def z75:=zt "tuple" (.seq #[.ref 113,.ref 114])
def z76:=zu [("shapes",341),("shape",342)]
def z77:=zj "new_kind" Mf
def z78:=zb "new_kind" 338 59 2 3 116 343 344
def z79:=zi "new_kind" Mf "gapscribe.solve" 329 121
def z80:=zu [("shapes",349),("word",350),("one",351),("other",352),("function",353)]
def z81:=zj "kinds_of_word" Lo
def Nf (P:Params)(t:List Obj):List Obj:=z72::z73::z74::z75::z1::z8::z76::z1::z77::z78::z79::z1::z8::z80::z1::z81::t
def z82:=zb "kinds_of_word" 346 62 2 3 123 354 355
def z83:=zi "kinds_of_word" Lo "gapscribe.solve" 329 128
def z84:=zu [("around",360),("names",361),("kinds",362),("made",363),("name",364),("kind",365)]
def z85:=zj "with_names" Kv
def z86:=zb "with_names" 357 85 3 3 130 366 367
def z87:=zi "with_names" Kv "gapscribe.solve" 329 135
def z88:=zu [("placed",372),("shapes",373),("pairs",374),("asked_at",375),("around_at",376),("place",377),("form",378),("given",379),("asked",380),("bound",381),("number",382),("kind",383),("part",384)]
def z89:=zj "kinds_in" Me
def z90:=zb "kinds_in" 369 90 1 3 137 385 386
def z91:=zi "kinds_in" Me "gapscribe.solve" 329 142
def M4 (P:Params)(t:List Obj):List Obj:=z82::z83::z1::z8::z84::z1::z85::z86::z87::z1::z8::z88::z1::z89::z90::z91::t
def z92:=zu [("shapes",391),("kind",392),("last",393)]
def z93:=zj "last_same" Mj
def z94:=zb "last_same" 388 105 2 3 144 394 395
def z95:=zi "last_same" Mj "gapscribe.solve" 329 149
def z96:=zu [("shapes",400),("kind",401),("passed",402),("waiting",403),("top",404),("part",405),("inner",406)]
def z97:=zj "holds_itself" Kc
def z98:=zb "holds_itself" 397 110 2 3 151 407 408
def z99:=zi "holds_itself" Kc "gapscribe.solve" 329 156
def Zth (P:Params)(t:List Obj):List Obj:=z1::z8::z92::z1::z93::z94::z95::z1::z8::z96::z1::z97::z98::z99::t
def Rtree_201:Params->B:=λP=>tO (h9_0 P (Lc P (L5 P (L8 P (Mk P (N6 P (Nl P (Nf P (M4 P (Zth P []))))))))))
def d4 (P:Params):=[ze P "__name__" 165 (.str "law_gapscribe_k38_looks_by_own_solving" 475),ze P "__doc__" 166 .none,ze P "__package__" 167 .none,ze P "__loader__" 168 (.builtin "__main__.__loader__#opaque"),ze P "__spec__" 169 .none,ze P "__annotations__" 170 (.ref 6),ze P "__builtins__" 171 (.ref 4),ze P "__file__" 173 (.str "/claim/cut.py" 172),ze P "__cached__" 174 .none,ze P "GapError" 206 (.ref 24),ze P "TooBig" 222 (.ref 37),ze P "NoPlace" 247 (.ref 56),ze P "is_whole" 256 (.ref 65),ze P "placed_forms" 270 (.ref 72),ze P "has_part" 278 (.ref 79),ze P "forms_down_to" 288 (.ref 86),ze P "names_bound" 298 (.ref 93),ze P "bindings_at" 310 (.ref 100),ze P "names_at" 316 (.ref 105),ze P "binding_at" 328 (.ref 112),ze P "NUM" 332 (.int 0 331),ze P "TRUTH" 334 (.int 1 333),ze P "FIRST_SHAPES" 337 (.ref 115),ze P "new_kind" 345 (.ref 122),ze P "kinds_of_word" 356 (.ref 129),ze P "with_names" 368 (.ref 136),ze P "kinds_in" 387 (.ref 143),ze P "last_same" 396 (.ref 150),ze P "holds_itself" 409 (.ref 157),ze P "joined" 423 (.ref 164),ze P "fitted" 436 (.ref 171),ze P "kinds_told" 442 (.ref 176),ze P "MOST_FORMS" 446 (.int 40 445),ze P "mark_of" 456 (.ref 183),ze P "looks" 474 (.ref 190),ze P "_law_cell_at" 484 (.ref 197),ze P "_law_names" 490 (.ref 202),ze P "_law_same" 499 (.ref 209),ze P "_law_shares" 505 (.ref 214),ze P "_law_leaf" 514 (.ref 221),ze P "_law_tree" 520 (.ref 226),ze P "_law_bit" 528 (.ref 233)]
def z100 (P:Params):=zt "dict" (.dict ⟨d4 P⟩ 42)
def y4:List (Int×Int×Addr):=y3++[(126,0,163),(142,0,170),(150,0,175),(170,0,182),(178,0,189),(194,0,196),(198,0,201),(212,0,208),(232,0,213),(238,0,220),(249,0,225),(270,0,232)]
def z101:=zy y4
def Zmb (P:Params)(t:List Obj):List Obj:=zn0 P (z100 P) z101 t
def Zae (P:Params)(t:List Obj):List Obj:=z1::z8::z92::z1::z93::z94::z95::z1::z8::z96::z1::z97::z98::z99::z1::z8::t
def z102:=zu [("shapes",413),("one",414),("other",415),("made",416),("waiting",417),("pair",418),("left",419),("right",420)]
def z103:=zj "joined" Mb
def z104:=zb "joined" 410 126 3 3 158 421 422
def z105:=zi "joined" Mb "gapscribe.solve" 329 163
def z106:=zu [("shapes",427),("pairs",428),("made",429),("fits",430),("given",431),("asked",432),("after",433)]
def z107:=zj "fitted" L9
def z108:=zb "fitted" 424 142 2 3 165 434 435
def z109:=zi "fitted" L9 "gapscribe.solve" 329 170
def z110:=zj "kinds_told" L3
def z111:=zk "kinds_told" "kinds_told" 437 150 2 3 172 true (.ref 174) 440 441
def Zam (P:Params)(t:List Obj):List Obj:=z102::z1::z103::z104::z105::z1::z8::z106::z1::z107::z108::z109::z1::z8::z110::z111::t
def z112:=zi "kinds_told" L3 "gapscribe.solve" 329 175
def z113:=zu [("tree",450),("place",451),("form",452),("fits",453)]
def z114:=zj "mark_of" Kb
def z115:=zb "mark_of" 447 170 4 3 177 454 455
def z116:=zi "mark_of" Kb "gapscribe.looks" 443 182
def z117:=zu [("tree",460),("placed",461),("shapes",462),("pairs",463),("settled",464),("fits",465),("wanted",466),("pair",467),("kinds",468),("rows",469),("number",470),("asked",471)]
def z118:=zj "looks" Lz
def z119:=zb "looks" 457 178 1 3 184 472 473
def z120:=zi "looks" Lz "gapscribe.looks" 443 189
def Pa (P:Params)(t:List Obj):List Obj:=z112::z1::z8::z113::z1::z114::z115::z116::z1::z8::z117::z1::z118::z119::z120::z1::t
def z121:=zu [("_law_script",480),("_law_k",481)]
def z122:=zj "_law_cell_at" Mi
def z123:=zb "_law_cell_at" 477 194 2 3 191 482 483
def z124:=zi "_law_cell_at" Mi "law_gapscribe_k38_looks_by_own_solving" 475 196
def z125:=zj "_law_names" Kt
def z126:=zk "_law_names" "_law_names" 485 198 2 3 198 true (.ref 200) 488 489
def z127:=zi "_law_names" Kt "law_gapscribe_k38_looks_by_own_solving" 475 201
def z128:=zu [("_law_found",494),("_law_due",495),("_law_k",496)]
def z129:=zj "_law_same" Ir
def Zcd (P:Params)(t:List Obj):List Obj:=z8::z121::z1::z122::z123::z124::z1::z8::z125::z126::z127::z1::z8::z128::z1::z129::t
def z130:=zb "_law_same" 491 212 2 3 203 497 498
def z131:=zi "_law_same" Ir "law_gapscribe_k38_looks_by_own_solving" 475 208
def z132:=zj "_law_shares" K8
def z133:=zk "_law_shares" "_law_shares" 500 232 3 3 210 true (.ref 212) 503 504
def z134:=zi "_law_shares" K8 "law_gapscribe_k38_looks_by_own_solving" 475 213
def z135:=zu [("_law_cell",509),("_law_name",510),("_law_long",511)]
def z136:=zj "_law_leaf" Mc
def z137:=zb "_law_leaf" 506 238 2 3 215 512 513
def z138:=zi "_law_leaf" Mc "law_gapscribe_k38_looks_by_own_solving" 475 220
def Za4 (P:Params)(t:List Obj):List Obj:=z130::z131::z1::z8::z132::z133::z134::z1::z8::z135::z1::z136::z137::z138::z1::z8::t
def z139:=zj "_law_tree" Ju
def Zc4:Obj:=zk "_law_tree" "_law_tree" 515 249 2 3 222 true (.ref 224) 518 519
def Pb:Obj:=zi "_law_tree" Ju "law_gapscribe_k38_looks_by_own_solving" 475 225
def z142:=zu [("_law_cell",524),("_law_names_here",525)]
def z143:=zj "_law_bit" Km
def Oq:Obj:=zb "_law_bit" 521 270 2 3 227 526 527
def Zcj:Obj:=zi "_law_bit" Km "law_gapscribe_k38_looks_by_own_solving" 475 232
def Zun (P:Params)(t:List Obj):List Obj:=z139::Zc4::Pb::z1::z8::z142::z1::z143::Oq::Zcj::t
def Rtree_279:Params->B:=λP=>tO (Zmb P (Lc P (L5 P (L8 P (Mk P (N6 P (Nl P (Nf P (M4 P (Zae P (Zam P (Pa P (Zcd P (Za4 P (Zun P [])))))))))))))))
def d5 (P:Params):=d4 P++[ze P "_law_two" 534 (.ref 238),ze P "_law_ring" 546 (.ref 245),ze P "_law_bound" 556 (.ref 252),ze P "_law_wishes" 567 (.ref 259),ze P "_law_gives" 578 (.ref 266),ze P "_law_more" 589 (.ref 273),ze P "_law_rows" 608 (.ref 280),ze P "_law_put" 616 (.ref 287),ze P "_law_has" 624 (.ref 294),ze P "_law_solved" 633 (.ref 301),ze P "_law_numbered" 642 (.ref 308),ze P "law" 662 (.ref 315)]
def z146 (P:Params):=zt "dict" (.dict ⟨d5 P⟩ 54)
def y5:List (Int×Int×Addr):=y4++[(278,0,237),(285,0,244),(294,0,251),(299,0,258),(311,0,265),(324,0,272),(330,0,279),(348,0,286),(354,0,293),(358,0,300),(372,0,307),(381,0,314)]
def z147:=zy y5
def Zfd (P:Params)(t:List Obj):List Obj:=zn0 P (z146 P) z147 t
def z148:=zj "_law_two" L1
def z149:=zk "_law_two" "_law_two" 529 278 2 3 234 true (.ref 236) 532 533
def z150:=zi "_law_two" L1 "law_gapscribe_k38_looks_by_own_solving" 475 237
def Zge (P:Params)(t:List Obj):List Obj:=z139::Zc4::Pb::z1::z8::z142::z1::z143::Oq::Zcj::z1::z8::z148::z149::z150::z1::t
def z151:=zu [("_law_script",538),("_law_names_here",539),("_law_bit_here",540),("_law_more_here",541),("_law_inner",542),("_law_form",543)]
def z152:=zj "_law_ring" Ma
def z153:=zb "_law_ring" 535 285 2 3 239 544 545
def z154:=zi "_law_ring" Ma "law_gapscribe_k38_looks_by_own_solving" 475 244
def z155:=zu [("_law_name",550),("_law_around",551),("_law_one",552),("_law_kind",553)]
def z156:=zj "_law_bound" K6
def z157:=zb "_law_bound" 547 294 2 3 246 554 555
def z158:=zi "_law_bound" K6 "law_gapscribe_k38_looks_by_own_solving" 475 251
def z159:=zu [("_law_form",560),("_law_one",561),("_law_two_here",562),("_law_num",563),("_law_word",564)]
def Ze7 (P:Params)(t:List Obj):List Obj:=z8::z151::z1::z152::z153::z154::z1::z8::z155::z1::z156::z157::z158::z1::z8::z159::t
def z160:=zj "_law_wishes" Lh
def z161:=zb "_law_wishes" 557 299 3 3 253 565 566
def z162:=zi "_law_wishes" Lh "law_gapscribe_k38_looks_by_own_solving" 475 258
def z163:=zu [("_law_form",571),("_law_one",572),("_law_two_here",573),("_law_around",574),("_law_word",575)]
def z164:=zj "_law_gives" Kp
def z165:=zb "_law_gives" 568 311 4 3 260 576 577
def z166:=zi "_law_gives" Kp "law_gapscribe_k38_looks_by_own_solving" 475 265
def z167:=zu [("_law_form",582),("_law_at",583),("_law_one",584),("_law_two_here",585),("_law_around",586)]
def z168:=zj "_law_more" L6
def Ze5 (P:Params)(t:List Obj):List Obj:=z1::z160::z161::z162::z1::z8::z163::z1::z164::z165::z166::z1::z8::z167::z1::z168::t
def z169:=zb "_law_more" 579 324 5 3 267 587 588
def z170:=zi "_law_more" L6 "law_gapscribe_k38_looks_by_own_solving" 475 272
def z171:=zu [("_law_tree_here",593),("_law_rows_here",594),("_law_left",595),("_law_place",596),("_law_form",597),("_law_asked",598),("_law_around",599),("_law_one",600),("_law_two_here",601),("_law_mark",602),("_law_k",603),("_law_at",604),("_law_wish",605)]
def z172:=zj "_law_rows" Mm
def z173:=zb "_law_rows" 590 330 1 3 274 606 607
def z174:=zi "_law_rows" Mm "law_gapscribe_k38_looks_by_own_solving" 475 279
def z175:=zu [("_law_kind",612),("_law_known",613)]
def z176:=zj "_law_put" J2
def z177:=zb "_law_put" 609 348 2 3 281 614 615
def z178:=zi "_law_put" J2 "law_gapscribe_k38_looks_by_own_solving" 475 286
def Zdx (P:Params)(t:List Obj):List Obj:=z169::z170::z1::z8::z171::z1::z172::z173::z174::z1::z8::z175::z1::z176::z177::z178::t
def z179:=zu [("_law_kind",620),("_law_number",621)]
def z180:=zj "_law_has" Jl
def z181:=zb "_law_has" 617 354 2 3 288 622 623
def z182:=zi "_law_has" Jl "law_gapscribe_k38_looks_by_own_solving" 475 293
def z183:=zu [("_law_one",628),("_law_other",629),("_law_known",630)]
def z184:=zj "_law_solved" Js
def z185:=zb "_law_solved" 625 358 3 3 295 631 632
def z186:=zi "_law_solved" Js "law_gapscribe_k38_looks_by_own_solving" 475 300
def Zht (P:Params)(t:List Obj):List Obj:=z1::z8::z179::z1::z180::z181::z182::z1::z8::z183::z1::z184::z185::z186::z1::z8::t
def z187:=zu [("_law_kind",637),("_law_seen",638),("_law_left",639)]
def z188:=zj "_law_numbered" Jb
def z189:=zb "_law_numbered" 634 372 2 3 302 640 641
def z190:=zi "_law_numbered" Jb "law_gapscribe_k38_looks_by_own_solving" 475 307
def z191:=zu [("_law_script",646),("_law_names_here",647),("_law_few",648),("_law_tree_here",649),("_law_turn",650),("_law_known",651),("_law_kept",652),("_law_place",653),("_law_given",654),("_law_asked",655),("_law_mark",656),("_law_tried",657),("_law_seen",658),("_law_due",659)]
def z192:=zj "law" Kf
def z193:=zb "law" 643 381 1 3 309 660 661
def z194:=zi "law" Kf "law_gapscribe_k38_looks_by_own_solving" 475 314
def Zd4 (P:Params)(t:List Obj):List Obj:=z187::z1::z188::z189::z190::z1::z8::z191::z1::z192::z193::z194::t
def Rtree_363:Params->B:=λP=>tO (Zfd P (Lc P (L5 P (L8 P (Mk P (N6 P (Nl P (Nf P (M4 P (Zae P (Zam P (Pa P (Zcd P (Za4 P (Zge P (Ze7 P (Ze5 P (Zdx P (Zht P (Zd4 P []))))))))))))))))))))
def Rheap_364:Params->Heap:=λP=>⟨⟨Zfd P (Lc P (L5 P (L8 P (Mk P (N6 P (Nl P (Nf P (M4 P (Zae P (Zam P (Pa P (Zcd P (Za4 P (Zge P (Ze7 P (Ze5 P (Zdx P (Zht P (Zd4 P [])))))))))))))))))))⟩,Life.mk [] [] [] 0 [] [] false #[] [] 0 false false false 0 [2000,10,10] false 0 true [] [] 0 false⟩
end
noncomputable def KK:Params->Ph:=λP=>(nat_lit 2,boot_o_2 P)::(nat_lit 3,z146 P)::(nat_lit 23,z11 P)::(nat_lit 24,z26)::(nat_lit 36,z20 P)::(nat_lit 37,z21)::(nat_lit 55,z36 P)::(nat_lit 56,z37)::(nat_lit 64,z42)::(nat_lit 65,z43)::(nat_lit 71,z46)::(nat_lit 72,z47)::(nat_lit 78,z50)::(nat_lit 79,z51)::(nat_lit 85,z54)::(nat_lit 86,z55)::(nat_lit 92,z60)::(nat_lit 93,z61)::(nat_lit 99,z64)::(nat_lit 100,z65)::(nat_lit 104,z67)::(nat_lit 105,z68)::(nat_lit 111,z71)::(nat_lit 112,z72)::(nat_lit 113,z73)::(nat_lit 114,z74)::(nat_lit 115,z75)::(nat_lit 121,z78)::(nat_lit 122,z79)::(nat_lit 128,z82)::(nat_lit 129,z83)::(nat_lit 135,z86)::(nat_lit 136,z87)::(nat_lit 142,z90)::(nat_lit 143,z91)::(nat_lit 149,z94)::(nat_lit 150,z95)::(nat_lit 156,z98)::(nat_lit 157,z99)::(nat_lit 163,z104)::(nat_lit 164,z105)::(nat_lit 170,z108)::(nat_lit 171,z109)::(nat_lit 175,z111)::(nat_lit 176,z112)::(nat_lit 182,z115)::(nat_lit 183,z116)::(nat_lit 189,z119)::(nat_lit 190,z120)::(nat_lit 196,z123)::(nat_lit 197,z124)::(nat_lit 201,z126)::(nat_lit 202,z127)::(nat_lit 208,z130)::(nat_lit 209,z131)::(nat_lit 213,z133)::(nat_lit 214,z134)::(nat_lit 220,z137)::(nat_lit 221,z138)::(nat_lit 225,Zc4)::(nat_lit 226,Pb)::(nat_lit 232,Oq)::(nat_lit 233,Zcj)::(nat_lit 237,z149)::(nat_lit 238,z150)::(nat_lit 244,z153)::(nat_lit 245,z154)::(nat_lit 251,z157)::(nat_lit 252,z158)::(nat_lit 258,z161)::(nat_lit 259,z162)::(nat_lit 265,z165)::(nat_lit 266,z166)::(nat_lit 272,z169)::(nat_lit 273,z170)::(nat_lit 279,z173)::(nat_lit 280,z174)::(nat_lit 286,z177)::(nat_lit 287,z178)::(nat_lit 293,z181)::(nat_lit 294,z182)::(nat_lit 300,z185)::(nat_lit 301,z186)::(nat_lit 307,z189)::(nat_lit 308,z190)::(nat_lit 314,z193)::(nat_lit 315,z194)::[]
noncomputable def kk0 (P:Params)(r:Ph):Ph:=(nat_lit 2,boot_o_2 P)::(nat_lit 3,z146 P)::(nat_lit 23,z11 P)::(nat_lit 24,z26)::(nat_lit 36,z20 P)::(nat_lit 37,z21)::(nat_lit 55,z36 P)::(nat_lit 56,z37)::(nat_lit 64,z42)::(nat_lit 65,z43)::(nat_lit 71,z46)::r
noncomputable def kk1 (P:Params)(r:Ph):Ph:=(nat_lit 72,z47)::(nat_lit 78,z50)::(nat_lit 79,z51)::(nat_lit 85,z54)::(nat_lit 86,z55)::(nat_lit 92,z60)::(nat_lit 93,z61)::(nat_lit 99,z64)::(nat_lit 100,z65)::(nat_lit 104,z67)::(nat_lit 105,z68)::r
noncomputable def kk2 (P:Params)(r:Ph):Ph:=(nat_lit 111,z71)::(nat_lit 112,z72)::(nat_lit 113,z73)::(nat_lit 114,z74)::(nat_lit 115,z75)::(nat_lit 121,z78)::(nat_lit 122,z79)::(nat_lit 128,z82)::(nat_lit 129,z83)::(nat_lit 135,z86)::(nat_lit 136,z87)::r
noncomputable def kk3 (P:Params)(r:Ph):Ph:=(nat_lit 142,z90)::(nat_lit 143,z91)::(nat_lit 149,z94)::(nat_lit 150,z95)::(nat_lit 156,z98)::(nat_lit 157,z99)::(nat_lit 163,z104)::(nat_lit 164,z105)::(nat_lit 170,z108)::(nat_lit 171,z109)::(nat_lit 175,z111)::r
noncomputable def kk4 (P:Params)(r:Ph):Ph:=(nat_lit 176,z112)::(nat_lit 182,z115)::(nat_lit 183,z116)::(nat_lit 189,z119)::(nat_lit 190,z120)::(nat_lit 196,z123)::(nat_lit 197,z124)::(nat_lit 201,z126)::(nat_lit 202,z127)::(nat_lit 208,z130)::(nat_lit 209,z131)::r
noncomputable def kk5 (P:Params)(r:Ph):Ph:=(nat_lit 213,z133)::(nat_lit 214,z134)::(nat_lit 220,z137)::(nat_lit 221,z138)::(nat_lit 225,Zc4)::(nat_lit 226,Pb)::(nat_lit 232,Oq)::(nat_lit 233,Zcj)::(nat_lit 237,z149)::(nat_lit 238,z150)::(nat_lit 244,z153)::r
noncomputable def kk6 (P:Params)(r:Ph):Ph:=(nat_lit 245,z154)::(nat_lit 251,z157)::(nat_lit 252,z158)::(nat_lit 258,z161)::(nat_lit 259,z162)::(nat_lit 265,z165)::(nat_lit 266,z166)::(nat_lit 272,z169)::(nat_lit 273,z170)::(nat_lit 279,z173)::(nat_lit 280,z174)::r
noncomputable def kk7 (P:Params)(r:Ph):Ph:=(nat_lit 286,z177)::(nat_lit 287,z178)::(nat_lit 293,z181)::(nat_lit 294,z182)::(nat_lit 300,z185)::(nat_lit 301,z186)::(nat_lit 307,z189)::(nat_lit 308,z190)::(nat_lit 314,z193)::(nat_lit 315,z194)::r
noncomputable def KKc:Params->Ph:=λP=>kk0 P (kk1 P (kk2 P (kk3 P (kk4 P (kk5 P (kk6 P (kk7 P [])))))))
theorem e_KC:KKc=KKc:=rfl
name_quick x_KC for K38.KKc by K38.e_KC
noncomputable def KA:List Addr:=[2,3,23,24,36,37,55,56,64,65,71,72,78,79,85,86,92,93,99,100,104,105,111,112,113,114,115,121,122,128,129,135,136,142,143,149,150,156,157,163,164,170,171,175,176,182,183,189,190,196,197,201,202,208,209,213,214,220,221,225,226,232,233,237,238,244,245,251,252,258,259,265,266,272,273,279,280,286,287,293,294,300,301,307,308,314,315]
noncomputable def RB (P:Params):List Su×List Heap:=([Rtree_78 P,Rtree_128 P,Rtree_201 P,Rtree_279 P,Rtree_363 P],[Rheap_364 P])
theorem e_RB:RB=RB:=rfl
name_quick x_RB for K38.RB by K38.e_RB
end K38
namespace PySem.W.Fast
noncomputable def tw6863598221417196895:PySem.Params->Ph:=tw10466283420107011865
theorem te6863598221417196895:K38.KK=tw6863598221417196895:=(rfl:K38.KK=K38.KKc).trans te10466283420107011865
noncomputable def tw10213611566918635335:To->Su:=tw7933939510633674684
theorem te10213611566918635335:K38.Rtree_78=tw10213611566918635335:=te7933939510633674684
noncomputable def tw17020935048463514828:To->Su:=tw14254985923646988405
theorem te17020935048463514828:K38.Rtree_128=tw17020935048463514828:=te14254985923646988405
noncomputable def tw2503123389902798068:To->Su:=tw15848503898545080591
theorem te2503123389902798068:K38.Rtree_201=tw2503123389902798068:=te15848503898545080591
noncomputable def tw17761154078569496261:To->Su:=tw8994608437449820923
theorem te17761154078569496261:K38.Rtree_279=tw17761154078569496261:=te8994608437449820923
noncomputable def tw12597495669637513890:To->Su:=tw8677908978474791806
theorem te12597495669637513890:K38.Rtree_363=tw12597495669637513890:=te8677908978474791806
noncomputable def tw13951731779508427970:To->PySem.Heap:=tw11864990642606805824
theorem te13951731779508427970:K38.Rheap_364=tw13951731779508427970:=te11864990642606805824
end PySem.W.Fast
local macro_rules | `(tactic| walk_at "gd")=>`(tactic| (refine'⟨?ka,_,L2.fun_mk ?kl ?kc ?kk⟩; (case ka=>k_is); (case kl=>k_is); (case kc=>k_is); (case kk=>k_is)))
namespace K38
open PySem L2 K19
noncomputable abbrev Oi:=Zes
theorem all1 {α:Type}{P:List α->Prop}(h:∀a,P [a]):∀us:List α,us.length=1->P us
 |[a],_=>h a
theorem all2 {α:Type}{P:List α->Prop}(h:∀a b,P [a,b]):∀us:List α,us.length=2->P us
 |[a,b],_=>h a b
theorem all3 {α:Type}{P:List α->Prop}(h:∀a b c,P [a,b,c]):∀us:List α,us.length=3->P us
 |[a,b,c],_=>h a b c
theorem all4 {α:Type}{P:List α->Prop}(h:∀a b c d,P [a,b,c,d]):∀us:List α,us.length=4->P us
 |[a,b,c,d],_=>h a b c d
theorem all5 {α:Type}{P:List α->Prop}(h:∀a b c d e,P [a,b,c,d,e]):∀us:List α,us.length=5->P us
 |[a,b,c,d,e],_=>h a b c d e
local macro_rules | `(tactic| walk_at "bi")=>`(tactic| first|exact λ_ _ _ _ _ _=>K38.all1 λ_=>rfl|exact λ_ _ _ _ _ _=>K38.all2 λ_ _=>rfl|exact λ_ _ _ _ _ _=>K38.all3 λ_ _ _=>rfl|exact λ_ _ _ _ _ _=>K38.all4 λ_ _ _ _=>rfl|exact λ_ _ _ _ _ _=>K38.all5 λ_ _ _ _ _=>rfl|exact λ_ _ _ _ _ _=>K38.all6 λ_ _ _ _ _ _=>rfl)
theorem Zhc (F:Fun K "_law_tree" "_law_tree" Ju f fd)(T:Txt K mg)(C__law_shares:A7 P w K mg base 1 "_law_shares" ["_law_rest","_law_many","_law_turn"] (Zbl K))(C__law_leaf:A7 P w K mg base 1 "_law_leaf" ["_law_cell","_law_name"] (Zag K))(mk:∀n,A8 P w K mg base A9 (n+2) f fd ["_law_cells","_law_names_here"] (Hg K n)->A7 P w K mg base (n+2) "_law_tree" ["_law_cells","_law_names_here"] (Hg K n)):∀n,A8 P w K mg base A9 (n+2) f fd ["_law_cells","_law_names_here"] (Hg K n)
 |0=>by
  have no:∀vs H Q E,¬Hg K 0 vs H Q E:=by
   rintro vs H Q E ⟨a,b,ns,ts,_,_,_,h,_⟩;exact absurd h (Rv _)
  exact⟨λvs H Q E h=>absurd h (no _ _ _ _),λA outer s H I O vs Q E _ _ _ _ h=>absurd h (no _ _ _ _)⟩
 |n+1=>Zul F T C__law_shares C__law_leaf (mk n (Zhc F T C__law_shares C__law_leaf mk n))
theorem Zdb (F:Fun K "_law_same" "_law_same" Ir f fd)(T:Txt K mg)(mk:∀n,A8 P w K mg base A9 (n+1) f fd ["_law_found","_law_due"] (Ii K n)->A7 P w K mg base (n+1) "_law_same" ["_law_found","_law_due"] (Ii K n)):∀n,A8 P w K mg base A9 (n+1) f fd ["_law_found","_law_due"] (Ii K n)
 |0=>by
  have no:∀vs H Q E,¬Ii K 0 vs H Q E:=by
   rintro vs H Q E ⟨x,y,d,m,_,h,_⟩;exact absurd h (Rv _)
  exact⟨λvs H Q E h=>absurd h (no _ _ _ _),λA outer s H I O vs Q E _ _ _ _ h=>absurd h (no _ _ _ _)⟩
 |n+1=>Zko F T (mk n (Zdb F T mk n))
theorem Zdp (F:Fun K "_law_put" "_law_put" J2 f fd)(T:Txt K mg)(mk:∀n,A8 P w K mg base A9 (n+1) f fd ["_law_kind","_law_known"] (F9 K n)->A7 P w K mg base (n+1) "_law_put" ["_law_kind","_law_known"] (F9 K n)):∀n,A8 P w K mg base A9 (n+1) f fd ["_law_kind","_law_known"] (F9 K n)
 |0=>by
  have no:∀vs H Q E,¬F9 K 0 vs H Q E:=by
   rintro vs H Q E ⟨v,d,k,U,σ,M,kvs,_,_,_,h,_⟩;cases h
  exact⟨λvs H Q E h=>absurd h (no _ _ _ _),λA outer s H I O vs Q E _ _ _ _ h=>absurd h (no _ _ _ _)⟩
 |n+1=>Zpr F T (mk n (Zdp F T mk n))
theorem Zip (F:Fun K "_law_has" "_law_has" Jl f fd)(T:Txt K mg)(mk:∀n,A8 P w K mg base A9 (n+1) f fd ["_law_kind","_law_number"] (Hj K n)->A7 P w K mg base (n+1) "_law_has" ["_law_kind","_law_number"] (Hj K n)):∀n,A8 P w K mg base A9 (n+1) f fd ["_law_kind","_law_number"] (Hj K n)
 |0=>by
  have no:∀vs H Q E,¬Hj K 0 vs H Q E:=by
   rintro vs H Q E ⟨v,m,k,_,_,h,_⟩;exact absurd h (Rv _)
  exact⟨λvs H Q E h=>absurd h (no _ _ _ _),λA outer s H I O vs Q E _ _ _ _ h=>absurd h (no _ _ _ _)⟩
 |n+1=>Zpy F T (mk n (Zip F T mk n))
theorem Zjf (F:Fun K "_law_numbered" "_law_numbered" Jb f fd)(T:Txt K mg)(mk:∀n,A8 P w K mg base A9 (n+1) f fd ["_law_kind","_law_seen"] (Ip K n)->A7 P w K mg base (n+1) "_law_numbered" ["_law_kind","_law_seen"] (Ip K n)):∀n,A8 P w K mg base A9 (n+1) f fd ["_law_kind","_law_seen"] (Ip K n)
 |0=>by
  have no:∀vs H Q E,¬Ip K 0 vs H Q E:=by
   rintro vs H Q E ⟨v,d,k,s,_,_,h,_⟩;exact absurd h (Rv _)
  exact⟨λvs H Q E h=>absurd h (no _ _ _ _),λA outer s H I O vs Q E _ _ _ _ h=>absurd h (no _ _ _ _)⟩
 |n+1=>Zmw F T (mk n (Zjf F T mk n))
theorem Zdu (F:Fun K "_law_solved" "_law_solved" Js f fd)(T:Txt K mg)(C__law_put:A7 P w K mg base 126 "_law_put" ["_law_kind","_law_known"] (F9 K 125))(C__law_has:A7 P w K mg base 46 "_law_has" ["_law_kind","_law_number"] (Hj K 45))(mk:∀n,A8 P w K mg base A9 (n+126) f fd ["_law_one","_law_other","_law_known"] (Hs K n)->A7 P w K mg base (n+126) "_law_solved" ["_law_one","_law_other","_law_known"] (Hs K n)):∀n,A8 P w K mg base A9 (n+126) f fd ["_law_one","_law_other","_law_known"] (Hs K n)
 |0=>by
  have no:∀vs H Q E,¬Hs K 0 vs H Q E:=by
   rintro vs H Q E ⟨u,v,d,a,b,σ,M,kvs,o,_,_,h,_⟩;cases h
  exact⟨λvs H Q E h=>absurd h (no _ _ _ _),λA outer s H I O vs Q E _ _ _ _ h=>absurd h (no _ _ _ _)⟩
 |n+1=>Zm1 F T C__law_put C__law_has (mk n (Zdu F T C__law_put C__law_has mk n))
theorem two_top (l:K.lookup a=some ⟨.type "tuple",od,.seq its n,sl⟩)(h:its.toList=[.ref d,.ref e]):∀H,SqT K H a [.ref d,.ref e]:=λH=>by
 have v:Vals [.ref d,.ref e] its.toList:=by rw[h];exact .cons rfl (.cons rfl .nil)
 refine .inr ⟨_,its,n,l,rfl,rfl,?_,v⟩;have b:1000<=sizeLine:=by decide
 have F:its.toList.length=its.size:=T8;have I:its.toList.length=2:=by rw[h];rfl
 lia
noncomputable abbrev Gd (K:Ph)(n:Str)(st:Stmt)(f:Addr):Prop:=Qr K mainGlobals n=some (some (.ref f))/\∃fd,Fun K n n st f fd
noncomputable abbrev Bi (n q:Str)(st:Stmt)(ps:List Str):Prop:=∀(kV doc pm:Value)(an:Option Addr)(cdv ct:Value)(us:List Value),us.length=ps.length->bindArgs (Se n q (Io st) (F1 st) (Bh st) .none kV doc pm an cdv ct) ⟨us,[]⟩=pure (ps.zip us)
section
variable {P:Program}{w:World}{K:Ph}{mg:Str->Option Value}{base h:Heap}(X:K.In h)(G:h.Ns mainGlobals mg){n q:Str}{st:Stmt}{f C:Addr}{k:Nat}{ps:List Str}{sp:Sp}
include X G
theorem cal (g:Gd K n st f)(ok:∀fd,Fun K n n st f fd->A8 P w K mg base A9 k f fd ps sp)(b:Bi n n st ps:=by walk_at "bi"):A7 P w K mg base k n ps sp:=by
 obtain⟨a,fd,F⟩:=g;exact Ik (ok fd F) (PySem.W.mg_of X G a) F.kp (F.binds b)
end
theorem all_mk {l:W0}{w:World}{K:Ph}{h:Heap}{mg:Str->Option Value}{fa f1 f2 f3 f4 f5 f6 f7 f8 f9 f10 f11 f12 f13 f14 f15 f16 f17 f18 f19 f20 f21 f22 f23 f24 f25 f26 f27 f28 f29 f30 f31 f32 f33 f34 f35 f36 f37 f38:Addr}(X:K.In h)(G:h.Ns mainGlobals mg)(hfa:mg "law"=some (.ref fa))
  (a1:Gd K "is_whole" Ln f1) (a2:Gd K "placed_forms" L4 f2) (a3:Gd K "has_part" Lg f3) (a4:Gd K "forms_down_to" Mh f4) (a5:Gd K "names_bound" Lr f5) (a6:Gd K "bindings_at" Ka f6) (a7:Gd K "names_at" K4 f7) (a8:Gd K "binding_at" L7 f8) (a9:Gd K "new_kind" Mf f9) (a10:Gd K "kinds_of_word" Lo f10) (a11:Gd K "with_names" Kv f11) (a12:Gd K "kinds_in" Me f12) (a13:Gd K "last_same" Mj f13) (a14:Gd K "holds_itself" Kc f14) (a15:Gd K "joined" Mb f15)
  (a16:Gd K "fitted" L9 f16) (a17:Gd K "kinds_told" L3 f17) (a18:Gd K "mark_of" Kb f18) (a19:Gd K "looks" Lz f19) (a20:Gd K "_law_cell_at" Mi f20) (a21:Gd K "_law_names" Kt f21) (a22:Gd K "_law_same" Ir f22) (a23:Gd K "_law_shares" K8 f23) (a24:Gd K "_law_leaf" Mc f24) (a25:Gd K "_law_tree" Ju f25) (a26:Gd K "_law_bit" Km f26) (a27:Gd K "_law_two" L1 f27) (a28:Gd K "_law_ring" Ma f28) (a29:Gd K "_law_bound" K6 f29) (a30:Gd K "_law_wishes" Lh f30)
  (a31:Gd K "_law_gives" Kp f31) (a32:Gd K "_law_more" L6 f32) (a33:Gd K "_law_rows" Mm f33) (a34:Gd K "_law_put" J2 f34) (a35:Gd K "_law_has" Jl f35) (a36:Gd K "_law_solved" Js f36) (a37:Gd K "_law_numbered" Jb f37) (a38:Gd K "law" Kf f38) (z1:Qr K mainGlobals "isinstance"=some none) (z2:Qr K mainGlobals "int"=some none) (z3:Qr K mainGlobals "bool"=some none) (z4:Qr K mainGlobals "reversed"=some none) (z5:Qr K mainGlobals "list"=some none) (z6:Qr K mainGlobals "enumerate"=some none)
  (z7:Qr K mainGlobals "len"=some none) (z8:Qr K mainGlobals "dict"=some none) (z9:Qr K mainGlobals "zip"=some none) (z10:Qr K mainGlobals "tuple"=some none) (z11:Qr K mainGlobals "range"=some none) (z12:Qr K mainGlobals "str"=some none) {u1 u2 u3:Tok} (b1:Qr K mainGlobals "NUM"=some (some (.int 0 u1))) (b2:Qr K mainGlobals "TRUTH"=some (some (.int 1 u2))) (b3:Qr K mainGlobals "MOST_FORMS"=some (some (.int 40 u3))) {fs t0 t1:Addr} {o2 o0 o1:Option Addr} {i2 i0 i1:Array Value}
  {n2 n0 n1:Nat} {l2 l0 l1:Array (Option Value)} (b4:Qr K mainGlobals "FIRST_SHAPES"=some (some (.ref fs))) (gtA:K.lookup fs=some ⟨.type "tuple",o2,.seq i2 n2,l2⟩) (eA:i2.toList=[.ref t0,.ref t1]) (gtB:K.lookup t0=some ⟨.type "tuple",o0,.seq i0 n0,l0⟩) (eB:Jp i0.toList=some [.str "num"]) (gtC:K.lookup t1=some ⟨.type "tuple",o1,.seq i1 n1,l1⟩) (eC:Jp i1.toList=some [.str "truth"]) :
  ∃fd:FuncData,(∀(s:Shared)(v:Value),BindsTo s fd ⟨[v],[]⟩ [("_law_script",v)])/\∀base:Heap,K.In base->base.Ns mainGlobals mg->A8 l.prog w K mg base A9 168 fa fd ["_law_script"] (Oi K):=by
 obtain⟨aL,fd,FL⟩:=a38;have e:=hfa.symm.trans (PySem.W.mg_of X G aL);cases e;have FX:=FL;obtain⟨_,_,kV,bx,pm,an,b0,ct,_,ef,_,_⟩:=FL.ex;refine⟨fd,λs v=>by rw[ef];exact .of_eq rfl,λbase _ _=>?_⟩;have gl:=λ{n v}=>@PySem.W.mg_of K h mg n v X G;have no:=λ{n}=>@PySem.W.mg_none_of K h mg n X G;have T:Txt K mg:=⟨no z1,no z2,no z3,no z4,no z5,no z6,no z7,no z8,no z9,no z10,no z11,no z12⟩;have GN:Gb mg "NUM" (.int 0):=⟨_,gl b1,⟨_,rfl⟩⟩;have GT:Gb mg "TRUTH" (.int 1):=⟨_,gl b2,⟨_,rfl⟩⟩;have GM:Gb mg "MOST_FORMS" (.int 40):=⟨_,gl b3,⟨_,rfl⟩⟩;have GF:Gb mg "FIRST_SHAPES" (.ref fs):=⟨_,gl b4,rfl⟩;have HF:=two_top gtA eA;have bv:=Ziu gtB eB (by decide);have bw:=Ziu gtC eC (by decide);have U:=λ{k n st f ps sp}=>@cal l.prog w K mg base h X G n st f k ps sp;have bj:=U a1 λ_ F=>Zjn F T;have al:=U a2 λ_ F=>Zql F T;have bf:=U a3 λ_ F=>Zm7 F T bj;have ah:=U a4 λ_ F=>Zoi F T bf;have Y:=U a5 λ_ F=>Zue F T;have ap:=U a6 λ_ F=>Ztk F T ah Y;have be:=U a7 λ_ F=>Zof F T ap;have as:=U a8 λ_ F=>Zsc F T be;have bh:=U a9 λ_ F=>Zn3 F T;have ae:=U a10 λ_ F=>Zlr F T GN GT bh;have au:=U a11 λ_ F=>Zpu F T;have bi:=U a12 λ_ F=>Zkp F T GF HF bv bw ae au Y;have O:=U a13 λ_ F=>Zqu F T;have ak:=U a14 λ_ F=>Zm9 F T O;have bq:=U a15 λ_ F=>Zur F T O ak;have bt:=U a16 λ_ F=>Zre F T bq;have av:=U a17 λ_ F=>Zjr F T O;have bp:=U a18 λ_ F=>Zp9 F T as;have bu:=U a19 λ_ F=>Zjq F T GM al bi bt av bp;have I:=U a20 λ_ F=>Zjs F T;have ar:=U a21 λ_ F=>Zl8 F T;have bc:=U a22 λ_ F=>Zdb F T (λn h=>Ik h (gl a22.1) F.kp (F.binds (by walk_at "bi"))) 140;have aq:=U a23 λ_ F=>Zsq F T;have bb:=U a24 λ_ F=>Zt7 F T;have aa:=U a25 λ_ F=>Zhc F T aq bb (λn h=>Ik h (gl a25.1) F.kp (F.binds (by walk_at "bi"))) 15;have aj:=U a26 λ_ F=>Zo4 F T;have bg:=U a27 λ_ F=>Zls F T I aj;have a0:=U a28 λ_ F=>Zrs F T I aj aa;have Z:=U a29 λ_ F=>Zs1 F T;have ao:=U a30 λ_ F=>Zjo F T;have ax:=U a31 λ_ F=>Zjh F T Z;have ba:=U a32 λ_ F=>Zrr F T;have ay:=U a33 λ_ F=>Zu7 F T Z ax ao ba;have ai:=U a34 λ_ F=>Zdp F T (λn h=>Ik h (gl a34.1) F.kp (F.binds (by walk_at "bi"))) 125;have bo:=U a35 λ_ F=>Zip F T (λn h=>Ik h (gl a35.1) F.kp (F.binds (by walk_at "bi"))) 45;have am:=U a36 λ_ F=>Zdu F T ai bo (λn h=>Ik h (gl a36.1) F.kp (F.binds (by walk_at "bi"))) 41;have ag:=U a37 λ_ F=>Zjf F T (λn h=>Ik h (gl a37.1) F.kp (F.binds (by walk_at "bi"))) 45;exact Zlm FX T I ar aa bg a0 ay am ai ag bu bc
theorem walk {l:W0}{q:Program}{loose:List Str}{XP:(Str->Option Value)->Heap->Prop}{YP:World->Heap->Prop}{d:DefRec}{K:Params->Ph}(hn:l.most=some 63)(hdf:d.params.defaults=[])
  (hY:∀(w:World)(h:Heap),YP w h->(K w.params).In h)
  (F:∀(w:World)(mg:Str->Option Value)(fa:Addr)(h:Heap),(K w.params).In h->h.Ns mainGlobals mg->mg d.name=some (.ref fa) ->
   ∃fd:FuncData,(∀(s:Shared)(u:Value),BindsTo s fd ⟨[u],[]⟩ [("_law_script",u)])/\∀base:Heap,(K w.params).In base->base.Ns mainGlobals mg->A8 l.prog w (K w.params) mg base A9 168 fa fd ["_law_script"] (Oi (K w.params))) :
  PySem.W.WalkO q loose XP YP l.row.toRowW d [] (λf vs=>PySem.call f vs) :=
 L2.walk_of (n:=63) (k:=168) (x:="_law_script") (CX:=λ_=>A9) (sp:=λw=>Oi (K w.params)) hn (by decide) hdf ⟨rfl,by decide,by decide⟩ hY F (λ_ _ a ns O _ I=>⟨a,ns,rfl,I,O,λ_=>rfl⟩) λ_ _ _ _ _ z=>z
end K38
open PySem PySem.W PyProof.Rows
set_option maxRecDepth 100000 in
set_option maxHeartbeats 0 in
theorem PySem.Challenge.cw_gapscribe_k38_looks_by_own_solving_holds : PySem.Challenge.rw_gapscribe_k38_looks_by_own_solving.Holds := by
 w_on; o_law; o_head (PySem.W.kHook K38.KK K38.KA (λ_=>by kernel_rfl)); (case hw=>w_witness2)
 k_fill
 refine K38.walk (l:=PySem.Challenge.rw_gapscribe_k38_looks_by_own_solving) rfl rfl (λw h Y=>PySem.W.kIn_of Y) ?F
 case F =>
  intro w mg U h O G I;refine' K38.all_mk O G I ?a1 ?a2 ?a3 ?a4 ?a5 ?a6 ?a7 ?a8 ?a9 ?a10 ?a11 ?a12 ?a13 ?a14 ?a15 ?a16 ?a17 ?a18 ?a19 ?a20 ?a21 ?a22 ?a23 ?a24 ?a25 ?a26 ?a27 ?a28 ?a29 ?a30 ?a31 ?a32 ?a33 ?a34 ?a35 ?a36 ?a37 ?a38 ?z1 ?z2 ?z3 ?z4 ?z5 ?z6 ?z7 ?z8 ?z9 ?z10 ?z11 ?z12 ?b1 ?b2 ?b3 ?b4 ?gtA ?eA ?gtB ?eB ?gtC ?eC
  (case a1=>walk_at "gd")
  (case a2=>walk_at "gd")
  (case a3=>walk_at "gd")
  (case a4=>walk_at "gd")
  (case a5=>walk_at "gd")
  (case a6=>walk_at "gd")
  (case a7=>walk_at "gd")
  (case a8=>walk_at "gd")
  (case a9=>walk_at "gd")
  (case a10=>walk_at "gd")
  (case a11=>walk_at "gd")
  (case a12=>walk_at "gd")
  (case a13=>walk_at "gd")
  (case a14=>walk_at "gd")
  (case a15=>walk_at "gd")
  (case a16=>walk_at "gd")
  (case a17=>walk_at "gd")
  (case a18=>walk_at "gd")
  (case a19=>walk_at "gd")
  (case a20=>walk_at "gd")
  (case a21=>walk_at "gd")
  (case a22=>walk_at "gd")
  (case a23=>walk_at "gd")
  (case a24=>walk_at "gd")
  (case a25=>walk_at "gd")
  (case a26=>walk_at "gd")
  (case a27=>walk_at "gd")
  (case a28=>walk_at "gd")
  (case a29=>walk_at "gd")
  (case a30=>walk_at "gd")
  (case a31=>walk_at "gd")
  (case a32=>walk_at "gd")
  (case a33=>walk_at "gd")
  (case a34=>walk_at "gd")
  (case a35=>walk_at "gd")
  (case a36=>walk_at "gd")
  (case a37=>walk_at "gd")
  (case a38=>walk_at "gd")
  (case z1=>k_is)
  (case z2=>k_is)
  (case z3=>k_is)
  (case z4=>k_is)
  (case z5=>k_is)
  (case z6=>k_is)
  (case z7=>k_is)
  (case z8=>k_is)
  (case z9=>k_is)
  (case z10=>k_is)
  (case z11=>k_is)
  (case z12=>k_is)
  (case b1=>k_is)
  (case b2=>k_is)
  (case b3=>k_is)
  (case b4=>k_is)
  (case gtA=>k_is)
  (case eA=>rfl)
  (case gtB=>k_is)
  (case eB=>rfl)
  (case gtC=>k_is)
  (case eC=>rfl)
#print axioms PySem.Challenge.cw_gapscribe_k38_looks_by_own_solving_holds
