import PyProof.Rows.All
import Wide.All
import OpenK.AllK
import Wide.FinOn
import Lean
import PyProof.EqAt
import PyProof.EqKinds
import PyProof.TupleCall
import PyProof.StrBlock2
import KE.KDictOf
import PyProof.AttrMissHeap
import KE.KRevSl
import PySem.Challenge.RW_gapscribe_k33_plain_marks
set_option compiler.extract_closed false
set_option bootstrap.genMatcherCode false
set_option genSizeOfSpec false
set_option Elab.async false
set_option linter.all false
set_option maxRecDepth 100000
open Array renaming length_toList->Re
open Bool renaming false_ne_true->Oz,and_eq_true->Qi,eq_iff_iff->Rn,false_eq_true->Ts
open False renaming elim->Pu
open Int renaming toNat_natCast->Sj
open List renaming getElem?_eq_getElem->Os,size_toArray->Ou,getElem?_eq_some_iff->O7,length_map->Ox,length_append->O3,mem_cons->Oy,length_cons->O8,getElem?_map->Pg,mem_append_right->Pn,range->O2,length_singleton->Pq,drop_eq_getElem_cons->P5,not_mem_nil->Pm,replicate->Pj,getElem?_append_left->Qf,mem_of_getElem?->Px,map_cons->Pk,getElem?_append_right->Qp,mem_singleton->Py,mem_append->Pr,map_append->Ps,length_take->Pz,append_nil->P0,lookup_cons->Qb,mem_cons_of_mem->Qt,append_assoc->Qh,flatMap_append->Qv,getD_eq_getElem?_getD->R4,mem_map->P3,replicate_succ->Rf,getElem?_cons_succ->Sc,reverse_append->Rg,eq_nil_of_length_eq_zero->Tb,take_length->Qz,drop_of_length_le->Sf,find?_cons->Q1,take_succ->Q3,length_drop->Rk,all_eq_true->Rl,getElem_mem->Rm,mem_cons_self->Sh,getElem?_set_self->Te,take_of_length_le->Tg,flatten_cons->Sk,flatMap_cons->Sl,mem_append_left->Ti,getElem?_set_ne->Tj,any_cons->Rt,dropLast_concat_getLast->Uf,filterMap_cons->Tl,nodup_cons->Sq,length_reverse->To,all_cons->Sx,cons_append->T2,drop_length->T3,mem_filter->T6,of_mem_zip->T7,forIn_cons->Ua,length->S8
open Nat renaming le_refl->Oq,lt_of_lt_of_le->O5,ne_of_lt->O1,le_trans->Pa,zero_le->Pd,lt_irrefl->Pp,ne_of_gt->Ql,sub_self->Q5,le_add_right->Sn,not_lt_zero->Sv,lt_succ_of_lt->Tv,le_succ->Ru,le_of_lt->Sy
open Ne renaming symm->O9
open Option renaming isSome_iff_exists->Qr,ne_none_iff_exists'->Q9,map_some->Su,isSome_map->Tz
open Option.some renaming inj->O4
open PyProof.Rows renaming callWith_type1->Pw,slot_tuple_getitem->Ta,boot_enumerate->Ug,assignInOrder_cons->Tp
open PySem renaming wpAny_bind->Op,wpAny_pure->Ot,wpAny_field->Pf,wpAny_callSpecial?_slot->Qs,wpAny_newObj_type->Qa,mem_of_lookup->Qg,wpAny_setField_rec->Qw,wpAny_truthy_bool->Qx,wpAny_passesOwn->Qj,wpAny_updateSeq->Qk,wpAny_holding->Qc,wpAny_getItem_str_slice->Sb,wpAny_call_entry->Qy,wpAny_pyIter_tuple->Ri,tupleKind_room_in1->Rj,codeAny_builtin->Q0,builtinLookup_eq_fast->Sg,wpAny_seqItems->Q2,plainId_quiet->Q4,wpAny_specialOf->Ro,Params->Q6,noFill_tuple_add->Sm,wpAny_pyIter_revIter->Tk,wpAny_standAt->Rs,wpAny_execs_nil->So,post_val_or_str->Sr,typeLookup_type->Ss,wpAny_Call_Name_kw->Tq,wpAny_mono->Q7,wpAny_pyIter_list->Tw,wpAny_pyIter_enum->Tx,Stmt->Q8,seq_tuple_add->Sw,wpAny_isInstance->T0,concat_meets->Sz,revObj->S7,call_meets->Rv
open PySem.Around renaming under_plainId->Qu
open PySem.AutoSeq1 renaming wpAny_loadPart'->R0
open PySem.Builtin.List renaming listExtendWith->Qo,listTooLong->Ra,listSameRef->R9,listItems->Se,listLengthHint->Tc
open PySem.Builtin.Slice renaming slicePlaces->R5,sliceAdjust->Td
open PySem.Builtin.SmallTypes renaming nextOf->Qq,ownedTupleIsFree->Ry
open PySem.Builtin.Tuple renaming tupleExact->R8
open PySem.Calls renaming spliced_cons->Rh,callWith_builtin->Tf,spliced_nil->Si
open PySem.Challenge renaming pw_gapscribe_k33_plain_marks->Qn
open PySem.F renaming plainAttrs_list->Pi,plain_extend_loop->P4,slot_list_append->P6,type_list_append->P7,slot_tuple_iterator_next->Rz,slot_enumerate_next->R3,slot_list_pop->Rb,type_list_pop->Rc,entry_extend_loop->R6,args_tuple_add_2->R7,entry_tuple_add->Sa,slot_tuple_add->Sd,args_tuple_iterator_next_1->Ub,entry_tuple_iterator_next->Uc,slot_dict_get->Th,args_enumerate_next_1->Ud,entry_enumerate_next->Ue
open PySem.Heap renaming get?_push_of_some->Ov,lt_size->Ow,get?_push_size->O6,SameBut->Pc,get?_update_other->P8,get?_update_self->P9,size_push->Po,ExtBut->S9
open PySem.Obj renaming mapSeq->Pb
open PySem.Paired renaming length->Rr
open PySem.PassesOwn renaming never->Ph
open PySem.SeqAt renaming EqAt->O0,eq_tupleAt->T1
open PySem.SeqAt.EqAt renaming same->T8
open PySem.Str renaming ofString->Qe
open PySem.Txt renaming slice_le->S6,slice->Rx
open PySem.W renaming Frag->Oo,kia_one->Pl,nsIn->Pe,fnOf->Qd,kitOne->Rp,keepIn->Rq,BT->Qm,methodObj->Tt,kitx_list->Tu,instObj->T4,OpenLaw->T9
namespace L2
open PySem PySem.Spec PyProof.Rows
noncomputable abbrev Ah:=Sum Int Str
noncomputable def Fe:Ah->Value->Bool
 | .inl k,v=>Value.isInt k v
 | .inr x,v=>Value.isStrOf x v
noncomputable def keyH (w:World):Ah->Int
 | .inl k=>hashInt k
 | .inr x=>hashStr w x
theorem Dp:∀{k:Ah}{v:Value},Fe k v=true->(∃ i t,k=Sum.inl i/\v=Value.int i t)\/(∃ x t,k=Sum.inr x/\v=Value.str x t)
 | .inl i,v,h=>by
  obtain ⟨t,e⟩:=Value.isInt_shape (k:=i) (v:=v) h
  exact .inl ⟨i,t,rfl,e⟩
 | .inr x,v,h=>by
  obtain ⟨t,e⟩:=Value.isStrOf_shape (x:=x) (v:=v) h
  exact .inr ⟨x,t,rfl,e⟩
theorem Zjj (i:Int)(t:Tok):Fe (.inl i) (.int i t)=true:=by simp [Fe,Value.isInt]
theorem Zb1 (x:Str)(t:Tok):Fe (.inr x) (.str x t)=true:=by simp [Fe,Value.isStrOf]
theorem Zjn (a b:Int):decide ((Sum.inl a:Ah)=Sum.inl b)=(a == b):=by
 by_cases e:a=b
 ·subst e;simp
 ·have h:¬ (Sum.inl a:Ah)=Sum.inl b:=fun q=>e (Sum.inl.inj q)
  rw [decide_eq_false h]
  exact (beq_eq_false_iff_ne.mpr e).symm
theorem Zjg (a b:Str):decide ((Sum.inr a:Ah)=Sum.inr b)=decide (a=b):=by
 by_cases e:a=b
 ·subst e;simp
 ·have h:¬ (Sum.inr a:Ah)=Sum.inr b:=fun q=>e (Sum.inr.inj q)
  rw [decide_eq_false h,decide_eq_false e]
theorem Zef (a:Int)(b:Str):decide ((Sum.inl a:Ah)=Sum.inr b)=false:=decide_eq_false (fun q=>nomatch q)
theorem Zhx (a:Str)(b:Int):decide ((Sum.inr a:Ah)=Sum.inl b)=false:=decide_eq_false (fun q=>nomatch q)
noncomputable def B3 (prog:Program)(w:World):PySem.KeyKind prog w Ah where
 is:=Fe
 hash:=keyH w
 inj:=fun v a b ha hb=>by
  rcases Dp ha with ⟨i,t,rfl,rfl⟩ | ⟨x,t,rfl,rfl⟩
  ·rcases Dp hb with ⟨j,u,rfl,e⟩ | ⟨y,u,rfl,e⟩
   ·injection e with e1 _;rw [e1]
   ·exact nomatch e
  ·rcases Dp hb with ⟨j,u,rfl,e⟩ | ⟨y,u,rfl,e⟩
   ·exact nomatch e
   ·injection e with e1 _;rw [e1]
 byValue:=fun k v h=>by
  rcases Dp h with ⟨i,t,rfl,rfl⟩ | ⟨x,t,rfl,rfl⟩ <;> rfl
 pyHash:=fun hv h=>by
  rcases Dp hv with ⟨i,t,rfl,rfl⟩ | ⟨x,t,rfl,rfl⟩
  ·exact wpAny_pyHash_int h
  ·exact wpAny_pyHash_str h
 eqBool:=fun hu hv h=>by
  rcases Dp hu with ⟨i,t,rfl,rfl⟩ | ⟨x,t,rfl,rfl⟩
  ·rcases Dp hv with ⟨j,u,rfl,rfl⟩ | ⟨y,u,rfl,rfl⟩
   ·rw [Zjn] at h;exact wpAny_eqBool_int h
   ·rw [Zef] at h;exact O0.int_str i t y u _ _ _ _ h
  ·rcases Dp hv with ⟨j,u,rfl,rfl⟩ | ⟨y,u,rfl,rfl⟩
   ·rw [Zhx] at h;exact O0.str_int x t j u _ _ _ _ h
   ·rw [Zjg] at h;exact wpAny_eqBool_str h
 «strs»:=fun k x t v h=>by
  rcases Dp h with ⟨i,u,rfl,e⟩ | ⟨y,u,rfl,e⟩
  ·exact nomatch e
  ·injection e with e1 _
   subst e1
   cases v <;> rfl
theorem Zg2 (prog:Program)(w:World)(i:Int)(t:Tok):(B3 prog w).is (.inl i) (.int i t)=true:=Zjj i t
theorem Zbn (prog:Program)(w:World)(x:Str)(t:Tok):(B3 prog w).is (.inr x) (.str x t)=true:=Zb1 x t
inductive V where
 | non | bl (b:Bool) | int (i:Int) | str (x:Str) | byt (b:Array UInt8) | flt (b:UInt64) | ref (a:Addr) | ty (n:String)
 deriving DecidableEq
noncomputable def RelV:V->Value->Prop
 | .non,u=>u=Value.none
 | .bl b,u=>u=Value.bool b
 | .int i,u=>∃ t,u=Value.int i t
 | .str x,u=>∃ t,u=Value.str x t
 | .byt b,u=>∃ t,u=Value.bytes b t
 | .flt b,u=>∃ t,u=Value.float b t
 | .ref a,u=>u=Value.ref a
 | .ty n,u=>u=Value.type n
noncomputable abbrev Vals:List V->List Value->Prop:=Paired RelV
theorem Vals.length {xs:List V}{us:List Value}(r:Vals xs us):xs.length=us.length:=Rr r
theorem Vals.get:∀{xs:List V}{us:List Value}{i:Nat}{x:V},Vals xs us->xs[i]?=some x->∃ u,us[i]?=some u/\RelV x u
 | _,_,_,_,.nil,e=>by simp at e
 | _,_,0,_,.cons r _,e=>by simp at e;subst e;exact ⟨_,rfl,r⟩
 | _,_,i+1,x,.cons _ t,e=>by
  obtain ⟨u,h1,h2⟩:=Vals.get (i:=i) (x:=x) t (by simpa using e)
  exact ⟨u,by simpa using h1,h2⟩
theorem Vals.set {x:V}{u:Value}(r:RelV x u):∀{xs:List V}{us:List Value}(i:Nat),Vals xs us->Vals (xs.set i x) (us.set i u)
 | _,_,_,.nil=>.nil
 | _,_,0,.cons _ t=>.cons r t
 | _,_,i+1,.cons q t=>.cons q (Vals.set r i t)
theorem Vals.append:∀{xs ys:List V}{us ws:List Value},Vals xs us->Vals ys ws->Vals (xs++ys) (us++ws)
 | _,_,_,_,.nil,s=>s
 | _,_,_,_,.cons r t,s=>.cons r (Vals.append t s)
theorem Vals.take:∀{xs:List V}{us:List Value}(n:Nat),Vals xs us->Vals (xs.take n) (us.take n)
 | _,_,0,_=>.nil
 | _,_,_+1,.nil=>.nil
 | _,_,n+1,.cons r t=>.cons r (Vals.take n t)
theorem Vals.drop:∀{xs:List V}{us:List Value}(n:Nat),Vals xs us->Vals (xs.drop n) (us.drop n)
 | _,_,0,r=>r
 | _,_,_+1,.nil=>.nil
 | _,_,n+1,.cons _ t=>Vals.drop n t
noncomputable def RelO:Option V->Option Value->Prop
 | some v,some u=>RelV v u
 | none,none=>True
 | _,_=>False
noncomputable def KV {κ:Type}:List (κ×V)->List (κ×Value)->Prop:=Paired fun (p:κ×V) (q:κ×Value)=>p.1=q.1/\RelV p.2 q.2
noncomputable def kV:Ah->V
 | .inl i=>.int i
 | .inr x=>.str x
inductive HO where
  | lst (xs:List V)
  | tup (xs:List V)
  | dK (kvs:List (Ah×V)) | dT (kvs:List (List Ah×V))
  | set (S:Int->Bool) (n:Nat)
  | ins (C dx:Addr) (fs:List (Str×V))
  | own (x:Addr)
  | xd (fs:List (Str×V))
  | met (f x:Addr)
  | rng (lo hi:Int)
  | frz (o:Obj) (u:HO)
  | tbl (ps:Array Value)
  | ext (φ:Heap->Prop)
noncomputable abbrev Hp:=Addr->Option HO
noncomputable def upd (H:Hp)(a:Addr)(o:HO):Hp:=fun b=>if b=a then some o else H b
theorem Ac {H:Hp}{a:Addr}{o:HO}:upd H a o a=some o:=by unfold upd;rw [if_pos rfl]
theorem Af {H:Hp}{a b:Addr}{o:HO}(h:b≠a):upd H a o b=H b:=by unfold upd;rw [if_neg h]
theorem Io {H:Hp}{a:Addr}{o u:HO}:upd (upd H a o) a u=upd H a u:=by
 funext b;unfold upd;split <;> rfl
theorem Dl {H:Hp}{a b:Addr}{o u:HO}(h:H a=some o)(h':H b=some u)(d:o≠u):a≠b:=by
 intro e;subst e;rw [h] at h';exact d (O4 h')
theorem An {H:Hp}{a b:Addr}{o:HO}(h:H a=some o)(h':H b=none):a≠b:=by
 intro e;subst e;rw [h] at h';cases h'
section
variable (P:Program)(w:World)
noncomputable def ObjOk (H:Hp)(h:Heap)(a:Addr):HO->Prop
 | .lst xs=>xs.length<=sizeLine/\∃(its:List Value)(n:Nat),Vals xs its/\h.get? a=some { cls:=.type "list",data:=.seq its.toArray n }
 | .tup xs=>xs.length<=sizeLine/\∃ its:List Value,Vals xs its/\IsTup h a its.toArray
 | .dK kvs=>kvs.length<=sizeLine/\(a == sysModules)=false/\∃ vs,KV kvs vs/\h.DictOf (B3 P w) a vs
 | .dT kvs=>kvs.length<=sizeLine/\(a == sysModules)=false/\∃ xs:List (List Ah×Addr×Value),
   Paired (fun (p:List Ah×V) (q:List Ah×Addr×Value)=>p.1=q.1/\H q.2.1=some (.tup (p.1.map kV))/\RelV p.2 q.2.2) kvs xs /\
   ∃ o es ep,h.get? a=some o/\o.ExactDict/\o.data=.dict es ep/\es.toList=xs.map (entryOfKey (tupleKind (B3 P w)))/\(xs.map (·.1)).Nodup
 | .set S n=>h.SetOf (intKind P w) a S n
 | .ins C dx fs=>H dx=some (.own a)/\fs.length<=1000/\dx≠a/\h.get? a=some (T4 C dx) /\
   ∃ mA,h.Ns1 dx mA/\(∀ f,RelO (fs.lookup f) (mA f))/\PySem.Within mA (fs.map (·.1))
 | .own _=>∃ o,h.get? a=some o
 | .xd fs=>∃ mA,h.Ns1 a mA/\∀ f,RelO (fs.lookup f) (mA f)
 | .rng lo hi=>∃ t u v,h.get? a=some { cls:=.type "range",data:=.fields #[.int lo t,.int hi u,.int 1 v] }
 | .frz o u=>h.get? a=some o/\ObjOk H h a u
 | .tbl ps=>h.get? a=some { cls:=.none,data:=.fields ps }
 | .met f x=>h.get? a=some (Tt (.ref f) (.ref x))
 | .ext φ=>φ h/\(∃ o,h.get? a=some o)/\∀ h1 h2:Heap,φ h1->(∀ o,h1.get? a=some o->h2.get? a=some o)->φ h2
noncomputable def HOk (H:Hp)(h:Heap):Prop:=∀ a o,H a=some o->ObjOk P w H h a o
end
section
variable {P:Program}{w:World}{H H':Hp}{h h':Heap}{a:Addr}{o:HO}
theorem ObjOk.lt (x:ObjOk P w H h a o):a < h.objs.size:=by
 cases o with
 | lst xs=>obtain ⟨_,_,_,_,e⟩:=x;exact Ow e
 | tup xs=>obtain ⟨_,_,_,p⟩:=x;exact p.lt
 | dK kvs=>obtain ⟨_,_,_,_,o,_,_,e,_⟩:=x;exact Ow e
 | dT kvs=>obtain ⟨_,_,_,_,o,_,_,e,_⟩:=x;exact Ow e
 | set S n=>obtain ⟨o,_,_,_,e,_⟩:=x;exact Ow e
 | ins C dx fs=>obtain ⟨_,_,_,e,_⟩:=x;exact Ow e
 | own y=>obtain ⟨_,e⟩:=x;exact Ow e
 | xd fs=>obtain ⟨_,⟨_,_,_,e,_⟩,_⟩:=x;exact Ow e
 | rng lo hi=>obtain ⟨_,_,_,e⟩:=x;exact Ow e
 | frz ob u=>obtain ⟨e,_⟩:=x;exact Ow e
 | tbl ps=>exact Ow (show h.get? a=some _ from x)
 | met f y=>exact Ow (show h.get? a=some _ from x)
 | ext φ=>obtain ⟨_,⟨_,e⟩,_⟩:=x;exact Ow e
theorem Paired.mapP {α β:Type}{F G:α->β->Prop}:∀{l₁:List α}{l₂:List β},Paired F l₁ l₂->(∀ a b,F a b->G a b)->Paired G l₁ l₂
 | _,_,.nil,_=>.nil
 | _,_,.cons r t,f=>.cons (f _ _ r) (Paired.mapP t f)
theorem ObjOk.stay (x:ObjOk P w H h a o)(k:∀ b u,(b=a\/H b=some (.own a))->h.get? b=some u->h'.get? b=some u)
  (ho:∀ b,H b=some (.own a)->H' b=some (.own a)) (ht:∀ b xs,H b=some (.tup xs)->H' b=some (.tup xs)):ObjOk P w H' h' a o:=by
 induction o with
 | lst xs=>obtain ⟨z,its,n,r,e⟩:=x;exact ⟨z,its,n,r,k _ _ (.inl rfl) e⟩
 | tup xs=>obtain ⟨z,its,r,ob,e,c⟩:=x;exact ⟨z,its,r,ob,k _ _ (.inl rfl) e,c⟩
 | dK kvs=>obtain ⟨z,y,vs,r,ob,es,ep,e,c⟩:=x;exact ⟨z,y,vs,r,ob,es,ep,k _ _ (.inl rfl) e,c⟩
 | dT kvs =>
  obtain ⟨z,y,xs,r,ob,es,ep,e,c⟩:=x
  exact ⟨z,y,xs,Paired.mapP r fun p q z=>⟨z.1,ht _ _ z.2.1,z.2.2⟩,ob,es,ep,k _ _ (.inl rfl) e,c⟩
 | set S n=>obtain ⟨ob,es,ep,t,e,c⟩:=x;exact ⟨ob,es,ep,t,k _ _ (.inl rfl) e,c⟩
 | ins C dx fs =>
  obtain ⟨d,z,ne,e,mA,⟨od,es,ep,e2,c⟩,r⟩:=x
  exact ⟨ho _ d,z,ne,k _ _ (.inl rfl) e,mA,⟨od,es,ep,k _ _ (.inr d) e2,c⟩,r⟩
 | own y=>obtain ⟨ob,e⟩:=x;exact ⟨ob,k _ _ (.inl rfl) e⟩
 | xd fs=>obtain ⟨mA,⟨od,es,ep,e,c⟩,r⟩:=x;exact ⟨mA,⟨od,es,ep,k _ _ (.inl rfl) e,c⟩,r⟩
 | rng lo hi=>obtain ⟨t,u,v,e⟩:=x;exact ⟨t,u,v,k _ _ (.inl rfl) e⟩
 | frz ob u ih=>obtain ⟨e,q⟩:=x;exact ⟨k _ _ (.inl rfl) e,ih q⟩
 | tbl ps =>
  have e:h.get? a=some { cls:=.none,data:=.fields ps }:=x
  show h'.get? a=some { cls:=.none,data:=.fields ps }
  exact k a _ (.inl rfl) e
 | met f y =>
  have e:h.get? a=some (Tt (.ref f) (.ref y)):=x
  show h'.get? a=some (Tt (.ref f) (.ref y))
  exact k a _ (.inl rfl) e
 | ext φ=>obtain ⟨p,⟨o,e⟩,st⟩:=x;exact ⟨st _ _ p fun o q=>k _ _ (.inl rfl) q,⟨o,k _ _ (.inl rfl) e⟩,st⟩
theorem HOk.lt (x:HOk P w H h)(e:H a=some o):a < h.objs.size:=(x a o e).lt
theorem HOk.fresh (x:HOk P w H h)(e:h.objs.size<=a):H a=none:=by
 cases q:H a with
 | none=>rfl
 | some u=>exact absurd (O5 (x.lt q) e) (Pp _)
theorem HOk.kept (x:HOk P w H h)(k:∀ b u,h.get? b=some u->h'.get? b=some u):HOk P w H h':=fun a o e =>
 (x a o e).stay (fun b u _ q=>k b u q) (fun _ q=>q) fun _ _ q=>q
theorem HOk.laid (x:HOk P w H h)(k:∀ b u,h.get? b=some u->h'.get? b=some u)(hp:h.objs.size<=a)(new:ObjOk P w (upd H a o) h' a o):HOk P w (upd H a o) h':=fun b u e=>by
 have hn:=x.fresh hp
 by_cases hb:b=a
 ·subst hb;rw [Ac] at e;cases e;exact new
 ·rw [Af hb] at e
  exact (x b u e).stay (fun c v _ q=>k c v q) (fun c q=>by rw [Af (An q hn)];exact q) fun c xs q=>by rw [Af (An q hn)];exact q
end
noncomputable def Rd (H:Hp)(a:Addr)(u:HO):Prop:=H a=some u\/∃ o,H a=some (.frz o u)
theorem Rd.ok {P:Program}{w:World}{H:Hp}{h:Heap}{a:Addr}{u:HO}(r:Rd H a u)(x:HOk P w H h):ObjOk P w H h a u:=by
 rcases r with r | ⟨o,r⟩
 ·exact x a u r
 ·obtain ⟨_,q⟩:=x a _ r
  exact q
noncomputable def Mut:Option HO->Prop
 | some (.lst _)=>True
 | some (.dK _)=>True
 | some (.dT _)=>True
 | some (.set _ _)=>True
 | some (.ins _ _ _)=>True
 | some (.ext _)=>True
 | _=>False
section
variable {P:Program}{w:World}{H:Hp}{h h':Heap}{x e:Addr}{o':HO}
theorem HOk.write (ok:HOk P w H h)(mu:Mut (H x))(he:e=x\/H e=some (.own x))(k:∀ b u,b≠e->h.get? b=some u->h'.get? b=some u)(heo:∃ u,h'.get? e=some u)
  (new:ObjOk P w (upd H x o') h' x o'):HOk P w (upd H x o') h':=fun b u q=>by
 have nown:∀ c y,H c=some (.own y)->c≠x:=fun c y r z=>by subst z;rw [r] at mu;exact mu
 have ntup:∀ c xs,H c=some (.tup xs)->c≠x:=fun c xs r z=>by subst z;rw [r] at mu;exact mu
 by_cases hb:b=x
 ·subst hb;rw [Ac] at q;cases q;exact new
 ·rw [Af hb] at q
  by_cases hbe:b=e
  ·have q':H b=some (.own x):=by
    rcases he with z | z
    ·exact absurd (hbe.trans z) hb
    ·rw [hbe];exact z
   rw [q] at q';cases q'
   obtain ⟨v,hv⟩:=heo
   exact ⟨v,by rw [hbe];exact hv⟩
  ·refine (ok b u q).stay (fun c v hc r=>k c v ?_ r) (fun c r=>by rw [Af (nown c b r)];exact r) fun c xs r=>by rw [Af (ntup c xs r)];exact r
   rcases hc with rfl | hc
   ·exact hbe
   ·rintro rfl
    rcases he with z | z
    ·exact nown c b hc z
    ·rw [hc] at z;cases z;exact hb rfl
end
structure Un (fs ex:List Addr)(H H':Hp)(h h':Heap):Prop where
 keep:∀ b o,h.get? b=some o->H b=none->b ∉ fs->b ∉ ex->h'.get? b=some o
 slot:∀ b o,h.get? b=some o->H b=none->b∈fs->b ∉ ex->∃ sl,h'.get? b=some { o with slots:=sl }
 free:∀ b o,h.get? b=some o->H b=none->b ∉ ex->H' b=none
 there:∀ b o,h.get? b=some o->b ∉ ex->∃ o',h'.get? b=some o'
 tups:∀ b xs,H b=some (.tup xs)->H' b=some (.tup xs)
 frzs:∀ b o u,H b=some (.frz o u)->H' b=some (.frz o u)
 tbls:∀ b ps,H b=some (.tbl ps)->∃ more,H' b=some (.tbl (ps++more))
section
variable {fs fs' ex ex':List Addr}{H H1 H2:Hp}{h h1 h2 h':Heap}{a x e:Addr}{o:HO}
theorem Un.any (u:Un fs ex H H1 h h1){b:Addr}{ob:Obj}(q:h.get? b=some ob)(n:H b=none)(hx:b ∉ ex):∃ sl,h1.get? b=some { ob with slots:=sl }:=by
 by_cases hb:b∈fs
 ·exact u.slot b ob q n hb hx
 ·exact ⟨ob.slots,u.keep b ob q n hb hx⟩
theorem Un.kept (k:∀ b u,h.get? b=some u->h'.get? b=some u):Un fs ex H H h h' :=
 ⟨fun b ob q _ _ _=>k b ob q,fun b ob q _ _ _=>⟨ob.slots,k b ob q⟩,fun _ _ _ n _=>n,fun b ob q _=>⟨ob,k b ob q⟩,fun _ _ q=>q,fun _ _ _ q=>q,fun _ ps q=>⟨#[],by rw [q];simp⟩⟩
theorem Un.refl:Un fs ex H H h h:=Un.kept fun _ _ q=>q
theorem Un.laid (k:∀ b u,h.get? b=some u->h'.get? b=some u)(hp:h.objs.size<=a)(hn:H a=none):Un fs ex H (upd H a o) h h' where
 keep:=fun b u q _ _ _=>k b u q
 slot:=fun b u q _ _ _=>⟨u.slots,k b u q⟩
 free:=fun b u q n _=>by rw [Af (O1 (O5 (Ow q) hp))];exact n
 there:=fun b u q _=>⟨u,k b u q⟩
 tups:=fun b xs q=>by rw [Af (An q hn)];exact q
 frzs:=fun b u xs q=>by rw [Af (An q hn)];exact q
 tbls:=fun b ps q=>⟨#[],by rw [Af (An q hn),q];simp⟩
theorem Un.write (mu:Mut (H x))(he:e=x\/H e=some (.own x))(k:∀ b u,b≠e->h.get? b=some u->h'.get? b=some u)(heo:∃ u,h'.get? e=some u):Un fs ex H (upd H x o) h h':=by
 have hx:∀ b,H b=none->b≠x:=fun b n z=>by subst z;rw [n] at mu;exact mu
 have hb:∀ b,H b=none->b≠e:=fun b n z=>by
  subst z
  rcases he with r | r
  ·exact hx b n r
  ·rw [n] at r;cases r
 have hm:∀ b u,H b=some u->¬ Mut (some u)->b≠x:=fun b u q nm z=>by subst z;rw [q] at mu;exact nm mu
 refine ⟨fun b u q n _ _=>k b u (hb b n) q,fun b u q n _ _=>⟨u.slots,k b u (hb b n) q⟩,fun b u q n _=>by rw [Af (hx b n)];exact n,fun b u q _=>?_,
  fun b xs q=>by rw [Af (hm b _ q fun z=>z)];exact q,fun b u xs q=>by rw [Af (hm b _ q fun z=>z)];exact q,fun b ps q=>⟨#[],by rw [Af (hm b _ q fun z=>z),q];simp⟩⟩
 by_cases hbe:b=e
 ·subst hbe;exact heo
 ·exact ⟨u,k b u hbe q⟩
end
noncomputable def trk (h:Heap)(H:Hp):List Addr:=(O2 h.objs.size).filter fun a=>(H a).isSome
noncomputable def Dh (h:Heap)(H:Hp):Heap:=PySem.W.hideAll h (trk h H)
theorem Zft (h:Heap)(H:Hp):(Dh h H).objs.size=h.objs.size:=PySem.W.hideAll_size _ _
theorem Zfj {h:Heap}{H:Hp}{b:Addr}{o:Obj}(e:h.get? b=some o)(n:H b=none):(Dh h H).get? b=some o :=
 PySem.W.hideAll_get _ e fun hm=>by
  have q:(H b).isSome=true:=(T6.mp hm).2
  rw [n] at q;simp at q
theorem Zbs {h:Heap}{H:Hp}{b:Addr}{o:Obj}(e:(Dh h H).get? b=some o):h.get? b=some o/\H b=none:=by
 have e':h.get? b=some o:=PySem.W.of_hideAll (trk h H) e
 refine ⟨e',?_⟩
 cases q:H b with
 | none=>rfl
 | some x =>
  have hm:b∈trk h H:=T6.mpr ⟨List.mem_range.mpr (Ow e'),by simp [q]⟩
  have z:(Dh h H).get? b=none:=PySem.W.hideAll_none (trk h H) hm
  rw [z] at e;cases e
structure Mod (K:Oo)(mg:Str->Option Value)(base:Heap):Prop where
 kin:K.In base
 glob:base.Ns mainGlobals mg
 blt:∃ mb,base.Ns builtinsNs mb/\∀ x:Str,x ≠ "__name__" -> mb x=bootBuiltins x
 nolimit:base.NoLimit
structure Cx where
 prog:Program
 w:World
 K:Oo
 mg:Str->Option Value
 base:Heap
 A:Around
 N:List Str
 s₀:Shared
 H₀:Hp
 env:Env
 outer:List Env
 stack:List Env
 ex:List Addr
 fn:Str->Bool
 calm:Bool
 pn:List (Addr×Obj)
 xe:Value->Shared->Prop
noncomputable def Cb (l:List Env):List Addr:=l.filterMap (·.frame)
noncomputable abbrev Cx.fs (X:Cx):List Addr:=Cb X.outer
noncomputable def Vis (sc:Scope)(x:Str):Prop:=sc.names.lookup x=some .local\/sc.names.lookup x=some .cell\/sc.names.lookup x=some .free
noncomputable def Dg (sc:Scope)(x:Str):Prop:=sc.names.lookup x=some .local\/sc.names.lookup x=some .cell
noncomputable def Look (env:Env)(h:Heap)(m:Str->Option Value)(x:Str)(u:Value):Prop :=
 (env.kindOf x=some .local/\m x=some u)\/((env.kindOf x=some .cell\/env.kindOf x=some .free)/\∃ c,env.cells.lookup x=some c/\h.IsCell c (some u))
structure Cx.Ok (X:Cx):Prop where
 mod:Mod X.K X.mg X.base
 kind:X.env.scope.kind=.function
 glob:X.env.globals=mainGlobals
 blt:X.env.builtins=builtinsNs
 above:X.s₀.heap.objs.size<=X.env.locals
 inj:∀ x y c,X.env.cells.lookup x=some c->X.env.cells.lookup y=some c->x=y
 has:∀ x,(X.env.kindOf x=some .cell\/X.env.kindOf x=some .free)->∃ c,X.env.cells.lookup x=some c
 cab:∀ x c,X.fn x=true->X.env.cells.lookup x=some c->X.s₀.heap.objs.size<=c
 hd:X.calm=true->X.A.handled=none
 frames:X.A.frames=some X.stack
 stk:X.stack=X.outer\/(X.stack=X.env::X.outer/\X.env.frame=some X.env.locals)
 exf:∀ b∈X.ex,b≠X.env.locals/\∀ x c,X.env.cells.lookup x=some c->c≠b
 bs:∀ b o,X.base.get? b=some o->X.s₀.heap.get? b=some o/\X.H₀ b=none
 bsz:X.base.objs.size<=X.s₀.heap.objs.size
 noex:∀ b o,X.base.get? b=some o->b ∉ X.ex
 exfs:∀ b∈X.ex,b ∉ X.fs
 funs:X.s₀.heap.FunFrames X.base X.outer
 frf:∀ b∈X.fs,X.H₀ b=none
structure Inv (X:Cx)(pins:List (Addr×Obj))(σ:List (Option V))(H:Hp)(s:Shared):Prop where
 ok:X.Ok
 os:s.os=X.s₀.os
 bare:AllBare s.gens
 base:Un X.fs X.ex X.H₀ H X.s₀.heap s.heap
 loc:∃ m,s.heap.Ns X.env.locals m/\∀(i:Nat)(x:Str)(v:V),X.N[i]?=some x->σ[i]?=some (some v)->Vis X.env.scope x->∃ u,RelV v u/\Look X.env s.heap m x u
 cell:∀ x c,X.env.cells.lookup x=some c->∃ v,s.heap.IsCell c v
 free:H X.env.locals=none
 freeC:∀ x c,X.env.cells.lookup x=some c->H c=none
 pin:∀ p∈X.pn++pins,s.heap.get? p.1=some p.2/\H p.1=none/\p.1≠X.env.locals/\p.1 ∉ X.fs/\∀ v,p.2.data≠.cell v
 hok:HOk X.prog X.w H s.heap
 len:σ.length=X.N.length
section
variable {X:Cx}{pins:List (Addr×Obj)}{σ:List (Option V)}{H H':Hp}{s:Shared}{h':Heap}
theorem Cx.Ok.nofr (ok:X.Ok){b:Addr}{o:Obj}(e:X.base.get? b=some o):b ∉ X.fs:=fun hb=>by
 have:=(ok.funs.mem hb).1
 rw [e] at this;cases this
theorem Inv.bs (I:Inv X pins σ H s):∀ b o,X.base.get? b=some o->s.heap.get? b=some o/\H b=none:=fun b o e =>
 ⟨I.base.keep b o (I.ok.bs b o e).1 (I.ok.bs b o e).2 (I.ok.nofr e) (I.ok.noex b o e),I.base.free b o (I.ok.bs b o e).1 (I.ok.bs b o e).2 (I.ok.noex b o e)⟩
theorem Inv.bk (I:Inv X pins σ H s):∀ b o,X.base.get? b=some o->s.heap.get? b=some o:=fun b o e=>(I.bs b o e).1
theorem Inv.mod (I:Inv X pins σ H s):Mod X.K X.mg X.base:=I.ok.mod
theorem Inv.kIn (I:Inv X pins σ H s):X.K.In s.heap:=I.ok.mod.kin.keeps I.bk
theorem Inv.lt (I:Inv X pins σ H s):X.env.locals < s.heap.objs.size:=let ⟨_,hn,_⟩:=I.loc;hn.lt
theorem Inv.sz (I:Inv X pins σ H s):X.s₀.heap.objs.size<=s.heap.objs.size:=Pa I.ok.above (Sy I.lt)
theorem Inv.nofs (I:Inv X pins σ H s){a:Addr}(h:s.heap.objs.size<=a):a ∉ X.fs:=fun hb=>by
 obtain ⟨_,o,ho,_⟩:=I.ok.funs.mem hb
 exact absurd (O5 (Ow ho) (Pa I.sz h)) (Pp _)
theorem Inv.cne (I:Inv X pins σ H s):∀ x c,X.env.cells.lookup x=some c->c≠X.env.locals:=fun x c e z=>by
 obtain ⟨v,o,ho,hd⟩:=I.cell x c e
 obtain ⟨m,⟨o',es,ep,ho',hd',_⟩,_⟩:=I.loc
 rw [z,ho'] at ho;cases ho;rw [hd'] at hd;cases hd
theorem Inv.funs (I:Inv X pins σ H s):s.heap.FunFrames X.base X.outer:=by
 have all:∀(l:List Env),(∀ b∈Cb l,b∈X.fs)->X.s₀.heap.FunFrames X.base l->s.heap.FunFrames X.base l:=by
  intro l
  induction l with
  | nil=>intro _ _;trivial
  | cons env r ih =>
   intro hs hl
   obtain ⟨hk,⟨L,o,hf,hn,ho,hd⟩,hr⟩:=hl
   have hL:L∈X.fs:=hs L (by unfold Cb;rw [Tl,hf];exact Sh)
   obtain ⟨sl,e⟩:=I.base.slot L o ho (I.ok.frf L hL) hL fun z=>I.ok.exfs L z hL
   exact ⟨hk,⟨L,_,hf,hn,e,hd⟩,ih (fun b hb=>hs b (by unfold Cb;rw [Tl,hf];exact Qt _ hb)) hr⟩
 exact all X.outer (fun _ hb=>hb) I.ok.funs
theorem Inv.stack (I:Inv X pins σ H s):s.heap.FunFrames X.base X.stack:=by
 rcases I.ok.stk with e | ⟨e,hf⟩
 ·rw [e];exact I.funs
 ·rw [e]
  obtain ⟨m,hn,_⟩:=I.loc
  refine .cons (by rw [I.ok.kind];decide) hf hn ?_ I.funs
  exact Heap.get?_none_of_le (Pa I.ok.bsz I.ok.above)
theorem Inv.stkSub (I:Inv X pins σ H s):∀ b∈Cb X.stack,b∈X.env.locals::X.fs:=fun b hb=>by
 rcases I.ok.stk with e | ⟨e,hf⟩
 ·rw [e] at hb;exact Qt _ hb
 ·rw [e] at hb
  unfold Cb at hb
  rw [Tl,hf] at hb
  exact hb
theorem Inv.stkFree (I:Inv X pins σ H s):∀ b∈Cb X.stack,H b=none:=fun b hb=>by
 rcases Oy.mp (I.stkSub b hb) with e | hb
 ·rw [e];exact I.free
 ·obtain ⟨_,o,ho,_⟩:=I.ok.funs.mem hb
  exact I.base.free b o ho (I.ok.frf b hb) fun z=>I.ok.exfs b z hb
theorem Inv.step {g':Array GenState}{t':Nat}{d':Drawn}{ch:List Addr}(I:Inv X pins σ H s)
  (hch:∀ b∈ch,(b∈X.ex\/X.s₀.heap.objs.size<=b)/\b≠X.env.locals/\(∀ x c,X.env.cells.lookup x=some c->c≠b)/\∀ p∈X.pn++pins,p.1≠b)
  (keep:∀ b o,b≠X.env.locals->b ∉ X.fs->b ∉ ch->s.heap.get? b=some o->H b=none->h'.get? b=some o)
  (slot:∀ b o,b≠X.env.locals->b∈X.fs->b ∉ ch->s.heap.get? b=some o->H b=none->∃ sl,h'.get? b=some { o with slots:=sl }) (free:∀ b o,b ∉ ch->s.heap.get? b=some o->H b=none->H' b=none)
  (there:∀ b o,b ∉ ch->s.heap.get? b=some o->∃ o',h'.get? b=some o')
  (tups:∀ b xs,H b=some (.tup xs)->H' b=some (.tup xs)) (frzs:∀ b o u,H b=some (.frz o u)->H' b=some (.frz o u)) (tbls:∀ b ps,H b=some (.tbl ps)->∃ more,H' b=some (.tbl (ps++more)))
  (ns:∀ m,s.heap.Ns X.env.locals m->h'.Ns X.env.locals m) (hok:HOk X.prog X.w H' h') (hg:AllBare g') :
  Inv X pins σ H' { s with heap:=h',gens:=g',drawn:=d',toks:=t' }:=by
 have neL:∀ b o,X.s₀.heap.get? b=some o->b≠X.env.locals:=fun b o e=>O1 (O5 (Ow e) I.ok.above)
 have neC:∀ b o,X.s₀.heap.get? b=some o->b ∉ X.ex->b ∉ ch:=fun b o e hx hb=>by
  rcases (hch b hb).1 with z | z
  ·exact hx z
  ·exact absurd (O5 (Ow e) z) (Pp _)
 have cellK:∀ x c,X.env.cells.lookup x=some c->∀ v,s.heap.IsCell c v->h'.IsCell c v:=fun x c e v ⟨o,ho,hd⟩=>by
  have nch:c ∉ ch:=fun z=>(hch c z).2.2.1 x c e rfl
  by_cases hc:c∈X.fs
  ·obtain ⟨sl,q⟩:=slot c o (I.cne x c e) hc nch ho (I.freeC x c e)
   exact ⟨_,q,hd⟩
  ·exact ⟨o,keep c o (I.cne x c e) hc nch ho (I.freeC x c e),hd⟩
 refine ⟨I.ok,I.os,hg,⟨fun b o e n hb hx=>?_,fun b o e n hb hx=>?_,fun b o e n hx=>?_,fun b o e hx=>?_,fun b xs e=>tups b xs (I.base.tups b xs e),fun b o xs e=>frzs b o xs (I.base.frzs b o xs e),fun b ps e=>?_⟩,?_,fun x c e=>?_,?_,fun x c e=>?_,fun p hp=>?_,hok,I.len⟩
 ·exact keep b o (neL b o e) hb (neC b o e hx) (I.base.keep b o e n hb hx) (I.base.free b o e n hx)
 ·obtain ⟨sl,e1⟩:=I.base.slot b o e n hb hx
  obtain ⟨sl',e2⟩:=slot b _ (neL b o e) hb (neC b o e hx) e1 (I.base.free b o e n hx)
  exact ⟨sl',e2⟩
 ·obtain ⟨o',e1⟩:=I.base.there b o e hx
  exact free b o' (neC b o e hx) e1 (I.base.free b o e n hx)
 ·obtain ⟨o',e1⟩:=I.base.there b o e hx
  exact there b o' (neC b o e hx) e1
 ·obtain ⟨m1,e1⟩:=I.base.tbls b ps e
  obtain ⟨m2,e2⟩:=tbls b _ e1
  exact ⟨m1++m2,by rw [e2,Array.append_assoc]⟩
 ·obtain ⟨m,hn,hl⟩:=I.loc
  refine ⟨m,ns m hn,fun i x v e1 e2 e3=>?_⟩
  obtain ⟨u,r,l⟩:=hl i x v e1 e2 e3
  refine ⟨u,r,?_⟩
  rcases l with l | ⟨k,c,e,z⟩
  ·exact .inl l
  ·exact .inr ⟨k,c,e,cellK x c e _ z⟩
 ·obtain ⟨v,z⟩:=I.cell x c e
  exact ⟨v,cellK x c e v z⟩
 ·obtain ⟨m,⟨o,_,_,ho,_⟩,_⟩:=I.loc
  exact free _ o (fun z=>(hch _ z).2.1 rfl) ho I.free
 ·obtain ⟨v,o,ho,hd⟩:=I.cell x c e
  exact free c o (fun z=>(hch c z).2.2.1 x c e rfl) ho (I.freeC x c e)
 ·obtain ⟨e,n,ne,nf,d⟩:=I.pin p hp
  have nch:p.1 ∉ ch:=fun z=>(hch p.1 z).2.2.2 p hp rfl
  exact ⟨keep p.1 p.2 ne nf nch e n,free p.1 p.2 nch e n,ne,nf,d⟩
theorem Inv.un {t':Nat}(I:Inv X pins σ H s)(u:Un X.fs [] H H' s.heap h')(hok:HOk X.prog X.w H' h'):Inv X pins σ H' { s with heap:=h',toks:=t' }:=by
 obtain ⟨m,⟨o,es,ep,ho,r⟩,_⟩:=id I.loc
 obtain ⟨sl,hL⟩:=u.any ho I.free (by simp)
 exact I.step (g':=s.gens) (d':=s.drawn) (ch:=[]) (fun _ z=>nomatch z) (fun b o _ hb _ e n=>u.keep b o e n hb (by simp)) (fun b o _ hb _ e n=>u.slot b o e n hb (by simp)) (fun b o _ e n=>u.free b o e n (by simp)) (fun b o _ e=>u.there b o e (by simp)) u.tups u.frzs u.tbls (fun m' hm=>by
  obtain ⟨o',es',ep',ho',r'⟩:=hm
  rw [ho] at ho';cases ho'
  exact ⟨_,es',ep',hL,r'⟩) hok I.bare
theorem Inv.call {g':Array GenState}{t':Nat}{d':Drawn}{ch:List Addr}(I:Inv X pins σ H s)(u:Un (Cb X.stack) ch H H' s.heap h')(hok:HOk X.prog X.w H' h')(hg:AllBare g')
  (hch:∀ b∈ch,(b∈X.ex\/X.s₀.heap.objs.size<=b)/\b≠X.env.locals/\(∀ x c,X.env.cells.lookup x=some c->c≠b)/\∀ p∈X.pn++pins,p.1≠b) :
  Inv X pins σ H' { s with heap:=h',gens:=g',drawn:=d',toks:=t' }:=by
 obtain ⟨m,⟨o,es,ep,ho,r⟩,_⟩:=id I.loc
 obtain ⟨sl,hL⟩:=u.any ho I.free fun z=>(hch _ z).2.1 rfl
 exact I.step (ch:=ch) hch (fun b o hL hb hc e n=>u.keep b o e n (fun z=>(Oy.mp (I.stkSub b z)).elim hL hb) hc) (fun b o _ _ hc e n=>u.any e n hc) (fun b o hc e n=>u.free b o e n hc) (fun b o hc e=>u.there b o e hc) u.tups u.frzs u.tbls (fun m' hm=>by
  obtain ⟨o',es',ep',ho',r'⟩:=hm
  rw [ho] at ho';cases ho'
  exact ⟨_,es',ep',hL,r'⟩) hok hg
theorem Inv.turned {t':Nat}{it:Addr}(I:Inv X pins σ H s)(k:∀ b o,b≠it->s.heap.get? b=some o->h'.get? b=some o)(hn:H it=none)(hL:it≠X.env.locals)
  (h1:it∈X.ex\/X.s₀.heap.objs.size<=it) (h2:∀ x c,X.env.cells.lookup x=some c->c≠it) (h3:∀ p∈X.pn++pins,p.1≠it):Inv X pins σ H { s with heap:=h',toks:=t' }:=by
 have nit:∀ b u,H b=some u->b≠it:=fun b u e z=>by rw [z,hn] at e;cases e
 refine I.step (g':=s.gens) (d':=s.drawn) (ch:=[it]) (fun b hb=>?_) (fun b o _ _ hc e _=>k b o (fun z=>hc (by simp [z])) e) (fun b o _ _ hc e _=>⟨o.slots,k b o (fun z=>hc (by simp [z])) e⟩) (fun _ _ _ _ n=>n)
  (fun b o hc e=>⟨o,k b o (fun z=>hc (by simp [z])) e⟩) (fun _ _ e=>e) (fun _ _ _ e=>e) (fun b ps e=>⟨#[],by rw [e];simp⟩) (fun m hm=>?_) (fun b u e=>?_) I.bare
 ·have e:b=it:=by simpa using hb
  subst e
  exact ⟨h1,hL,h2,h3⟩
 ·obtain ⟨o,es,ep,ho,r⟩:=hm
  exact ⟨o,es,ep,k _ o (O9 hL) ho,r⟩
 ·refine (I.hok b u e).stay (fun c v hc q=>k c v ?_ q) (fun _ q=>q) fun _ _ q=>q
  rcases hc with z | z
  ·rw [z];exact nit b u e
  ·exact nit c _ z
theorem Inv.tok (I:Inv X pins σ H s)(t:Nat):Inv X pins σ H { s with toks:=t }:=I.un (h':=s.heap) (t':=t) Un.refl I.hok
theorem Inv.kept {t':Nat}(I:Inv X pins σ H s)(k:∀ b u,s.heap.get? b=some u->h'.get? b=some u):Inv X pins σ H { s with heap:=h',toks:=t' }:=I.un (Un.kept k) (I.hok.kept k)
theorem Inv.laid {a:Addr}{o:HO}{t':Nat}(I:Inv X pins σ H s)(k:∀ b u,s.heap.get? b=some u->h'.get? b=some u)(hp:s.heap.objs.size<=a)(new:ObjOk X.prog X.w (upd H a o) h' a o) :
  Inv X pins σ (upd H a o) { s with heap:=h',toks:=t' }:=I.un (Un.laid k hp (I.hok.fresh hp)) (I.hok.laid k hp new)
theorem Inv.write {x e:Addr}{o:HO}{t':Nat}(I:Inv X pins σ H s)(mu:Mut (H x))(he:e=x\/H e=some (.own x))(k:∀ b u,b≠e->s.heap.get? b=some u->h'.get? b=some u)(heo:∃ u,h'.get? e=some u)
  (new:ObjOk X.prog X.w (upd H x o) h' x o):Inv X pins σ (upd H x o) { s with heap:=h',toks:=t' }:=I.un (Un.write mu he k heo) (I.hok.write mu he k heo new)
theorem Inv.pins_of {pins':List (Addr×Obj)}(I:Inv X pins σ H s)(h:∀ p∈pins',s.heap.get? p.1=some p.2/\H p.1=none/\p.1≠X.env.locals/\p.1 ∉ X.fs/\∀ v,p.2.data≠.cell v):Inv X pins' σ H s :=
 ⟨I.ok,I.os,I.bare,I.base,I.loc,I.cell,I.free,I.freeC,fun p hp=>(Pr.mp hp).elim (fun z=>I.pin p (Ti _ z)) (h p),I.hok,I.len⟩
theorem Zaz {N:List Str}(hN:N.Nodup){i j:Nat}{x:Str}(a:N[i]?=some x)(b:N[j]?=some x):i=j:=by
 obtain ⟨h1,e1⟩:=O7.mp a
 obtain ⟨h2,e2⟩:=O7.mp b
 exact (List.getElem_inj hN).mp (e1.trans e2.symm)
theorem Zbl {M:Model}{A:Around}{E:Value->Shared->Prop}{i:Nat}{x:Str}{v:V}{u:Value}{Q:Unit->Shared->Prop}(I:Inv X pins σ H s)(hN:X.N.Nodup)(hi:X.N[i]?=some x)(hx:Dg X.env.scope x)(r:RelV v u)
  (h:∀ s',Inv X pins (σ.set i (some v)) H s'->(∃ a,Pc a s.heap s'.heap/\(a=X.env.locals\/X.env.cells.lookup x=some a))->Q () s') (hf:X.fn x=true\/X.env.scope.names.lookup x=some .local:=by first | exact .inl rfl | exact .inr rfl | assumption):wpAny M A (storeName X.env x u) Q E s:=by
 obtain ⟨m,hn,hl⟩:=id I.loc
 have hcls:(X.env.scope.kind == .class || (X.env.scope.kind == .module && X.env.locals != X.env.globals))=false:=by rw [I.ok.kind];rfl
 have hiσ:i < σ.length:=by rw [I.len];exact (O7.mp hi).1
 have cne:=I.cne
 have tracked:∀{a:Addr}{h':Heap},(∃ o,s.heap.get? a=some o/\H a=none)->Pc a s.heap h'->HOk X.prog X.w H h':=fun {a h'} ha hs b ob e=>by
  obtain ⟨_,_,hfree⟩:=ha
  refine (I.hok b ob e).stay (fun c w' hc q=>(hs.2 c ?_).trans q) (fun _ q=>q) fun _ _ q=>q
  rintro rfl
  rcases hc with rfl | hc
  ·rw [hfree] at e;cases e
  ·rw [hfree] at hc;cases hc
 rcases hx with hk | hk
 ·refine wpAny_storeName_local hk hn (fun h' hn' hs=>?_) hcls
  obtain ⟨oL,_,_,hoL,_⟩:=id hn
  refine h _ ⟨I.ok,I.os,I.bare,⟨fun b o e n hb hx=>?_,fun b o e n hb hx=>?_,I.base.free,fun b o e hx=>?_,I.base.tups,I.base.frzs,I.base.tbls⟩,⟨_,hn',fun j y v' e1 e2 e3=>?_⟩,fun y c e=>?_,I.free,I.freeC,fun p hp=>?_,tracked ⟨oL,hoL,I.free⟩ hs,by simpa using I.len⟩ ⟨_,hs,.inl rfl⟩
  ·exact (hs.2 b (O1 (O5 (Ow e) I.ok.above))).trans (I.base.keep b o e n hb hx)
  ·obtain ⟨sl,e1⟩:=I.base.slot b o e n hb hx
   exact ⟨sl,(hs.2 b (O1 (O5 (Ow e) I.ok.above))).trans e1⟩
  ·obtain ⟨o',e1⟩:=I.base.there b o e hx
   exact ⟨o',(hs.2 b (O1 (O5 (Ow e) I.ok.above))).trans e1⟩
  ·by_cases hj:j=i
   ·subst hj
    rw [hi] at e1;cases e1
    rw [Te hiσ] at e2
    cases e2
    exact ⟨u,r,.inl ⟨hk,by simp⟩⟩
   ·rw [Tj (O9 hj)] at e2
    obtain ⟨u',r',q⟩:=hl j y v' e1 e2 e3
    refine ⟨u',r',?_⟩
    rcases q with ⟨k,e⟩ | ⟨k,c,e,z⟩
    ·refine .inl ⟨k,?_⟩
     have:y≠x:=fun e=>hj (Zaz hN e1 (e ▸ hi))
     simp [this,e]
    ·exact .inr ⟨k,c,e,z.sameBut hs (cne y c e)⟩
  ·obtain ⟨w',z⟩:=I.cell y c e
   exact ⟨w',z.sameBut hs (cne y c e)⟩
  ·obtain ⟨e,n,ne,nf,d⟩:=I.pin p hp
   exact ⟨(hs.2 p.1 ne).trans e,n,ne,nf,d⟩
 ·have hfn:X.fn x=true:=by
   rcases hf with z | z
   ·exact z
   ·rw [z] at hk;cases hk
  obtain ⟨c,hc⟩:=I.ok.has x (.inl hk)
  obtain ⟨w',z⟩:=I.cell x c hc
  refine wpAny_storeName_cell I.ok.kind hk hc z (fun h' hc' hs=>?_)
  obtain ⟨oc,hoc,hocd⟩:=id z
  refine h { s with heap:=h' } ⟨I.ok,I.os,I.bare,⟨fun b o e n hb hx=>?_,fun b o e n hb hx=>?_,I.base.free,fun b o e hx=>?_,I.base.tups,I.base.frzs,I.base.tbls⟩,⟨m,hn.sameBut hs (O9 (cne x c hc)),fun j y v' e1 e2 e3=>?_⟩,fun y c' e=>?_,I.free,I.freeC,fun p hp=>?_,tracked ⟨oc,hoc,I.freeC x c hc⟩ hs,by simpa using I.len⟩ ⟨c,hs,.inr hc⟩
  ·exact (hs.2 b (O1 (O5 (Ow e) (I.ok.cab x c hfn hc)))).trans (I.base.keep b o e n hb hx)
  ·obtain ⟨sl,e1⟩:=I.base.slot b o e n hb hx
   exact ⟨sl,(hs.2 b (O1 (O5 (Ow e) (I.ok.cab x c hfn hc)))).trans e1⟩
  ·obtain ⟨o',e1⟩:=I.base.there b o e hx
   exact ⟨o',(hs.2 b (O1 (O5 (Ow e) (I.ok.cab x c hfn hc)))).trans e1⟩
  ·by_cases hj:j=i
   ·subst hj
    rw [hi] at e1;cases e1
    rw [Te hiσ] at e2
    cases e2
    exact ⟨u,r,.inr ⟨.inl hk,c,hc,hc'⟩⟩
   ·rw [Tj (O9 hj)] at e2
    obtain ⟨u',r',q⟩:=hl j y v' e1 e2 e3
    refine ⟨u',r',?_⟩
    rcases q with q | ⟨k,c',e,z'⟩
    ·exact .inl q
    ·refine .inr ⟨k,c',e,z'.sameBut hs ?_⟩
     rintro rfl
     exact hj (Zaz hN e1 (I.ok.inj _ _ _ e hc ▸ hi))
  ·by_cases hcc:c'=c
   ·subst hcc;exact ⟨_,hc'⟩
   ·obtain ⟨w2,z2⟩:=I.cell y c' e
    exact ⟨w2,z2.sameBut hs hcc⟩
  ·obtain ⟨e,n,ne,nf,d⟩:=I.pin p hp
   refine ⟨(hs.2 p.1 ?_).trans e,n,ne,nf,d⟩
   intro q
   rw [q,hoc] at e
   have q':oc=p.2:=O4 e
   exact d w' (by rw [<- q'];exact hocd)
theorem Hx {M:Model}{A:Around}{E:Value->Shared->Prop}{i:Nat}{x:Str}{v:V}{u:Value}{Q:Unit->Shared->Prop}(I:Inv X pins σ H s)(hN:X.N.Nodup)(hi:X.N[i]?=some x)(hx:Dg X.env.scope x)(r:RelV v u)
  (h:∀ s',Inv X pins (σ.set i (some v)) H s'->Q () s') (hf:X.fn x=true\/X.env.scope.names.lookup x=some .local:=by first | exact .inl rfl | exact .inr rfl | assumption):wpAny M A (storeName X.env x u) Q E s :=
 Zbl I hN hi hx r (fun s' I' _=>h s' I') hf
theorem Inv.call' {s':Shared}{ch:List Addr}(I:Inv X pins σ H s)(ho:s'.os=s.os)(u:Un (Cb X.stack) ch H H' s.heap s'.heap)(hok:HOk X.prog X.w H' s'.heap)(hg:AllBare s'.gens)
  (hch:∀ b∈ch,(b∈X.ex\/X.s₀.heap.objs.size<=b)/\b≠X.env.locals/\(∀ x c,X.env.cells.lookup x=some c->c≠b)/\∀ p∈X.pn++pins,p.1≠b):Inv X pins σ H' s':=by
 obtain ⟨h',g',d',t',o'⟩:=s'
 have e:o'=s.os:=ho
 subst e
 exact I.call (g':=g') (t':=t') (d':=d') u hok hg hch
end
noncomputable abbrev XK:=Value->Option Addr->Hp->Prop
noncomputable abbrev St:=List (Option V)
noncomputable abbrev VK:=V->Hp->Prop
noncomputable abbrev TE:=St->Hp->VK->Prop
noncomputable abbrev TT:=St->Hp->(Bool->Hp->Prop)->Prop
noncomputable abbrev TA:=St->Hp->(List V->Hp->Prop)->Prop
structure Cj where
 nx:St->Hp->Prop
 rt:VK
 bk:St->Hp->Prop:=fun _ _=>False
 ct:St->Hp->Prop:=fun _ _=>False
noncomputable abbrev TS:=Cj->St->Hp->Prop
noncomputable def EP (X:Cx)(pins:List (Addr×Obj))(σ:St)(Q:VK)(u:Value)(s':Shared):Prop:=∃ v H',Inv X pins σ H' s'/\RelV v u/\Q v H'
noncomputable def TP (X:Cx)(pins:List (Addr×Obj))(σ:St)(Q:Bool->Hp->Prop)(b:Bool)(s':Shared):Prop:=∃ H',Inv X pins σ H' s'/\Q b H'
noncomputable def AP (X:Cx)(pins:List (Addr×Obj))(σ:St)(Q:List V->Hp->Prop)(us:List Value)(s':Shared):Prop:=∃ vs H',Inv X pins σ H' s'/\Vals vs us/\Q vs H'
noncomputable def SP (X:Cx)(pins:List (Addr×Obj))(D:Cj)(f:Flow)(s':Shared):Prop :=
 match f with
 | .next=>∃ σ' H',Inv X pins σ' H' s'/\D.nx σ' H'
 | .brk=>∃ σ' H',Inv X pins σ' H' s'/\D.bk σ' H'
 | .cont=>∃ σ' H',Inv X pins σ' H' s'/\D.ct σ' H'
 | .ret u=>∃ v σ' H',Inv X pins σ' H' s'/\RelV v u/\D.rt v H'
noncomputable def PE (X:Cx)(e:Expr)(t:TE):Prop :=
 ∀(pins:List (Addr×Obj))(s:Shared)(σ:St)(H:Hp)(Q:VK),Inv X pins σ H s->t σ H Q->wpAny (model X.prog X.w) X.A (eval e X.env) (EP X pins σ Q) X.xe s
noncomputable def PT (X:Cx)(e:Expr)(t:TT):Prop :=
 ∀(pins:List (Addr×Obj))(s:Shared)(σ:St)(H:Hp)(Q:Bool->Hp->Prop),Inv X pins σ H s->t σ H Q->wpAny (model X.prog X.w) X.A (isTrue e X.env (eval e X.env)) (TP X pins σ Q) X.xe s
noncomputable def PW (X:Cx)(e:Expr)(t:TT):Prop :=
 ∀(whole:Sem Value)(pins:List (Addr×Obj))(s:Shared)(σ:St)(H:Hp)(Q:Bool->Hp->Prop),Inv X pins σ H s->t σ H Q->wpAny (model X.prog X.w) X.A (isTrue e X.env whole) (TP X pins σ Q) X.xe s
theorem PW.pt {X:Cx}{e:Expr}{t:TT}(h:PW X e t):PT X e t:=h _
noncomputable def PA (X:Cx)(es:List Expr)(t:TA):Prop :=
 ∀(pos:Pos)(pins:List (Addr×Obj))(s:Shared)(σ:St)(H:Hp)(Q:List V->Hp->Prop),Inv X pins σ H s->t σ H Q->wpAny (model X.prog X.w) X.A (spliced (backTo pos (starEach es X.env))) (AP X pins σ Q) X.xe s
noncomputable def PS (X:Cx)(st:Stmt)(t:TS):Prop :=
 ∀(pins:List (Addr×Obj))(s:Shared)(σ:St)(H:Hp)(D:Cj),Inv X pins σ H s->t D σ H->wpAny (model X.prog X.w) X.A (exec st X.env) (SP X pins D) X.xe s
noncomputable def PSs (X:Cx)(st:List Stmt)(t:TS):Prop :=
 ∀(pins:List (Addr×Obj))(s:Shared)(σ:St)(H:Hp)(D:Cj),Inv X pins σ H s->t D σ H->wpAny (model X.prog X.w) X.A (execs st X.env) (SP X pins D) X.xe s
theorem Ae {α:Type}{t:Sem α}{Q Q':α->Shared->Prop}{M:Model}{A:Around}{E:Value->Shared->Prop}{s:Shared}(h:wpAny M A t Q E s)(hQ:∀ a s,Q a s->Q' a s):wpAny M A t Q' E s:=Q7 h hQ fun _ _ x=>x
section
variable {X:Cx}
noncomputable def Lx (i:Nat):TE:=fun σ H Q=>∃ v,σ[i]?=some (some v)/\Q v H
noncomputable def tC (v:V):TE:=fun _ H Q=>Q v H
theorem Zdg {i:Nat}{x:Str}{pos:Pos}(hN:X.N[i]?=some x)(hv:Vis X.env.scope x)(hd:(x == ("__debug__" : Str))=false:=by decide)(hcd:(x == ("__classdict__" : Str))=false:=by decide):PE X (.Name x pos) (Lx i):=by
 intro pins s σ H Q I h
 obtain ⟨v,e,h⟩:=h
 obtain ⟨m,hn,hl⟩:=I.loc
 obtain ⟨u,r,l⟩:=hl i x v hN e hv
 have fin:EP X pins σ Q u s:=⟨v,H,I,r,h⟩
 rcases l with ⟨hk,hm⟩ | ⟨hk,c,hc,hcell⟩
 ·exact wpAny_Name (wpAny_loadName_local I.ok.kind hk hn hm fin) hd
 ·rcases hk with hk | hk
  ·exact wpAny_Name (wpAny_loadName_cell I.ok.kind hk hc hcell fin) hd
  ·exact wpAny_Name (wpAny_loadName_free I.ok.kind hk hc hcell fin hcd) hd
theorem Zaq {i j pos}:PE X (.Constant (.int i) j pos) (tC (.int i)):=fun _ _ _ H _ I h=>wpAny_Constant_int ⟨.int i,H,I.tok _,⟨_,rfl⟩,h⟩
theorem N0 {b j pos}:PE X (.Constant (.bool b) j pos) (tC (.bl b)):=fun _ _ _ H _ I h=>Constant_bool ⟨.bl b,H,I,rfl,h⟩
theorem Zbi {j pos}:PE X (.Constant .none j pos) (tC .non):=fun _ _ _ H _ I h=>Constant_none ⟨.non,H,I,rfl,h⟩
theorem Zab {x j pos}:PE X (.Constant (.str x) j pos) (tC (.str x)):=fun _ _ _ H _ I h=>Calls.Constant_str ⟨.str x,H,I.tok _,⟨_,rfl⟩,h⟩
noncomputable def Gl (X:Cx)(x:Str):Prop:=X.env.kindOf x=some .globalImplicit
theorem Ny {E:Value->Shared->Prop}{pins:List (Addr×Obj)}{s:Shared}{σ:St}{H:Hp}{x:Str}{u:Value}{pos:Pos}{Q:Value->Shared->Prop}(I:Inv X pins σ H s)(hg:Gl X x)(hm:X.mg x=some u)(h:Q u s)
  (hd:(x == ("__debug__" : Str))=false:=by decide):wpAny (model X.prog X.w) X.A (eval (.Name x pos) X.env) Q E s :=
 Calls.Name_function_global I.ok.kind hg (Calls.loadGlobal_global (by rw [I.ok.glob];exact I.mod.glob.keeps I.bk) hm h) hd
theorem C4 {E:Value->Shared->Prop}{pins:List (Addr×Obj)}{s:Shared}{σ:St}{H:Hp}{x:Str}{u:Value}{pos:Pos}{Q:Value->Shared->Prop}(I:Inv X pins σ H s)(hg:Gl X x)(hm:X.mg x=none)(hv:bootBuiltins x=some u)(h:Q u s)
  (hn:x ≠ "__name__" := by decide) (hd:(x == ("__debug__" : Str))=false:=by decide):wpAny (model X.prog X.w) X.A (eval (.Name x pos) X.env) Q E s:=by
 obtain ⟨mb,h1,h2⟩:=I.mod.blt
 exact Calls.Name_function_global I.ok.kind hg (Calls.loadGlobal_builtin (by rw [I.ok.glob];exact I.mod.glob.keeps I.bk) hm (by rw [I.ok.blt];exact h1.keeps I.bk) ((h2 x hn).trans hv) h) hd
theorem Ziy {x:Str}{v:V}{u:Value}{pos:Pos}(hg:Gl X x)(hm:X.mg x=some u)(r:RelV v u)(hd:(x == ("__debug__" : Str))=false:=by decide):PE X (.Name x pos) (tC v) :=
 fun _ _ _ H _ I h=>Ny I hg hm ⟨v,H,I,r,h⟩ hd
theorem Zgx {x:Str}{v:V}{u:Value}{pos:Pos}(hg:Gl X x)(hm:X.mg x=none)(hv:bootBuiltins x=some u)(r:RelV v u)(hn:x ≠ "__name__" := by decide)(hd:(x == ("__debug__" : Str))=false:=by decide):PE X (.Name x pos) (tC v) :=
 fun _ _ _ H _ I h=>C4 I hg hm hv ⟨v,H,I,r,h⟩ hn hd
variable {a b:Expr}{ta tb:TE}{pos:Pos}
noncomputable def PC (X:Cx)(op:CmpOp)(a b:Expr)(t:TE):Prop :=
 ∀(pins:List (Addr×Obj))(s:Shared)(σ:St)(H:Hp)(Q:VK),Inv X pins σ H s->t σ H Q ->
  wpAny (model X.prog X.w) X.A (eval a X.env) (fun v s₁=>wpAny (model X.prog X.w) X.A (eval b X.env) (fun u s₂=>wpAny (model X.prog X.w) X.A (compareOp op v u) (EP X pins σ Q) X.xe s₂) X.xe s₁) X.xe s
theorem Ig (b:Expr){op:CmpOp}(h:op≠.In)(h2:op≠.NotIn):behindInMarks op b=false:=by
 have e1:(op == CmpOp.In)=false:=by cases op <;> first | rfl | exact absurd rfl h
 have e2:(op == CmpOp.NotIn)=false:=by cases op <;> first | rfl | exact absurd rfl h2
 cases b <;> simp [behindInMarks,e1,e2]
noncomputable def Ja (ta:TE):TE:=fun σ H Q=>ta σ H fun x H1=>Q (.bl (decide (x=.non))) H1
noncomputable def Kf (ta:TE):TE:=fun σ H Q=>ta σ H fun x H1=>Q (.bl (!decide (x=.non))) H1
theorem RelV.none_iff {x:V}{v:Value}(r:RelV x v):(v == Value.none)=decide (x=.non):=by
 cases x with
 | non=>cases r;rfl
 | bl _=>cases r;rfl
 | int _=>obtain ⟨t,rfl⟩:=r;rfl
 | str _=>obtain ⟨t,rfl⟩:=r;rfl
 | byt _=>obtain ⟨t,rfl⟩:=r;rfl
 | flt _=>obtain ⟨t,rfl⟩:=r;rfl
 | ref _=>cases r;rfl
 | ty _=>cases r;rfl
theorem Zh0 {j pos'}(ha:PE X a ta):PC X .Is a (.Constant .none j pos') (Ja ta):=by
 intro pins s σ H Q I h
 refine Ae (ha pins s σ H _ I h) fun v s1 zq=>?_
 obtain ⟨x,H1,I1,r1,q1⟩:=zq
 exact Constant_none (is_none_gen ⟨.bl _,H1,I1,by rw [r1.none_iff];rfl,q1⟩)
theorem Zfv {j pos'}(ha:PE X a ta):PC X .IsNot a (.Constant .none j pos') (Kf ta):=by
 intro pins s σ H Q I h
 refine Ae (ha pins s σ H _ I h) fun v s1 zq=>?_
 obtain ⟨x,H1,I1,r1,q1⟩:=zq
 exact Constant_none (isnot_none_gen ⟨.bl _,H1,I1,by rw [r1.none_iff];rfl,q1⟩)
noncomputable def tB (t:TE):TT:=fun σ H Q=>t σ H fun x H1=>∃ c,x=.bl c/\Q c H1
theorem Zen {op:CmpOp}{t:TE}(h:PC X op a b t)(h1:behindInMarks op b=false:=by first | exact Ig _ (by decide) (by decide) | rfl):PE X (.Compare a [op] [b] pos) t:=fun pins s σ H Q I hw=>wpAny_Compare1 (h pins s σ H Q I hw) h1
theorem Zi5 {op:CmpOp}{t:TE}(h:PC X op a b t)(h1:behindInMarks op b=false:=by first | exact Ig _ (by decide) (by decide) | rfl):PT X (.Compare a [op] [b] pos) (tB t):=by
 intro pins s σ H Q I hw
 refine wpAny_isTrue_Compare1 (Ae (h pins s σ H _ I hw) fun v s1 h1=>Ae h1 fun u s2 h2=>Ae h2 fun c s3 zq=>?_) h1
 obtain ⟨x,H1,I1,r1,q1⟩:=zq
 obtain ⟨d,rfl,q⟩:=q1
 cases r1
 exact Qx ⟨H1,I1,q⟩
theorem Zi9 {e:Expr}{t:TE}(h:PE X e t)(he:∀ whole,isTrue e X.env whole=(do let v <- whole;standAt e.pos;holding [v] (truthy v)):=by intro _;rfl):PT X e (tB t):=by
 intro pins s σ H Q I hw
 refine isTrue_plain (Ae (h pins s σ H _ I hw) fun v s1 zq=>?_) (he _)
 obtain ⟨x,H1,I1,r1,q1⟩:=zq
 obtain ⟨d,rfl,q⟩:=q1
 cases r1
 exact Qx ⟨H1,I1,q⟩
variable {tA tB':TT}{rest:List Expr}
noncomputable def Jw (t u:TT):TT:=fun σ H Q=>t σ H fun c H1=>if c=true then u σ H1 Q else Q false H1
noncomputable def tOr (t u:TT):TT:=fun σ H Q=>t σ H fun c H1=>if c=true then Q true H1 else u σ H1 Q
noncomputable def Jv (t:TT):TT:=fun σ H Q=>t σ H fun c H1=>Q (!c) H1
theorem pw_and1 (ha:PT X a tA):PW X (.BoolOp .And [a] pos) tA:=by
 intro wh pins s σ H Q I h
 refine isTrue_and (Ae (ha pins s σ H Q I h) fun c s1 e=>?_)
 cases c with
 | true=>exact isTrue_and_nil e
 | false=>exact e
theorem pw_or1 (ha:PT X a tA):PW X (.BoolOp .Or [a] pos) tA:=by
 intro wh pins s σ H Q I h
 refine isTrue_or (Ae (ha pins s σ H Q I h) fun c s1 e=>?_)
 cases c with
 | false=>exact isTrue_or_nil e
 | true=>exact e
theorem pw_and (ha:PT X a tA)(hb:PW X (.BoolOp .And (b::rest) pos) tB'):PW X (.BoolOp .And (a::b::rest) pos) (Jw tA tB'):=by
 intro wh pins s σ H Q I h
 refine isTrue_and (Ae (ha pins s σ H _ I h) fun c s1 zq=>?_)
 obtain ⟨H1,I1,q1⟩:=zq
 cases c with
 | true=>exact hb wh pins s1 σ H1 Q I1 q1
 | false=>exact ⟨H1,I1,q1⟩
theorem pw_or (ha:PT X a tA)(hb:PW X (.BoolOp .Or (b::rest) pos) tB'):PW X (.BoolOp .Or (a::b::rest) pos) (tOr tA tB'):=by
 intro wh pins s σ H Q I h
 refine isTrue_or (Ae (ha pins s σ H _ I h) fun c s1 zq=>?_)
 obtain ⟨H1,I1,q1⟩:=zq
 cases c with
 | true=>exact ⟨H1,I1,q1⟩
 | false=>exact hb wh pins s1 σ H1 Q I1 q1
theorem Zcs (ha:PT X a tA):PT X (.UnaryOp .Not a pos) (Jv tA):=by
 intro pins s σ H Q I h
 exact isTrue_not (ha pins s σ H (fun c H1=>Q (!c) H1) I h)
noncomputable def Jz (ta tb:TE):TE:=fun σ H Q=>ta σ H fun x H1=>∃ c,x=.bl c/\if c=true then tb σ H1 Q else Q (.bl false) H1
noncomputable def Ke (ta:TE):TE:=fun σ H Q=>ta σ H fun x H1=>∃ c,x=.bl c/\Q (.bl (!c)) H1
theorem Zf7 {op}{t:TE}(h:PE X a t):PE X (.BoolOp op [a] pos) t:=fun pins s σ H Q I hw=>BoolOp_one (h pins s σ H Q I hw)
theorem Zde (ha:PE X a ta)(hb:PE X (.BoolOp .And (b::rest) pos) tb):PE X (.BoolOp .And (a::b::rest) pos) (Jz ta tb):=by
 intro pins s σ H Q I h
 refine BoolOp_and (Ae (ha pins s σ H _ I h) fun v s1 zq=>?_)
 obtain ⟨x,H1,I1,r1,q1⟩:=zq
 obtain ⟨c,rfl,q1⟩:=q1
 cases r1
 refine Qx ?_
 cases c with
 | true=>exact hb pins s1 σ H1 Q I1 q1
 | false=>exact ⟨.bl false,H1,I1,rfl,q1⟩
theorem Zgg (ha:PE X a ta):PE X (.UnaryOp .Not a pos) (Ke ta):=by
 intro pins s σ H Q I h
 refine UnaryOp_ (Ae (ha pins s σ H _ I h) fun v s1 zq=>?_)
 obtain ⟨x,H1,I1,r1,q1⟩:=zq
 obtain ⟨c,rfl,q1⟩:=q1
 cases r1
 exact not_of (Qx ⟨.bl (!c),H1,I1,rfl,q1⟩)
noncomputable def tIf (t:TT)(ta tb:TE):TE:=fun σ H Q=>t σ H fun c H1=>if c=true then ta σ H1 Q else tb σ H1 Q
theorem Zeh {c:Expr}(hc:PT X c tA)(ha:PE X a ta)(hb:PE X b tb):PE X (.IfExp c a b pos) (tIf tA ta tb):=by
 intro pins s σ H Q I h
 refine wpAny_IfExp (Ae (hc pins s σ H _ I h) fun d s1 zq=>?_)
 obtain ⟨H1,I1,q1⟩:=zq
 cases d with
 | true=>exact ha pins s1 σ H1 Q I1 q1
 | false=>exact hb pins s1 σ H1 Q I1 q1
end
noncomputable def SqL (K:Oo)(H:Hp)(a:Addr)(xs:List V):Prop :=
 Rd H a (.lst xs) \/
  ∃(o:Obj)(its:Array Value)(n:Nat),K.lookup a=some o/\o.cls=.type "list" /\ o.dict=none/\o.data=.seq its n/\its.size<=sizeLine/\Vals xs its.toList
noncomputable def SqT (K:Oo)(H:Hp)(a:Addr)(xs:List V):Prop :=
 Rd H a (.tup xs) \/
  ∃(o:Obj)(its:Array Value)(n:Nat),K.lookup a=some o/\o.cls=.type "tuple" /\ o.data=.seq its n/\its.size<=sizeLine/\Vals xs its.toList
noncomputable def He:Value->Option V
 | .none=>some .non
 | .bool b=>some (.bl b)
 | .int i _=>some (.int i)
 | .str x _=>some (.str x)
 | .bytes b _=>some (.byt b)
 | .float b _=>some (.flt b)
 | .ref a=>some (.ref a)
 | .type n=>some (.ty n)
 | _=>none
theorem RelV.abs {x:V}{u:Value}(r:RelV x u):He u=some x:=by
 cases x with
 | non=>cases r;rfl
 | bl _=>cases r;rfl
 | int _=>obtain ⟨t,rfl⟩:=r;rfl
 | str _=>obtain ⟨t,rfl⟩:=r;rfl
 | byt _=>obtain ⟨t,rfl⟩:=r;rfl
 | flt _=>obtain ⟨t,rfl⟩:=r;rfl
 | ref _=>cases r;rfl
 | ty _=>cases r;rfl
theorem RelV.inj {x y:V}{u:Value}(r:RelV x u)(q:RelV y u):x=y:=O4 (r.abs.symm.trans q.abs)
theorem Vals.inj:∀{xs ys:List V}{us:List Value},Vals xs us->Vals ys us->xs=ys
 | _,_,_,.nil,.nil=>rfl
 | _,_,_,.cons r t,.cons r' t'=>by rw [r.inj r',Vals.inj t t']
section
variable {X:Cx}{pins:List (Addr×Obj)}{σ:St}{H:Hp}{s:Shared}{a:Addr}{xs ys:List V}
theorem SqL.of {K:Oo}(h:H a=some (.lst xs)):SqL K H a xs:=.inl (.inl h)
theorem SqT.of {K:Oo}(h:H a=some (.tup xs)):SqT K H a xs:=.inl (.inl h)
theorem Inv.list (I:Inv X pins σ H s)(h:SqL X.K H a xs):∃ its:List Value,Vals xs its/\PlainL s.heap a its.toArray/\xs.length<=sizeLine:=by
 rcases h with h | ⟨o,its,n,hk,hc,hd,hs,hz,r⟩
 ·obtain ⟨z,its,n,r,e⟩:=h.ok I.hok
  exact ⟨its,r,⟨_,n,e,rfl,rfl,rfl⟩,z⟩
 ·refine ⟨its.toList,r,⟨o,n,I.kIn a o hk,hc,hd,by simpa using hs⟩,?_⟩
  have e:=r.length
  simp only [Re] at e
  omega
theorem Inv.tuple (I:Inv X pins σ H s)(h:SqT X.K H a xs):∃ its:List Value,Vals xs its/\IsTup s.heap a its.toArray/\xs.length<=sizeLine:=by
 rcases h with h | ⟨o,its,n,hk,hc,hs,hz,r⟩
 ·obtain ⟨z,its,r,p⟩:=h.ok I.hok
  exact ⟨its,r,p,z⟩
 ·refine ⟨its.toList,r,⟨o,I.kIn a o hk,hc,n,by simpa using hs⟩,?_⟩
  have e:=r.length
  simp only [Re] at e
  omega
theorem Inv.list_inj (I:Inv X pins σ H s)(h:SqL X.K H a xs)(h':SqL X.K H a ys):xs=ys:=by
 obtain ⟨its,r,⟨o,n,e,_,_,d⟩,_⟩:=I.list h
 obtain ⟨its',r',⟨o',n',e',_,_,d'⟩,_⟩:=I.list h'
 rw [e] at e';cases e'
 rw [d] at d'
 injection d' with d1 _
 have:its=its':=by simpa using congrArg Array.toList d1
 subst this
 exact r.inj r'
theorem Inv.tuple_inj (I:Inv X pins σ H s)(h:SqT X.K H a xs)(h':SqT X.K H a ys):xs=ys:=by
 obtain ⟨its,r,⟨o,e,_,n,d⟩,_⟩:=I.tuple h
 obtain ⟨its',r',⟨o',e',_,n',d'⟩,_⟩:=I.tuple h'
 rw [e] at e';cases e'
 rw [d] at d'
 injection d' with d1 _
 have:its=its':=by simpa using congrArg Array.toList d1
 subst this
 exact r.inj r'
end
noncomputable abbrev Cx.wish (X:Cx)(E:Value->Shared->Prop):Cx:={ X with xe:=E }
noncomputable abbrev Cx.nox (X:Cx):Cx:=X.wish fun _ _=>False
theorem Cx.Ok.wish {X:Cx}(ok:X.Ok)(E:Value->Shared->Prop):(X.wish E).Ok :=
 ⟨ok.mod,ok.kind,ok.glob,ok.blt,ok.above,ok.inj,ok.has,ok.cab,ok.hd,ok.frames,ok.stk,ok.exf,ok.bs,ok.bsz,ok.noex,ok.exfs,ok.funs,ok.frf⟩
theorem Cx.Ok.unwish {X:Cx}{E:Value->Shared->Prop}(ok:(X.wish E).Ok):X.Ok :=
 ⟨ok.mod,ok.kind,ok.glob,ok.blt,ok.above,ok.inj,ok.has,ok.cab,ok.hd,ok.frames,ok.stk,ok.exf,ok.bs,ok.bsz,ok.noex,ok.exfs,ok.funs,ok.frf⟩
section
variable {X:Cx}{pins:List (Addr×Obj)}{σ:St}{H:Hp}{s:Shared}{E:Value->Shared->Prop}
theorem Inv.wish (I:Inv X pins σ H s)(E:Value->Shared->Prop):Inv (X.wish E) pins σ H s:=⟨I.ok.wish E,I.os,I.bare,I.base,I.loc,I.cell,I.free,I.freeC,I.pin,I.hok,I.len⟩
theorem Inv.unwish (I:Inv (X.wish E) pins σ H s):Inv X pins σ H s:=⟨I.ok.unwish,I.os,I.bare,I.base,I.loc,I.cell,I.free,I.freeC,I.pin,I.hok,I.len⟩
theorem SP.unwish {D:Cj}{f:Flow}{s':Shared}(h:SP (X.wish E) pins D f s'):SP X pins D f s':=by
 cases f with
 | next=>obtain ⟨σ',H',I,q⟩:=h;exact ⟨σ',H',I.unwish,q⟩
 | brk=>obtain ⟨σ',H',I,q⟩:=h;exact ⟨σ',H',I.unwish,q⟩
 | cont=>obtain ⟨σ',H',I,q⟩:=h;exact ⟨σ',H',I.unwish,q⟩
 | ret u=>obtain ⟨v,σ',H',I,r,q⟩:=h;exact ⟨v,σ',H',I.unwish,r,q⟩
theorem PSs.nox {st:List Stmt}{t:TS}(h:PSs X.nox st t):PSs X st t:=fun pins s σ H D I hw =>
 Q7 (h pins s σ H D (I.wish _) hw) (fun _ _ q=>q.unwish) fun _ _ z=>Pu z
end
section
variable {X:Cx}{st:Stmt}{rest:List Stmt}{t u:TS}{e:Expr}{te:TE}{pos:Pos}
noncomputable def Jh:TS:=fun D σ H=>D.nx σ H
noncomputable def Jy (t u:TS):TS:=fun D σ H=>t { D with nx:=u D } σ H
theorem Zhr:PSs X [] Jh:=fun _ _ σ H _ I h=>So ⟨σ,H,I,h⟩
theorem Zgm (h1:PS X st t)(h2:PSs X rest u):PSs X (st::rest) (Jy t u):=by
 intro pins s σ H D I h
 refine wpAny_execs_cons (Ae (h1 pins s σ H { D with nx:=u D } I h) fun f s1 q=>?_)
 cases f with
 | next =>
  obtain ⟨σ',H',I',q⟩:=q
  exact h2 pins s1 σ' H' D I' q
 | ret v=>exact q
 | brk=>exact q
 | cont=>exact q
theorem Zgv (h1:PS X st t):PSs X [st] t:=by
 intro pins s σ H D I h
 refine wpAny_execs_cons (Ae (h1 pins s σ H D I h) fun f s1 q=>?_)
 cases f with
 | next=>exact So q
 | ret v=>exact q
 | brk=>exact q
 | cont=>exact q
noncomputable def Zat:TS:=fun D σ H=>D.ct σ H
theorem Zcw:PS X (.Continue pos) Zat:=fun _ _ σ H _ I h=>wpAny_Continue ⟨σ,H,I,h⟩
theorem Inv.quiet {pins:List (Addr×Obj)}{σ:St}{H:Hp}{s:Shared}(I:Inv X pins σ H s):interactive X.env=false:=by simp [interactive,I.ok.kind]
noncomputable def Km (te:TE):TS:=fun D σ H=>te σ H fun _ H1=>D.nx σ H1
theorem Zhc (he:PE X e te)(hs:swapsWith e none pos.line X.env=pure false:=by rfl):PS X (.Expr e pos) (Km te):=by
 intro pins s σ H D I h
 exact wpAny_Expr_any (Ae (he pins s σ H _ I h) fun v s1 ⟨x,H1,I1,r1,q1⟩=>⟨σ,H1,I1,q1⟩) I.quiet hs
noncomputable def Lf (te:TE):TS:=fun D σ H=>te σ H D.rt
theorem Zhf (he:PE X e te):PS X (.Return (some e) pos) (Lf te):=by
 intro pins s σ H D I h
 exact wpAny_Return_some (Ae (he pins s σ H _ I h) fun v s1 ⟨x,H1,I1,r1,q1⟩=>⟨x,σ,H1,I1,r1,q1⟩)
noncomputable def K1 (c:TT)(t u:TS):TS:=fun D σ H=>c σ H fun b H1=>if b=true then t D σ H1 else u D σ H1
theorem Zea {c:Expr}{a b:List Stmt}{tc:TT}(hc:PT X c tc)(ha:PSs X a t)(hb:PSs X b u):PS X (.If c a b pos) (K1 tc t u):=by
 intro pins s σ H D I h
 refine wpAny_If (Ae (hc pins s σ H _ I h) fun d s1 zq=>?_)
 obtain ⟨H1,I1,q1⟩:=zq
 cases d with
 | true=>exact ha pins s1 σ H1 D I1 q1
 | false=>exact hb pins s1 σ H1 D I1 q1
end
noncomputable abbrev TG:=V->St->Hp->(St->Hp->Prop)->Prop
noncomputable abbrev Co:=List V->St->Hp->(St->Hp->Prop)->Prop
noncomputable def PG (X:Cx)(target:Expr)(t:TG):Prop :=
 ∀(pins:List (Addr×Obj))(s:Shared)(σ:St)(H:Hp)(v:V)(u:Value)(Q:St->Hp->Prop),Inv X pins σ H s->RelV v u->t v σ H Q ->
  wpAny (model X.prog X.w) X.A (assign target X.env u) (fun _ s'=>∃ σ' H',Inv X pins σ' H' s'/\Q σ' H') X.xe s
noncomputable def PGs (X:Cx)(ts:List Expr)(t:Co):Prop :=
 ∀(pins:List (Addr×Obj))(s:Shared)(σ:St)(H:Hp)(vs:List V)(us:List Value)(Q:St->Hp->Prop),Inv X pins σ H s->Vals vs us->t vs σ H Q ->
  wpAny (model X.prog X.w) X.A (assignInOrder ((assignEach ts X.env).map (·.2)) us) (fun _ s'=>∃ σ' H',Inv X pins σ' H' s'/\Q σ' H') X.xe s
noncomputable abbrev Gx:=V->V->V->Hp->(Hp->Prop)->Prop
noncomputable def Ko (X:Cx)(t:Gx):Prop :=
 ∀(pins:List (Addr×Obj))(s:Shared)(σ:St)(H:Hp)(o i v:V)(ov iv u:Value)(Q:Hp->Prop),Inv X pins σ H s->RelV o ov->RelV i iv->RelV v u->t o i v H Q ->
  wpAny (model X.prog X.w) X.A (setItem ov iv u) (fun _ s'=>∃ H',Inv X pins σ H' s'/\Q H') X.xe s
section
variable {X:Cx}{pos:Pos}
noncomputable def D8 (i:Nat):TG:=fun v σ H Q=>Q (σ.set i (some v)) H
theorem Zbt {i:Nat}{x:Str}(hN:X.N.Nodup)(hi:X.N[i]?=some x)(hx:Dg X.env.scope x)(hf:X.fn x=true\/X.env.scope.names.lookup x=some .local:=by first | exact .inl rfl | exact .inr rfl | assumption):PG X (.Name x pos) (D8 i):=by
 intro pins s σ H v u Q I r h
 exact wpAny_assign_Name (Hx I hN hi hx r (fun s' I'=>⟨_,H,I',h⟩) hf)
noncomputable def Kz:Co:=fun vs σ H Q=>vs=[]/\Q σ H
noncomputable def Iq (t:TG)(u:Co):Co:=fun vs σ H Q=>∃ v r,vs=v::r/\t v σ H fun σ' H'=>u r σ' H' Q
theorem Zg8:PGs X [] Kz:=by
 intro pins s σ H vs us Q I r h
 obtain ⟨e,h⟩:=h
 subst e
 cases r
 exact assignInOrder_nil ⟨σ,H,I,h⟩
theorem Zfc {e:Expr}{es:List Expr}{t:TG}{u:Co}(h1:PG X e t)(h2:PGs X es u)
  (hs:(assignEach (e::es) X.env).map (·.2)=assign e X.env::(assignEach es X.env).map (·.2):=by rfl):PGs X (e::es) (Iq t u):=by
 intro pins s σ H vs us Q I r h
 obtain ⟨v,vr,e1,h⟩:=h
 subst e1
 cases r with
 | cons r rr =>
  rw [hs]
  refine Tp (Ae (h1 pins s σ H _ _ _ I r h) fun _ s1 zq=>?_)
  obtain ⟨σ1,H1,I1,q1⟩:=zq
  exact h2 pins s1 σ1 H1 _ _ Q I1 rr q1
noncomputable def Im (K:Oo)(n:Nat)(t:Co):TG:=fun v σ H Q=>∃ a xs,v=.ref a/\SqT K H a xs/\xs.length=n/\t xs σ H Q
theorem Zi7 {es:List Expr}{k:Nat}{t:Co}{n:Nat}(hc:X.calm=true)(h:PGs X es t)
  (hn:(assignEach es X.env).length=n:=by rfl) (hst:(assignEach es X.env).findIdx? (·.1)=none:=by rfl):PG X (.Tuple es k pos) (Im X.K n t):=by
 intro pins s σ H v u Q I r hw
 obtain ⟨a,xs,e1,hq,hl,hw⟩:=hw
 subst e1
 cases r
 obtain ⟨its,rv,ht,hz⟩:=I.tuple hq
 refine assign_Tuple_tuple (I.ok.hd hc) ht (by simp [hn,<- hl,rv.length]) hst fun h' hx=>?_
 have I1:Inv X pins σ H { s with heap:=h' }:=I.kept (t':=s.toks) fun b o e=>hx b o (O1 (Ow e)) e
 exact h pins _ σ H xs _ Q I1 (by simpa using rv) hw
noncomputable def Lc (to ti:TE)(t:Gx):TG:=fun v σ H Q=>to σ H fun o H1=>ti σ H1 fun i H2=>t o i v H2 fun H3=>Q σ H3
theorem Zf2 {o i:Expr}{to ti:TE}{t:Gx}(ho:PE X o to)(hi:PE X i ti)(hs:Ko X t)
  (ha:∀ v,assign (.Subscript o i pos) X.env v=(do
   let ov <- holding [v] (eval o X.env)
   let iv <- holding [v,ov] (eval i X.env)
   standAt pos
   holding [v,ov,iv] (setItem ov iv v)
   release [v,ov,iv] []):=by intro _;rfl):PG X (.Subscript o i pos) (Lc to ti t):=by
 intro pins s σ H v u Q I r h
 rw [ha]
 refine Op (Qc (Ae (ho pins s σ H _ I h) fun ov s1 zq=>?_))
 obtain ⟨x,H1,I1,r1,q1⟩:=zq
 refine Op (Qc (Ae (hi pins s1 σ H1 _ I1 q1) fun iv s2 zq=>?_))
 obtain ⟨y,H2,I2,r2,q2⟩:=zq
 refine Op (Rs (Op (Qc (Ae (hs pins s2 σ H2 x y v ov iv u _ I2 r1 r2 r q2) fun _ s3 zq=>?_))))
 obtain ⟨H3,I3,q3⟩:=zq
 exact wpAny_release ⟨σ,H3,I3,q3⟩
noncomputable def D6 (te:TE)(g:TG):TS:=fun D σ H=>te σ H fun x H1=>g x σ H1 D.nx
theorem Zeg {tg e:Expr}{te:TE}{g:TG}(he:PE X e te)(hg:PG X tg g)(hs:swapsWithSole [tg] e pos.line X.env=pure false:=by rfl)(hw:swappedStores [tg] e X.env=pure none:=by rfl)
  (h1:(assignEach [tg] X.env).map (·.2)=[assign tg X.env]:=by rfl):PS X (.Assign [tg] e pos) (D6 te g):=by
 intro pins s σ H D I h
 refine wpAny_Assign_stores (Ae (he pins s σ H _ I h) fun v s1 zq=>?_) hs hw
 obtain ⟨x,H1,I1,r1,q1⟩:=zq
 rw [h1]
 exact Ae (hg pins s1 σ H1 x v _ I1 r1 q1) fun _ s2 q=>q
theorem Zjb {i:Nat}{x:Str}{e:Expr}{te:TE}{pos':Pos}(hN:X.N.Nodup)(hi:X.N[i]?=some x)(hx:Dg X.env.scope x)(he:PE X e te)(hs:swapsWith e (some (.Name x pos')) pos.line X.env=pure false:=by rfl)(hf:X.fn x=true\/X.env.scope.names.lookup x=some .local:=by first | exact .inl rfl | exact .inr rfl | assumption) :
  PS X (.Assign [.Name x pos'] e pos) (D6 te (D8 i)):=by
 intro pins s σ H D I h
 refine wpAny_Assign_Name (Ae (he pins s σ H _ I h) fun v s1 zq=>?_) hs
 obtain ⟨y,H1,I1,r1,q1⟩:=zq
 exact Hx I1 hN hi hx r1 (fun s2 I2=>⟨_,H1,I2,q1⟩) hf
noncomputable def Ka (i j:Nat)(ta:TA):TS:=fun D σ H=>ta σ H fun vs H1=>∃ v w,vs=[v,w]/\D.nx ((σ.set i (some v)).set j (some w)) H1
theorem Zjq {i j:Nat}{x y:Str}{a b:Expr}{ta:TA}{px py pt:Pos}{kt k2 pt2}(hc:X.calm=true)(hN:X.N.Nodup)(hi:X.N[i]?=some x)(hj:X.N[j]?=some y)(hij:i≠j)
  (hx:X.env.scope.names.lookup x=some .local) (hy:X.env.scope.names.lookup y=some .local) (ha:PA X [a,b] ta)
  (hw:swappedStores [.Tuple [.Name x px,.Name y py] kt pt] (.Tuple [a,b] k2 pt2) X.env=pure (some [x,y]))
  (hs:swapsWithSole [.Tuple [.Name x px,.Name y py] kt pt] (.Tuple [a,b] k2 pt2) pos.line X.env=pure false:=by rfl) :
  PS X (.Assign [.Tuple [.Name x px,.Name y py] kt pt] (.Tuple [a,b] k2 pt2) pos) (Ka i j ta):=by
 intro pins s σ H D I h
 rw [exec_Assign_arm]
 refine Op (Rs ?_)
 rw [hs]
 refine Op (Ot ?_)
 rw [if_neg (by decide)]
 refine Op (Tuple_ (Ae (ha _ pins s σ H _ I h) fun us s1 zq=>?_))
 obtain ⟨vs,H1,I1,r1,q1⟩:=zq
 obtain ⟨v,w,e1,q1⟩:=q1
 subst e1
 obtain ⟨u1,u2,rfl,rv,rw'⟩:∃ u1 u2,us=[u1,u2]/\RelV v u1/\RelV w u2:=by
  cases r1 with
  | cons p q =>
   cases q with
   | cons p' q' =>
    cases q'
    exact ⟨_,_,rfl,p,p'⟩
 refine Qa ?_ (by show 2<=sizeLine;decide)
 have I2:Inv X pins σ H1 { s1 with heap:=s1.heap.push { cls:=.type "tuple",data:=.seq [u1,u2].toArray } }:=I1.kept (t':=s1.toks) fun b o e=>Ov _ e
 rw [hw]
 refine Op (Ot ?_)
 show wpAny (model X.prog X.w) X.A (do rule "assign.swapped-stores";let items <- unpackItems (.ref s1.heap.objs.size) 2 none;assignInOrder [fun v=>bindName X.env y v,fun v=>bindName X.env x v] items.reverse;pure Flow.next) _ _ _
 refine Op (wpAny_rule (Op (unpackItems_tuple (items:=#[u1,u2]) (I.ok.hd hc) (IsTup.new s1.heap _) fun h' hx'=>?_)))
 have I3:=I2.kept (h':=h') (t':=s1.toks) fun b o e=>hx' b o (O1 (Ow e)) e
 show wpAny _ _ (assignInOrder [fun v=>bindName X.env y v,fun v=>bindName X.env x v] [u2,u1] >>= fun _=>pure Flow.next) _ _ _
 refine Op (Tp (wpAny_bindName (Hx I3 hN hj (.inl hy) rw' (fun s2 I4=>?_) (.inr hy))))
 refine Tp (wpAny_bindName (Hx I4 hN hi (.inl hx) rv (fun s3 I5=>assignInOrder_nil (Ot ?_)) (.inr hx)))
 rw [List.set_comm _ _ (O9 hij)] at I5
 exact ⟨_,H1,I5,q1⟩
end
section
variable {X:Cx}{pos:Pos}
noncomputable def Ob (c:TT)(tb:TS):TS:=fun D σ H=>∃ W:Nat->St->Hp->Prop,(∃ m,W m σ H)/\∀ m σ H,W m σ H ->
 c σ H fun b H1=>if b=true then ∃ N:St->Hp->Prop,(∀ σ' H',N σ' H'->∃ m',m' < m/\W m' σ' H')/\tb { D with nx:=N,ct:=N,bk:=D.nx } σ H1 else D.nx σ H1
theorem Zbo {c:Expr}{body:List Stmt}{tc:TT}{tb:TS}(hp:PassesOwn (model X.prog X.w) X.A X.env X.xe)(hc:PT X c tc)(hb:PSs X body tb):PS X (.While c body [] pos) (Ob tc tb):=by
 intro pins s σ H D I h
 obtain ⟨W,⟨m0,w0⟩,turn⟩:=h
 refine wpAny_While (codeAny_whileLoop (fun n s'=>∃ σ' H',Inv X pins σ' H' s'/\W n σ' H') ?_ m0 ⟨σ,H,I,w0⟩)
 rintro n s1 ⟨σ1,H1,I1,w1⟩
 refine Qj hp (Ae (hc pins s1 σ1 H1 _ I1 (turn n σ1 H1 w1)) fun b s2 zq=>?_)
 obtain ⟨H2,I2,q2⟩:=zq
 cases b with
 | true =>
  obtain ⟨N,hN,q2⟩:=q2
  rw [if_pos rfl]
  refine Qj hp (Ae (hb pins s2 σ1 H2 _ I2 q2) fun f s3 q3=>?_)
  cases f with
  | next =>
   obtain ⟨σ3,H3,I3,n3⟩:=q3
   obtain ⟨m',hm,w3⟩:=hN σ3 H3 n3
   exact ⟨m',hm,σ3,H3,I3,w3⟩
  | cont =>
   obtain ⟨σ3,H3,I3,n3⟩:=q3
   obtain ⟨m',hm,w3⟩:=hN σ3 H3 n3
   exact ⟨m',hm,σ3,H3,I3,w3⟩
  | brk=>exact q3
  | ret v=>exact q3
 | false =>
  rw [if_neg Oz]
  exact So ⟨σ1,H2,I2,q2⟩
end
structure It where
 go:Nat->Hp->Prop
 yld:Nat->Hp->V->Hp->Prop
 stop:Nat->Hp->Prop
noncomputable def FpOk (X:Cx)(pins:List (Addr×Obj))(H:Hp)(b:Addr):Prop :=
 H b=none/\b≠X.env.locals/\b ∉ X.fs/\(b∈X.ex\/X.s₀.heap.objs.size<=b)/\(∀ x c,X.env.cells.lookup x=some c->c≠b)/\∀ p∈X.pn++pins,p.1≠b
theorem Inv.fpOk {X:Cx}{pins:List (Addr×Obj)}{σ:St}{H H':Hp}{s:Shared}{b:Addr}(I:Inv X pins σ H s)(hb:s.heap.objs.size<=b)(hn:H' b=none):FpOk X pins H' b:=by
 refine ⟨hn,Ql (O5 I.lt hb),I.nofs hb,.inr (Pa I.sz hb),fun x c e z=>?_,fun p hp z=>?_⟩
 ·obtain ⟨v,q⟩:=I.cell x c e
  exact absurd (O5 q.lt (by rw [z];exact hb)) (Pp _)
 ·exact absurd (O5 (Ow (I.pin p hp).1) (by rw [z];exact hb)) (Pp _)
structure Dm (P:Program)(w:World)(K:Oo)(tg:Expr)(J:It)(fp:List Addr)(it:Addr)(tn:Nat->Heap->Prop):Prop where
 mem:it∈fp
 obj:∀ i h,tn i h->∀ b∈fp,∃ o,h.get? b=some o/\∀ v,o.data≠.cell v
 keep:∀ i h h',tn i h->(∀ b∈fp,∀ o,h.get? b=some o->h'.get? b=some o)->tn i h'
 item:∀(X:Cx),X.prog=P->X.w=w->X.K=K->X.calm=true->∀(i:Nat)(pins:List (Addr×Obj))(s:Shared)(σ:St)(H:Hp)(E:Value->Shared->Prop),Inv X pins σ H s->(∀ b∈fp,FpOk X pins H b)->tn i s.heap->J.go i H ->
  wpAny (model P w) X.A (pyNext (.ref it)) (fun r s1=>∃ u,r=some u /\
   wpAny (model P w) X.A (letOwnedTupleGo tg (.ref it) u) (fun _ s2=>∃ x H',Inv X pins σ H' s2/\RelV x u/\J.yld i H x H'/\tn (i+1) s2.heap/\∀ b∈fp,H' b=none) E s1) E s
 done:∀(X:Cx),X.prog=P->X.w=w->X.K=K->X.calm=true->∀(i:Nat)(pins:List (Addr×Obj))(s:Shared)(σ:St)(H:Hp)(E:Value->Shared->Prop),Inv X pins σ H s->(∀ b∈fp,FpOk X pins H b)->tn i s.heap->J.stop i H ->
  wpAny (model P w) X.A (pyNext (.ref it)) (fun r s1=>r=none/\Inv X pins σ H s1) E s
 self:∀(A:Around)(i:Nat)(s:Shared)(Q:Value->Shared->Prop)(E:Value->Shared->Prop),tn i s.heap->Q (.ref it) s->wpAny (model P w) A (pyIter (.ref it)) Q E s
noncomputable abbrev TI:=St->Hp->(It->Hp->Prop)->Prop
noncomputable def PIE (X:Cx)(pins:List (Addr×Obj))(σ:St)(tg:Expr)(R:It->Hp->Prop)(itv:Value)(s2:Shared):Prop :=
 ∃(it:Addr)(fp:List Addr)(tn:Nat->Heap->Prop)(J:It)(H':Hp),itv=.ref it/\Inv X pins σ H' s2/\Dm X.prog X.w X.K tg J fp it tn/\tn 0 s2.heap/\(∀ b∈fp,FpOk X pins H' b)/\R J H'
noncomputable def PI (X:Cx)(tg iter:Expr)(wi:TI):Prop :=
 ∀(pins:List (Addr×Obj))(s:Shared)(σ:St)(H:Hp)(R:It->Hp->Prop),Inv X pins σ H s->wi σ H R ->
  wpAny (model X.prog X.w) X.A (eval iter X.env) (fun v s1=>wpAny (model X.prog X.w) X.A (pyIter v) (PIE X pins σ tg R) X.xe s1) X.xe s
theorem F2 {M:Model}{A:Around}{E:Value->Shared->Prop}{s:Shared}{tg:Expr}{it:Addr}{u:Value}{o:Obj}{n:String}{vs:Array Value}{Q:Unit->Shared->Prop}(ho:s.heap.get? it=some o)(hc:o.cls=.type n)(hd:o.data=.fields vs)
  (hn:["enumerate", "zip", "dict_itemiterator", "dict_reverseitemiterator", "odict_iterator", "itertools.zip_longest", "itertools.pairwise"].contains n=false) (hQ:Q () s):wpAny M A (letOwnedTupleGo tg (.ref it) u) Q E s:=by
 unfold letOwnedTupleGo
 cases tg <;> first
  | exact Ot hQ
  | (cases u <;> first
    | exact Ot hQ
    | (refine Op (wpAny_load ho ?_)
       rw [hc,hd]
       show wpAny M A (if (["enumerate", "zip", "dict_itemiterator", "dict_reverseitemiterator", "odict_iterator", "itertools.zip_longest", "itertools.pairwise"].contains n && vs[0]? == some (rawInt _))=true then _ else _) Q E s
       rw [if_neg (by intro h;rw [hn,Bool.false_and] at h;cases h)]
       exact Ot hQ))
noncomputable def D5 (K:Oo)(a:Addr):It :=
 ⟨fun i H=>∃ xs x,SqL K H a xs/\xs[i]?=some x,fun i H x H'=>H'=H/\∀ xs,SqL K H a xs->xs[i]?=some x,fun i H=>∃ xs,SqL K H a xs/\xs.length<=i⟩
noncomputable def Ef (K:Oo)(a:Addr):It :=
 ⟨fun i H=>∃ xs x,SqT K H a xs/\xs[i]?=some x,fun i H x H'=>H'=H/\∀ xs,SqT K H a xs->xs[i]?=some x,fun i H=>∃ xs,SqT K H a xs/\xs.length<=i⟩
noncomputable def Eg (lo:Int)(n:Nat):It:=⟨fun i _=>i < n,fun i H x H'=>H'=H/\x=.int (lo+i),fun i _=>n<=i⟩
theorem Zfd {P:Program}{w:World}{K:Oo}{tg:Expr}(a it:Addr):Dm P w K tg (D5 K a) [it] it (fun i h=>h.IsListIter it a i) where
 mem:=by simp
 obj:=fun i h st b hb=>by
  have e:b=it:=by simpa using hb
  subst e
  obtain ⟨o,e,c,d⟩:=st
  exact ⟨o,e,fun v z=>by rw [d] at z;cases z⟩
 keep:=fun i h h' st k=>st.at fun o e=>k it (by simp) o e
 item:=by
  intro X hP hw hK hc i pins s σ H E I hf st hg
  subst hP hw hK
  obtain ⟨xs,x,hq,hx⟩:=hg
  obtain ⟨its,rv,p,hz⟩:=I.list hq
  obtain ⟨u,hu,ru⟩:=rv.get hx
  obtain ⟨f0,f1,f2,f3,f4,f5⟩:=hf it (by simp)
  refine wpAny_pyNext_list_item st p.isList (x:=u) (by simpa using hu) fun h' st' sb=>?_
  have I1:Inv X pins σ H { s with heap:=h' }:=I.turned (t':=s.toks) (fun b o hb e=>(sb.2 b hb).trans e) f0 f1 f3 f4 f5
  obtain ⟨o,e,c,d⟩:=id st'
  exact ⟨u,rfl,F2 (s:={ s with heap:=h' }) e c d (by decide) ⟨x,H,I1,ru,⟨rfl,fun ys hy=>by rw [I.list_inj hy hq];exact hx⟩,st',fun b hb=>(hf b hb).1⟩⟩
 done:=by
  intro X hP hw hK hc i pins s σ H E I hf st hg
  subst hP hw hK
  obtain ⟨xs,hq,hx⟩:=hg
  obtain ⟨its,rv,p,hz⟩:=I.list hq
  obtain ⟨f0,f1,f2,f3,f4,f5⟩:=hf it (by simp)
  have hl:=rv.length
  exact wpAny_pyNext_list_end (I.ok.hd hc) st p.isList (by simp;omega) fun h' eb=>⟨rfl,I.turned (t':=s.toks) (fun b o hb e=>eb b o hb e) f0 f1 f3 f4 f5⟩
 self:=fun _ _ _ _ _ st h=>wpAny_pyIter_listiter st h
theorem Zdn {P:Program}{w:World}{K:Oo}{tg:Expr}(a it:Addr):Dm P w K tg (Ef K a) [it] it (fun i h=>h.IsTupleIter it a i) where
 mem:=by simp
 obj:=fun i h st b hb=>by
  have e:b=it:=by simpa using hb
  subst e
  obtain ⟨o,e,c,d⟩:=st
  exact ⟨o,e,fun v z=>by rw [d] at z;cases z⟩
 keep:=fun i h h' st k=>st.at fun o e=>k it (by simp) o e
 item:=by
  intro X hP hw hK hc i pins s σ H E I hf st hg
  subst hP hw hK
  obtain ⟨xs,x,hq,hx⟩:=hg
  obtain ⟨its,rv,p,hz⟩:=I.tuple hq
  obtain ⟨u,hu,ru⟩:=rv.get hx
  obtain ⟨f0,f1,f2,f3,f4,f5⟩:=hf it (by simp)
  refine wpAny_pyNext_tuple_item st (show s.heap.IsTuple a its.toArray from p) (x:=u) (by simpa using hu) fun h' st' sb=>?_
  have I1:Inv X pins σ H { s with heap:=h' }:=I.turned (t':=s.toks) (fun b o hb e=>(sb.2 b hb).trans e) f0 f1 f3 f4 f5
  obtain ⟨o,e,c,d⟩:=id st'
  exact ⟨u,rfl,F2 (s:={ s with heap:=h' }) e c d (by decide) ⟨x,H,I1,ru,⟨rfl,fun ys hy=>by rw [I.tuple_inj hy hq];exact hx⟩,st',fun b hb=>(hf b hb).1⟩⟩
 done:=by
  intro X hP hw hK hc i pins s σ H E I hf st hg
  subst hP hw hK
  obtain ⟨xs,hq,hx⟩:=hg
  obtain ⟨its,rv,p,hz⟩:=I.tuple hq
  obtain ⟨f0,f1,f2,f3,f4,f5⟩:=hf it (by simp)
  have hl:=rv.length
  exact wpAny_pyNext_tuple_end (I.ok.hd hc) st (show s.heap.IsTuple a its.toArray from p) (by simp;omega) fun h' eb=>⟨rfl,I.turned (t':=s.toks) (fun b o hb e=>eb b o hb e) f0 f1 f3 f4 f5⟩
 self:=fun _ _ _ _ _ st h=>wpAny_pyIter_tupleiter st h
theorem Zck {P:Program}{w:World}{K:Oo}{tg:Expr}(it:Addr)(lo:Int)(n:Nat):Dm P w K tg (Eg lo n) [it] it (fun i h=>IsRangeIter h it (lo+(i:Nat) * 1) ((n:Int) - (i:Nat)) 1) where
 mem:=by simp
 obj:=fun i h st b hb=>by
  have e:b=it:=by simpa using hb
  subst e
  exact ⟨_,st,fun v z=>by
   have z':Data.fields _=Data.cell v:=z
   cases z'⟩
 keep:=fun i h h' st k=>k it (by simp) _ st
 item:=by
  intro X hP hw hK hc i pins s σ H E I hf st hg
  subst hP hw hK
  obtain ⟨f0,f1,f2,f3,f4,f5⟩:=hf it (by simp)
  have W:=Walks.range (prog:=X.prog) (w:=X.w) (I.ok.hd hc) it lo 1 n
  refine W.item i s _ _ hg st fun v h' tk hv st' kk=>?_
  obtain ⟨t,rfl⟩:=hv
  have I1:Inv X pins σ H { s with heap:=h',toks:=tk }:=I.turned (fun b o hb e=>kk b o (by simpa using hb) e) f0 f1 f3 f4 f5
  refine ⟨_,rfl,F2 (s:={ s with heap:=h',toks:=tk }) (n := "range_iterator") st' rfl rfl (by decide) ⟨.int (lo+i),H,I1,⟨t,?_⟩,⟨rfl,rfl⟩,st',fun b hb=>(hf b hb).1⟩⟩
  rw [Int.mul_one]
 done:=by
  intro X hP hw hK hc i pins s σ H E I hf st hg
  subst hP hw hK
  obtain ⟨f0,f1,f2,f3,f4,f5⟩:=hf it (by simp)
  exact wpAny_pyNext_range_end (I.ok.hd hc) st (by have:n<=i:=hg;omega) fun h' eb=>⟨rfl,I.turned (t':=s.toks) (fun b o hb e=>eb b o hb e) f0 f1 f3 f4 f5⟩
 self:=fun _ _ _ _ _ st h=>wpAny_pyIter_rangeiter st h
section
variable {X:Cx}{tg:Expr}
theorem Zek {pins:List (Addr×Obj)}{σ:St}{H:Hp}{s:Shared}{R:It->Hp->Prop}{E:Value->Shared->Prop}{lo hi:Int}{t u v:Tok}{tk:Nat}(I:Inv X pins σ H s)(h1:-(2 ^ 62)<=lo)(h2:lo < 2 ^ 62)(h3:-(2 ^ 62)<=hi)(h4:hi < 2 ^ 62)
  (q:R (Eg lo (hi - lo).toNat) H):wpAny (model X.prog X.w) X.A (pyIter (.ref s.heap.objs.size)) (PIE X pins σ tg R) E { s with heap:=s.heap.push { cls:=.type "range",data:=.fields #[.int lo t,.int hi u,.int 1 v] },toks:=tk }:=by
 refine wpAny_pyIter_range (IsRange.new ..) (small_one h1 h2 h3 h4) ?_
 have I1:Inv X pins σ H { s with heap:=s.heap.push { cls:=.type "range",data:=.fields #[.int lo t,.int hi u,.int 1 v] },toks:=tk }:=I.kept fun b o e=>Ov _ e
 refine ⟨(s.heap.push { cls:=.type "range",data:=.fields #[.int lo t,.int hi u,.int 1 v] }).objs.size,[(s.heap.push { cls:=.type "range",data:=.fields #[.int lo t,.int hi u,.int 1 v] }).objs.size],_,_,H,rfl,
  I1.kept (t':=tk) fun b o e=>Ov _ e,Zck _ lo (hi - lo).toNat,?_,fun b hb=>?_,q⟩
 ·have e1:lo+((0:Nat):Int) * 1=lo:=by simp
  have e2:(((hi - lo).toNat:Nat):Int) - ((0:Nat):Int)=Builtin.Range.rangeSize lo hi 1:=by rw [rangeSize_one];split <;> omega
  show IsRangeIter _ _ (lo+((0:Nat):Int) * 1) ((((hi - lo).toNat:Nat):Int) - ((0:Nat):Int)) 1
  rw [e1,e2]
  exact O6 _ rfl
 ·have e:b=(s.heap.push { cls:=.type "range",data:=.fields #[.int lo t,.int hi u,.int 1 v] }).objs.size:=by simpa using hb
  subst e
  exact I1.fpOk (Oq _) (I1.hok.fresh (Oq _))
noncomputable def Jt (ta:TA):TI:=fun σ H R=>ta σ H fun vs H1=>∃ j:Int,vs=[.int j]/\-(2 ^ 62)<=j/\j < 2 ^ 62/\R (Eg 0 j.toNat) H1
theorem Ziu {a:Expr}{ta:TA}{p pos:Pos}(hg:Gl X "range")(hm:X.mg "range" = none)(ha:PA X [a] ta)(hs:starEach [a] X.env=[(false,eval a X.env)]:=by rfl):PI X tg (.Call (.Name "range" p) [a] [] pos) (Jt ta):=by
 intro pins s σ H R I h
 refine Call_ (C4 I hg hm boot_range (Pw (Ae (ha pos pins s σ H _ I h) fun us s1 zq=>?_) hs rfl))
 obtain ⟨vs,H1,I1,r1,q1⟩:=zq
 obtain ⟨j,e,q1,q2,q⟩:=q1
 subst e
 cases r1 with
 | cons r rr =>
  cases rr
  obtain ⟨t,rfl⟩:=r
  exact call_range_1 (Zek I1 (by omega) (by omega) q1 q2 (by simpa using q))
noncomputable def Kc (wi:TI)(g:TG)(tb:TS):TS:=fun D σ H=>wi σ H fun J H1=>∃ W:Nat->Nat->St->Hp->Prop,(∃ m,W 0 m σ H1)/\∀ i m σ H,W i m σ H ->
 (J.stop i H/\D.nx σ H)\/(J.go i H/\∃ N:St->Hp->Prop,(∀ σ' H',N σ' H'->∃ m',m' < m/\W (i+1) m' σ' H')/\∀ x H',J.yld i H x H'->g x σ H' fun σ2 H2=>tb { D with nx:=N,ct:=N,bk:=D.nx } σ2 H2)
noncomputable def Fv (fp:List Addr)(h:Heap):List (Addr×Obj):=fp.filterMap fun b=>(h.get? b).map fun o=>(b,o)
theorem Hg {fp:List Addr}{h:Heap}{b:Addr}{o:Obj}(hb:b∈fp)(e:h.get? b=some o):(b,o)∈Fv fp h:=List.mem_filterMap.mpr ⟨b,hb,by rw [e];rfl⟩
theorem Zc0 {fp:List Addr}{h:Heap}{p:Addr×Obj}(hp:p∈Fv fp h):p.1∈fp/\h.get? p.1=some p.2:=by
 obtain ⟨b,hb,e⟩:=List.mem_filterMap.mp hp
 cases q:h.get? b with
 | none=>rw [q] at e;cases e
 | some o =>
  rw [q] at e
  have e':(b,o)=p:=O4 e
  subst e'
  exact ⟨hb,q⟩
theorem Inv.pinned {pins:List (Addr×Obj)}{σ:St}{H:Hp}{s:Shared}{fp:List Addr}(I:Inv X pins σ H s)(hf:∀ b∈fp,FpOk X pins H b)(ho:∀ b∈fp,∃ o,s.heap.get? b=some o/\∀ v,o.data≠.cell v):Inv X (pins++Fv fp s.heap) σ H s :=
 I.pins_of fun p hp=>(Pr.mp hp).elim (fun z=>I.pin p (Pn _ z)) fun z=>by
  obtain ⟨hb,e⟩:=Zc0 z
  obtain ⟨f0,f1,f2,_⟩:=hf p.1 hb
  obtain ⟨o,e',d⟩:=ho p.1 hb
  rw [e] at e';cases e'
  exact ⟨e,f0,f1,f2,d⟩
theorem Inv.unpinned {pins pl:List (Addr×Obj)}{σ:St}{H:Hp}{s:Shared}(I:Inv X (pins++pl) σ H s):Inv X pins σ H s:=I.pins_of fun p hp=>I.pin p (Pn _ (Ti _ hp))
theorem Zfw {iter:Expr}{body:List Stmt}{wi:TI}{g:TG}{tb:TS}{pos:Pos}(hp:PassesOwn (model X.prog X.w) X.A X.env X.xe)(hc:X.calm=true)(hi:PI X tg iter wi)(hg:PG X tg g)(hb:PSs X body tb)
  (hs:∀ x,foldedSetIterable iter X.env x=pure x:=by intro _;rfl):PS X (.For tg iter body [] pos) (Kc wi g tb):=by
 intro pins s σ H D I h
 refine wpAny_For (Ae (hi pins s σ H _ I h) fun v s1 h1=>Ae h1 fun itv s2 h2=>?_) hs
 obtain ⟨it,fp,tn,J,H2,e,I2,T,st2,f2,W,⟨m0,w0⟩,turn⟩:=h2
 subst e
 have stat:∀{H':Hp},(∀ b∈fp,H' b=none)->∀ b∈fp,FpOk X pins H' b:=fun hn b hb=>⟨hn b hb,(f2 b hb).2⟩
 refine codeAny_forLoop_any (fun n s'=>∃ i σ' H',Inv X pins σ' H' s'/\tn i s'.heap/\(∀ b∈fp,H' b=none)/\W i n σ' H') ?_ m0 ⟨0,σ,H2,I2,st2,fun b hb=>(f2 b hb).1,w0⟩
 rintro n s3 ⟨i,σ3,H3,I3,st3,fr3,w3⟩
 rcases turn i n σ3 H3 w3 with ⟨stop,qn⟩ | ⟨go,N,hN,step⟩
 ·refine Qj hp (Ae (T.done X rfl rfl rfl hc i pins s3 σ3 H3 X.xe I3 (stat fr3) st3 stop) fun r s4 zq=>?_)
  obtain ⟨hr,I4⟩:=zq
  subst hr
  exact So ⟨σ3,H3,I4,qn⟩
 ·refine Qj hp (Ae (T.item X rfl rfl rfl hc i pins s3 σ3 H3 X.xe I3 (stat fr3) st3 go) fun r s4 zq=>?_)
  obtain ⟨u,hr,h4⟩:=zq
  subst hr
  refine Qj hp (Ae h4 fun _ s5 zq=>?_)
  obtain ⟨x,H5,I5,r5,y5,st5,fr5⟩:=zq
  have I5':=I5.pinned (stat fr5) (T.obj _ _ st5)
  refine Qj hp (Ae (hg _ s5 σ3 H5 x u _ I5' r5 (step x H5 y5)) fun _ s6 zq=>?_)
  obtain ⟨σ6,H6,I6,q6⟩:=zq
  refine Qj hp (Ae (hb _ s6 σ6 H6 _ I6 q6) fun f s7 q7=>?_)
  have again:∀{σ7:St}{H7:Hp},Inv X (pins++Fv fp s5.heap) σ7 H7 s7->N σ7 H7->∃ m,m < n/\∃ i σ' H',Inv X pins σ' H' s7/\tn i s7.heap/\(∀ b∈fp,H' b=none)/\W i m σ' H':=fun {σ7 H7} I7 n7=>by
   obtain ⟨m',hm,w7⟩:=hN σ7 H7 n7
   refine ⟨m',hm,i+1,σ7,H7,I7.unpinned,T.keep _ _ _ st5 fun b hb o e=>(I7.pin (b,o) (Pn _ (Pn _ (Hg hb e)))).1,fun b hb=>?_,w7⟩
   obtain ⟨o,e,d⟩:=T.obj _ _ st5 b hb
   exact (I7.pin (b,o) (Pn _ (Pn _ (Hg hb e)))).2.1
  cases f with
  | next=>obtain ⟨σ7,H7,I7,n7⟩:=q7;exact again I7 n7
  | cont=>obtain ⟨σ7,H7,I7,n7⟩:=q7;exact again I7 n7
  | brk=>obtain ⟨σ7,H7,I7,q7⟩:=q7;exact ⟨σ7,H7,I7.unpinned,q7⟩
  | ret v=>obtain ⟨x7,σ7,H7,I7,r7,q7⟩:=q7;exact ⟨x7,σ7,H7,I7.unpinned,r7,q7⟩
end
theorem Lq {K:Oo}{a:Addr}{xs:List V}{g:TG}{tb:TS}{D:Cj}{σ:St}{H:Hp}(Pv:Nat->St->Hp->Prop)(h0:Pv 0 σ H)(hl:∀ i σ H,i<=xs.length->Pv i σ H->SqL K H a xs)
  (hs:∀ i x σ H,xs[i]?=some x->Pv i σ H->g x σ H fun σ2 H2=>tb { D with nx:=Pv (i+1),ct:=Pv (i+1),bk:=D.nx } σ2 H2) (hd:∀ σ H,Pv xs.length σ H->D.nx σ H) :
  ∃ W:Nat->Nat->St->Hp->Prop,(∃ m,W 0 m σ H)/\∀ i m σ H,W i m σ H ->
   ((D5 K a).stop i H/\D.nx σ H)\/((D5 K a).go i H/\∃ N:St->Hp->Prop,(∀ σ' H',N σ' H'->∃ m',m' < m/\W (i+1) m' σ' H')/\∀ x H',(D5 K a).yld i H x H'->g x σ H' fun σ2 H2=>tb { D with nx:=N,ct:=N,bk:=D.nx } σ2 H2):=by
 refine ⟨fun i m σ H=>m=xs.length - i/\i<=xs.length/\Pv i σ H,⟨xs.length,by simp,Pd _,h0⟩,?_⟩
 rintro i m σ H ⟨rfl,hi,p⟩
 have q:=hl i σ H hi p
 by_cases hlt:i < xs.length
 ·refine .inr ⟨⟨xs,xs[i],q,by simp [hlt]⟩,Pv (i+1),fun σ' H' p'=>⟨xs.length - (i+1),by omega,rfl,hlt,p'⟩,fun x H' y=>?_⟩
  obtain ⟨e,y⟩:=y
  subst e
  exact hs i x σ _ (y xs q) p
 ·have e:i=xs.length:=by omega
  subst e
  exact .inl ⟨⟨xs,q,Oq _⟩,hd σ H p⟩
theorem Lv {lo:Int}{n:Nat}{g:TG}{tb:TS}{D:Cj}{σ:St}{H:Hp}(Pv:Nat->St->Hp->Prop)(h0:Pv 0 σ H)
  (hs:∀ i σ H,i < n->Pv i σ H->g (.int (lo+i)) σ H fun σ2 H2=>tb { D with nx:=Pv (i+1),ct:=Pv (i+1),bk:=D.nx } σ2 H2) (hd:∀ σ H,Pv n σ H->D.nx σ H) :
  ∃ W:Nat->Nat->St->Hp->Prop,(∃ m,W 0 m σ H)/\∀ i m σ H,W i m σ H ->
   ((Eg lo n).stop i H/\D.nx σ H)\/((Eg lo n).go i H/\∃ N:St->Hp->Prop,(∀ σ' H',N σ' H'->∃ m',m' < m/\W (i+1) m' σ' H')/\∀ x H',(Eg lo n).yld i H x H'->g x σ H' fun σ2 H2=>tb { D with nx:=N,ct:=N,bk:=D.nx } σ2 H2):=by
 refine ⟨fun i m σ H=>m=n - i/\i<=n/\Pv i σ H,⟨n,by simp,Pd _,h0⟩,?_⟩
 rintro i m σ H ⟨rfl,hi,p⟩
 by_cases hlt:i < n
 ·refine .inr ⟨hlt,Pv (i+1),fun σ' H' p'=>⟨n - (i+1),by omega,rfl,hlt,p'⟩,fun x H' y=>?_⟩
  obtain ⟨e,y⟩:=y
  subst e y
  exact hs i σ _ hlt p
 ·have e:i=n:=by omega
  subst e
  exact .inl ⟨Oq _,hd σ H p⟩
noncomputable abbrev R2:=V->V->Hp->VK->Prop
noncomputable def OpR (X:Cx)(f:Value->Value->Sem Value)(r:R2):Prop :=
 ∀(pins:List (Addr×Obj))(s:Shared)(σ:St)(H:Hp)(x y:V)(v u:Value)(Q:VK),Inv X pins σ H s->RelV x v->RelV y u->r x y H Q ->
  wpAny (model X.prog X.w) X.A (f v u) (EP X pins σ Q) X.xe s
noncomputable def UnR (X:Cx)(f:Value->Sem Value)(r:V->Hp->VK->Prop):Prop :=
 ∀(pins:List (Addr×Obj))(s:Shared)(σ:St)(H:Hp)(x:V)(v:Value)(Q:VK),Inv X pins σ H s->RelV x v->r x H Q ->
  wpAny (model X.prog X.w) X.A (f v) (EP X pins σ Q) X.xe s
noncomputable def B4 (X:Cx)(f:Value)(r:List V->Hp->VK->Prop):Prop :=
 ∀(pins:List (Addr×Obj))(s:Shared)(σ:St)(H:Hp)(xs:List V)(us:List Value)(Q:VK),Inv X pins σ H s->Vals xs us->r xs H Q ->
  wpAny (model X.prog X.w) X.A (call f us) (EP X pins σ Q) X.xe s
noncomputable def TruR (X:Cx)(r:V->Hp->(Bool->Hp->Prop)->Prop):Prop :=
 ∀(pins:List (Addr×Obj))(s:Shared)(σ:St)(H:Hp)(x:V)(v:Value)(Q:Bool->Hp->Prop),Inv X pins σ H s->RelV x v->r x H Q ->
  wpAny (model X.prog X.w) X.A (truthy v) (TP X pins σ Q) X.xe s
noncomputable def Dd (r:R2)(ta tb:TE):TE:=fun σ H Q=>ta σ H fun x H1=>tb σ H1 fun y H2=>r x y H2 Q
noncomputable def tUn (r:V->Hp->VK->Prop)(ta:TE):TE:=fun σ H Q=>ta σ H fun x H1=>r x H1 Q
noncomputable def rI (C:Int->Int->Prop)(g:Int->Int->V):R2:=fun x y H Q=>∃ i j,x=.int i/\y=.int j/\C i j/\Q (g i j) H
noncomputable def D0 (g:Int->Int->V):R2:=fun x y H Q=>∃ i j,x=.int i/\y=.int j/\Q (g i j) H
noncomputable def rU (g:Int->V):V->Hp->VK->Prop:=fun x H Q=>∃ i,x=.int i/\Q (g i) H
section
variable {X:Cx}{a b c:Expr}{ta tb tc:TE}{pos:Pos}
theorem Js (ha:PE X a ta)(hb:PE X b tb){pins:List (Addr×Obj)}{s:Shared}{σ:St}{H:Hp}{R:V->V->Hp->Prop}(I:Inv X pins σ H s)
  (h:ta σ H fun x H1=>tb σ H1 fun y H2=>R x y H2) {Q:Value->Shared->Prop} {f:Value->Value->Sem Value}
  (hf:∀ v u s2 x y H2,Inv X pins σ H2 s2->RelV x v->RelV y u->R x y H2->wpAny (model X.prog X.w) X.A (f v u) Q X.xe s2) :
  wpAny (model X.prog X.w) X.A (eval a X.env) (fun v s₁=>wpAny (model X.prog X.w) X.A (eval b X.env) (fun u s₂=>wpAny (model X.prog X.w) X.A (f v u) Q X.xe s₂) X.xe s₁) X.xe s:=by
 refine Ae (ha pins s σ H _ I h) fun v s1 zq=>?_
 obtain ⟨x,H1,I1,r1,q1⟩:=zq
 refine Ae (hb pins s1 σ H1 _ I1 q1) fun u s2 zq=>?_
 obtain ⟨y,H2,I2,r2,q2⟩:=zq
 exact hf v u s2 x y H2 I2 r1 r2 q2
theorem Zh6 {op:Operator}{r:R2}(ho:OpR X (binaryOp op) r)(ha:PE X a ta)(hb:PE X b tb):PE X (.BinOp a op b pos) (Dd r ta tb):=by
 intro pins s σ H Q I h
 exact wpAny_BinOp (Js ha hb I h fun v u s2 x y H2 I2 rx ry q=>ho pins s2 σ H2 x y v u Q I2 rx ry q)
theorem Zd1 {op:UnaryOp}{r:V->Hp->VK->Prop}(ho:UnR X (unaryOp op) r)(ha:PE X a ta):PE X (.UnaryOp op a pos) (tUn r ta):=by
 intro pins s σ H Q I h
 exact UnaryOp_ (Ae (ha pins s σ H _ I h) fun v s1 ⟨x,H1,I1,r1,q1⟩=>ho pins s1 σ H1 x v Q I1 r1 q1)
theorem opI {f:Value->Value->Sem Value}{C:Int->Int->Prop}{g:Int->Int->Int}
  (rule:∀(i j:Int)(t u:Tok)(s:Shared)(Q:Value->Shared->Prop)(E:Value->Shared->Prop),C i j->Q (.int (g i j) s.toks) { s with toks:=s.toks+1 }->wpAny (model X.prog X.w) X.A (f (.int i t) (.int j u)) Q E s) :
  OpR X f (rI C fun i j=>.int (g i j)):=by
 intro pins s σ H x y v u Q I rx ry h
 obtain ⟨i,j,rfl,rfl,hc,q⟩:=h
 obtain ⟨t,rfl⟩:=rx
 obtain ⟨t',rfl⟩:=ry
 exact rule i j t t' s _ _ hc ⟨.int (g i j),H,I.tok _,⟨_,rfl⟩,q⟩
theorem opI0 {f:Value->Value->Sem Value}{g:Int->Int->Int}
  (rule:∀(i j:Int)(t u:Tok)(s:Shared)(Q:Value->Shared->Prop)(E:Value->Shared->Prop),Q (.int (g i j) s.toks) { s with toks:=s.toks+1 }->wpAny (model X.prog X.w) X.A (f (.int i t) (.int j u)) Q E s) :
  OpR X f (D0 fun i j=>.int (g i j)):=by
 intro pins s σ H x y v u Q I rx ry h
 obtain ⟨i,j,rfl,rfl,q⟩:=h
 obtain ⟨t,rfl⟩:=rx
 obtain ⟨t',rfl⟩:=ry
 exact rule i j t t' s _ _ ⟨.int (g i j),H,I.tok _,⟨_,rfl⟩,q⟩
theorem opB0 {f:Value->Value->Sem Value}{g:Int->Int->Bool}
  (rule:∀(i j:Int)(t u:Tok)(s:Shared)(Q:Value->Shared->Prop)(E:Value->Shared->Prop),Q (.bool (g i j)) s->wpAny (model X.prog X.w) X.A (f (.int i t) (.int j u)) Q E s) :
  OpR X f (D0 fun i j=>.bl (g i j)):=by
 intro pins s σ H x y v u Q I rx ry h
 obtain ⟨i,j,rfl,rfl,q⟩:=h
 obtain ⟨t,rfl⟩:=rx
 obtain ⟨t',rfl⟩:=ry
 exact rule i j t t' s _ _ ⟨.bl (g i j),H,I,rfl,q⟩
noncomputable def CDiv (i j:Int):Prop:=0 < j/\j < 1073741824
noncomputable def CPow (i j:Int):Prop:=0<=j/\j<=1000000/\i.natAbs < 2 ^ 64
noncomputable def CMul (i j:Int):Prop:=(-(2 ^ 64) < i/\i < 2 ^ 64)\/(-(2 ^ 64) < j/\j < 2 ^ 64)
theorem CMul.ok {i j:Int}(h:CMul i j):IntMulOk i j:=by
 rcases h with ⟨h1,h2⟩ | ⟨h1,h2⟩
 ·exact .of_left (intBits_le_64 h1 h2)
 ·exact .of_right (intBits_le_64 h1 h2)
theorem op_add:OpR X (binaryOp .Add) (D0 fun i j=>.int (i+j)):=opI0 fun _ _ _ _ _ _ _ q=>add_int q
theorem Jd:OpR X (binaryOp .Sub) (D0 fun i j=>.int (i - j)):=opI0 fun _ _ _ _ _ _ _ q=>sub_int q
theorem op_mul:OpR X (binaryOp .Mult) (rI CMul fun i j=>.int (i * j)):=opI fun _ _ _ _ _ _ _ hc q=>mul_int q hc.ok
theorem Fk:OpR X (binaryOp .FloorDiv) (rI CDiv fun i j=>.int (i / j)):=opI fun i j _ _ _ _ _ hc q=>by
 have h1:(0:Int) < j:=hc.1
 have h2:j < 1073741824:=hc.2
 exact floordiv_int (by omega) (by rw [Int.fdiv_eq_ediv_of_nonneg i (by omega)];exact q) (.inl (PyProof.noPylong_small (by omega)))
theorem Ea:OpR X (binaryOp .Mod) (rI (fun _ j=>0 < j) fun i j=>.int (i % j)):=opI fun i j _ _ _ _ _ hc q=>by
 have h1:(0:Int) < j:=hc
 exact mod_int' (by omega) (by rw [Int.fmod_eq_emod_of_nonneg i (by omega)];exact q)
theorem Ze3:OpR X (binaryOp .Pow) (rI CPow fun i j=>.int (i ^ j.toNat)):=opI fun _ _ _ _ _ _ _ hc q=>pow_int_small hc.1 hc.2.1 hc.2.2 q
theorem unI {f:Value->Sem Value}{g:Int->Int}
  (rule:∀(i:Int)(t:Tok)(s:Shared)(Q:Value->Shared->Prop)(E:Value->Shared->Prop),Q (.int (g i) s.toks) { s with toks:=s.toks+1 }->wpAny (model X.prog X.w) X.A (f (.int i t)) Q E s) :
  UnR X f (rU fun i=>.int (g i)):=by
 intro pins s σ H x v Q I rx h
 obtain ⟨i,rfl,q⟩:=h
 obtain ⟨t,rfl⟩:=rx
 exact rule i t s _ _ ⟨.int (g i),H,I.tok _,⟨_,rfl⟩,q⟩
theorem M0:UnR X (unaryOp .USub) (rU fun i=>.int (-i)):=unI fun _ _ _ _ _ q=>neg_int q
end
noncomputable def E4:V->V->Bool
 | .non,.non=>true | .non,.int _=>true | .int _,.non=>true | .non,.bl _=>true | .bl _,.non=>true | .non,.str _=>true | .str _,.non=>true
 | .int _,.int _=>true | .bl _,.bl _=>true | .str _,.str _=>true | .byt _,.byt _=>true
 | .int _,.str _=>true | .str _,.int _=>true | .bl _,.str _=>true | .str _,.bl _=>true
 | _,_=>false
noncomputable def rEq:R2:=fun x y H Q=>E4 x y=true/\Q (.bl (decide (x=y))) H
noncomputable def rNe:R2:=fun x y H Q=>E4 x y=true/\Q (.bl (!decide (x=y))) H
theorem Zak {i j:Int}:decide (V.int i=V.int j)=(i == j):=by
 rw [Rn]
 simp
theorem L0 {i j:Bool}:decide (V.bl i=V.bl j)=(i == j):=by
 rw [Rn]
 simp
theorem Er {i j:Str}:decide (V.str i=V.str j)=(i == j):=by
 rw [Rn]
 simp
theorem Nz {i j:Array UInt8}:decide (V.byt i=V.byt j)=(i.toList == j.toList):=by
 rw [Rn]
 cases i
 cases j
 simp
section
variable {X:Cx}{a b c:Expr}{ta tb tc:TE}{pos:Pos}
theorem A4 {pins:List (Addr×Obj)}{σ:St}{H:Hp}{s:Shared}{Q:VK}{k k':Bool}(I:Inv X pins σ H s)(q:Q (.bl k) H)(e:k=k'):EP X pins σ Q (.bool k') s:=by
 subst e
 exact ⟨.bl k,H,I,rfl,q⟩
theorem op_eq:OpR X (compareOp .Eq) rEq:=by
 intro pins s σ H x y v u Q I rx ry h
 obtain ⟨hs,q⟩:=h
 cases x with
 | non =>
  cases rx
  cases y with
  | non=>cases ry;exact PySem.EqNone.eq_none_none (A4 I q (by simp))
  | bl j=>cases ry;exact PySem.EqNone.eq_none_bool (A4 I q (by simp))
  | int j=>obtain ⟨t',rfl⟩:=ry;exact PySem.EqNone.eq_none_int (A4 I q (by simp))
  | str j=>obtain ⟨t',rfl⟩:=ry;exact PySem.EqNone.eq_none_str (A4 I q (by simp))
  | _=>exact absurd (show false=true from hs) Oz
 | bl i =>
  cases rx
  cases y with
  | non=>cases ry;exact PySem.EqNone.eq_bool_none (A4 I q (by simp))
  | bl j=>cases ry;exact eq_bool (A4 I q L0)
  | str j=>obtain ⟨t',rfl⟩:=ry;exact PySem.EqMixed.eq_bool_str (A4 I q (by simp))
  | _=>exact absurd (show false=true from hs) Oz
 | int i =>
  obtain ⟨t,rfl⟩:=rx
  cases y with
  | non=>cases ry;exact PySem.EqNone.eq_int_none (A4 I q (by simp))
  | int j=>obtain ⟨t',rfl⟩:=ry;exact eq_int (A4 I q Zak)
  | str j=>obtain ⟨t',rfl⟩:=ry;exact PySem.EqMixed.eq_int_str (A4 I q (by simp))
  | _=>exact absurd (show false=true from hs) Oz
 | str i =>
  obtain ⟨t,rfl⟩:=rx
  cases y with
  | non=>cases ry;exact PySem.EqNone.eq_str_none (A4 I q (by simp))
  | bl j=>cases ry;exact PySem.EqMixed.eq_str_bool (A4 I q (by simp))
  | int j=>obtain ⟨t',rfl⟩:=ry;exact PySem.EqMixed.eq_str_int (A4 I q (by simp))
  | str j=>obtain ⟨t',rfl⟩:=ry;exact eq_str (A4 I q Er)
  | _=>exact absurd (show false=true from hs) Oz
 | byt i =>
  obtain ⟨t,rfl⟩:=rx
  cases y with
  | byt j=>obtain ⟨t',rfl⟩:=ry;exact PySem.W.eq_bytes (A4 I q Nz)
  | _=>exact absurd (show false=true from hs) Oz
 | _=>cases y <;> exact absurd (show false=true from hs) Oz
theorem op_ne:OpR X (compareOp .NotEq) rNe:=by
 intro pins s σ H x y v u Q I rx ry h
 obtain ⟨hs,q⟩:=h
 cases x with
 | non =>
  cases rx
  cases y with
  | non=>cases ry;exact PySem.EqNone.ne_none_none (A4 I q (by simp))
  | bl j=>cases ry;exact PySem.EqNone.ne_none_bool (A4 I q (by simp))
  | int j=>obtain ⟨t',rfl⟩:=ry;exact PySem.EqNone.ne_none_int (A4 I q (by simp))
  | str j=>obtain ⟨t',rfl⟩:=ry;exact PySem.EqNone.ne_none_str (A4 I q (by simp))
  | _=>exact absurd (show false=true from hs) Oz
 | bl i =>
  cases rx
  cases y with
  | non=>cases ry;exact PySem.EqNone.ne_bool_none (A4 I q (by simp))
  | bl j=>cases ry;exact ne_bool (A4 I q (congrArg not L0))
  | str j=>obtain ⟨t',rfl⟩:=ry;exact PySem.EqMixed.ne_bool_str (A4 I q (by simp))
  | _=>exact absurd (show false=true from hs) Oz
 | int i =>
  obtain ⟨t,rfl⟩:=rx
  cases y with
  | non=>cases ry;exact PySem.EqNone.ne_int_none (A4 I q (by simp))
  | int j=>obtain ⟨t',rfl⟩:=ry;exact ne_int (A4 I q (congrArg not Zak))
  | str j=>obtain ⟨t',rfl⟩:=ry;exact PySem.EqMixed.ne_int_str (A4 I q (by simp))
  | _=>exact absurd (show false=true from hs) Oz
 | str i =>
  obtain ⟨t,rfl⟩:=rx
  cases y with
  | non=>cases ry;exact PySem.EqNone.ne_str_none (A4 I q (by simp))
  | bl j=>cases ry;exact PySem.EqMixed.ne_str_bool (A4 I q (by simp))
  | int j=>obtain ⟨t',rfl⟩:=ry;exact PySem.EqMixed.ne_str_int (A4 I q (by simp))
  | str j=>obtain ⟨t',rfl⟩:=ry;exact ne_str (A4 I q (congrArg not Er))
  | _=>exact absurd (show false=true from hs) Oz
 | byt i =>
  obtain ⟨t,rfl⟩:=rx
  cases y with
  | byt j=>obtain ⟨t',rfl⟩:=ry;exact PySem.W.ne_bytes (A4 I q (congrArg not Nz))
  | _=>exact absurd (show false=true from hs) Oz
 | _=>cases y <;> exact absurd (show false=true from hs) Oz
theorem op_lt:OpR X (compareOp .Lt) (D0 fun i j=>.bl (decide (i < j))):=opB0 fun _ _ _ _ _ _ _ q=>lt_int q
theorem Za0:OpR X (compareOp .Gt) (D0 fun i j=>.bl (decide (j < i))):=opB0 fun _ _ _ _ _ _ _ q=>gt_int q
theorem Zed:OpR X (compareOp .Lt) (fun x y H Q=>∃ i j,x=.str i/\y=.str j/\Q (.bl (decide (i.cps.toList < j.cps.toList))) H):=by
 intro pins s σ H x y v u Q I rx ry h
 obtain ⟨i,j,rfl,rfl,q⟩:=h
 obtain ⟨t,rfl⟩:=rx
 obtain ⟨t',rfl⟩:=ry
 exact lt_str (A4 I q rfl)
theorem Zh4:OpR X (compareOp .In) (fun x y H Q=>∃ i j,x=.str i/\y=.str j/\Q (.bl (!(Builtin.Str.occurrences j i 0 j.length 1).isEmpty)) H):=by
 intro pins s σ H x y v u Q I rx ry h
 obtain ⟨i,j,rfl,rfl,q⟩:=h
 obtain ⟨t,rfl⟩:=rx
 obtain ⟨t',rfl⟩:=ry
 exact in_str (A4 I q rfl)
theorem OpR.or {f:Value->Value->Sem Value}{r r':R2}(h:OpR X f r)(h':OpR X f r'):OpR X f (fun x y H Q=>r x y H Q\/r' x y H Q):=by
 intro pins s σ H x y v u Q I rx ry q
 rcases q with q | q
 ·exact h pins s σ H x y v u Q I rx ry q
 ·exact h' pins s σ H x y v u Q I rx ry q
theorem Aw (b:Expr){op:CmpOp}(h:op≠.In:=by decide)(h2:op≠.NotIn:=by decide):behindInMarks op b=false:=by
 have e1:(op == CmpOp.In)=false:=by cases op <;> first | rfl | exact absurd rfl h
 have e2:(op == CmpOp.NotIn)=false:=by cases op <;> first | rfl | exact absurd rfl h2
 cases b <;> simp [behindInMarks,e1,e2]
theorem Zdw {op:CmpOp}{r:R2}(ho:OpR X (compareOp op) r)(ha:PE X a ta)(hb:PE X b tb)(hm:behindInMarks op b=false):PE X (.Compare a [op] [b] pos) (Dd r ta tb):=by
 intro pins s σ H Q I h
 exact wpAny_Compare1 (Js ha hb I h fun v u s2 x y H2 I2 rx ry q=>ho pins s2 σ H2 x y v u Q I2 rx ry q) hm
noncomputable def Jx (t:TE):TT:=fun σ H Q=>t σ H fun x H'=>∃ k,x=.bl k/\Q k H'
theorem Zgz {op:CmpOp}{r:R2}(ho:OpR X (compareOp op) r)(ha:PE X a ta)(hb:PE X b tb)(hm:behindInMarks op b=false):PT X (.Compare a [op] [b] pos) (Jx (Dd r ta tb)):=by
 intro pins s σ H Q I h
 refine wpAny_isTrue_Compare1 (Ae (ha pins s σ H _ I h) fun v s1 ⟨x,H1,I1,r1,q1⟩=>Ae (hb pins s1 σ H1 _ I1 q1) fun u s2 ⟨y,H2,I2,r2,q2⟩ =>
  Ae (ho pins s2 σ H2 x y v u _ I2 r1 r2 q2) fun c s3 ⟨z,H3,I3,r3,k,e,q3⟩=>?_) hm
 subst e
 cases r3
 exact Qx ⟨H3,I3,q3⟩
noncomputable def G4 (K:Oo)(x:V)(H:Hp)(k:Bool):Prop :=
 match x with
 | .non=>k=false
 | .bl b=>k=b
 | .int i=>k=(i != 0)
 | .str y=>y.length<=sizeLine/\k=((y.length:Int) != 0)
 | .byt y=>y.size<=sizeLine/\k=((y.size:Int) != 0)
 | .ref p=>(∃ xs,SqL K H p xs/\k=!xs.isEmpty)\/(∃ xs,SqT K H p xs/\k=!xs.isEmpty)\/∃ kvs,H p=some (.dK kvs)/\k=!kvs.isEmpty
 | _=>False
theorem Zfr {κ:Type}{kvs:List (κ×V)}{vs:List (κ×Value)}(r:KV kvs vs):(!vs.isEmpty)=!kvs.isEmpty:=by
 cases r <;> rfl
theorem Mt {xs:List V}{its:List Value}(r:Vals xs its):(!its.toArray.isEmpty)=!xs.isEmpty:=by
 cases r <;> simp
theorem E8:(sizeLine:Nat) < 2 ^ 63:=by rw [sizeLine_eq];decide
theorem Zi2:TruR X (fun x H Q=>∃ k,G4 X.K x H k/\Q k H):=by
 intro pins s σ H x v Q I rx h
 obtain ⟨k,e,q⟩:=h
 have hl:=E8
 have hs:sizeLine=16777216:=sizeLine_eq
 cases x with
 | non =>
  cases rx
  have e':k=false:=e
  subst e'
  exact truthy_none ⟨H,I,q⟩
 | bl b =>
  cases rx
  have e':k=b:=e
  subst e'
  exact Qx ⟨H,I,q⟩
 | int i =>
  obtain ⟨t,rfl⟩:=rx
  have e':k=(i != 0):=e
  subst e'
  exact PySem.P.truthy_int ⟨H,I,q⟩
 | str y =>
  obtain ⟨t,rfl⟩:=rx
  obtain ⟨hy,e'⟩:y.length<=sizeLine/\k=((y.length:Int) != 0):=e
  subst e'
  exact PySem.P.truthy_str (by omega) ⟨H,I.tok _,q⟩
 | byt y =>
  obtain ⟨t,rfl⟩:=rx
  obtain ⟨hy,e'⟩:y.size<=sizeLine/\k=((y.size:Int) != 0):=e
  subst e'
  exact PySem.W.truthy_bytes (by omega) ⟨H,I.tok _,q⟩
 | ref p =>
  cases rx
  have e':(∃ xs,SqL X.K H p xs/\k=!xs.isEmpty)\/(∃ xs,SqT X.K H p xs/\k=!xs.isEmpty)\/∃ kvs,H p=some (.dK kvs)/\k=!kvs.isEmpty:=e
  rcases e' with ⟨xs,hx,e'⟩ | ⟨xs,hx,e'⟩ | ⟨kvs,hx,e'⟩
  ·subst e'
   obtain ⟨its,r,pl,hz⟩:=I.list hx
   have hlen:=r.length
   exact wpAny_truthy_list pl.isList (by simp only [Ou];omega) ⟨H,I.tok _,by rw [Mt r];exact q⟩
  ·subst e'
   obtain ⟨its,r,pl,hz⟩:=I.tuple hx
   have hlen:=r.length
   exact truthy_tuple pl (by simp only [Ou];omega) ⟨H,I.tok _,by rw [Mt r];exact q⟩
  ·subst e'
   obtain ⟨hz,hS,vs,r,m⟩:kvs.length<=sizeLine/\(p == sysModules)=false/\∃ vs,KV kvs vs/\s.heap.DictOf (B3 X.prog X.w) p vs:=I.hok p _ hx
   have hlen:kvs.length=vs.length:=Rr r
   exact wpAny_truthy_dict hS m (by omega) ⟨H,I.tok _,by rw [Zfr r];exact q⟩
 | _=>exact (show False from e).elim
theorem Zet (ha:PE X a ta)(he:∀ whole,isTrue a X.env whole=(do let v <- whole;standAt a.pos;holding [v] (truthy v))) :
  PT X a (fun σ H Q=>ta σ H fun x H'=>∃ k,G4 X.K x H' k/\Q k H'):=by
 intro pins s σ H Q I h
 exact isTrue_plain (Ae (ha pins s σ H _ I h) fun v s1 ⟨x,H1,I1,r1,q1⟩=>Zi2 pins s1 σ H1 x v Q I1 r1 q1) (he _)
theorem op_add_str:OpR X (binaryOp .Add) (fun x y H Q=>∃ i j,x=.str i/\y=.str j/\i.length+j.length<=sizeLine/\Q (.str (i++j)) H):=by
 intro pins s σ H x y v u Q I rx ry h
 obtain ⟨i,j,rfl,rfl,hz,q⟩:=h
 obtain ⟨t,rfl⟩:=rx
 obtain ⟨t',rfl⟩:=ry
 exact add_str (fun t' tk=>⟨.str (i++j),H,I.tok _,⟨_,rfl⟩,q⟩) hz
theorem Gu {x:V}{us:List Value}(r:Vals [x] us):∃ u,us=[u]/\RelV x u:=by
 cases r with
 | cons r1 r2=>cases r2;exact ⟨_,rfl,r1⟩
theorem Zf9:B4 X (.type "int") (fun xs H Q=>(∃ i,xs=[.int i]/\Q (.int i) H)\/∃ k,xs=[.bl k]/\Q (.int (if k then 1 else 0)) H):=by
 intro pins s σ H xs us Q I r h
 rcases h with ⟨i,rfl,q⟩ | ⟨k,rfl,q⟩
 ·obtain ⟨u,rfl,t,rfl⟩:=Gu r
  exact call_int_int ⟨.int i,H,I,⟨_,rfl⟩,q⟩
 ·obtain ⟨u,rfl,r1⟩:=Gu r
  cases r1
  exact call_int_bool ⟨.int (if k then 1 else 0),H,I.tok _,⟨_,rfl⟩,q⟩
noncomputable def LenV (K:Oo)(x:V)(H:Hp)(n:Nat):Prop :=
 match x with
 | .str y=>y.length<=sizeLine/\n=y.length
 | .byt y=>y.size<=sizeLine/\n=y.size
 | .ref p=>(∃ xs,SqL K H p xs/\n=xs.length)\/∃ xs,SqT K H p xs/\n=xs.length
 | _=>False
theorem Zhn:B4 X (.builtin "len") (fun xs H Q=>∃ x n,xs=[x]/\LenV X.K x H n/\Q (.int n) H):=by
 intro pins s σ H xs us Q I r h
 obtain ⟨x,n,rfl,e,q⟩:=h
 obtain ⟨u,rfl,rx⟩:=Gu r
 have hl:=E8
 have hs:sizeLine=16777216:=sizeLine_eq
 cases x with
 | str y =>
  obtain ⟨t,rfl⟩:=rx
  obtain ⟨hy,e'⟩:y.length<=sizeLine/\n=y.length:=e
  subst e'
  exact len_str (by omega) ⟨.int _,H,I.tok _,⟨_,rfl⟩,q⟩
 | byt y =>
  obtain ⟨t,rfl⟩:=rx
  obtain ⟨hy,e'⟩:y.size<=sizeLine/\n=y.size:=e
  subst e'
  exact PySem.W.len_bytes (by omega) ⟨.int _,H,I.tok _,⟨_,rfl⟩,q⟩
 | ref p =>
  cases rx
  have e':(∃ xs,SqL X.K H p xs/\n=xs.length)\/∃ xs,SqT X.K H p xs/\n=xs.length:=e
  rcases e' with ⟨xs,hx,e'⟩ | ⟨xs,hx,e'⟩
  ·subst e'
   obtain ⟨its,r',pl,hz⟩:=I.list hx
   have hlen:=r'.length
   exact Calls.call_len_list pl.isList (by simp only [Ou];omega) ⟨.int xs.length,H,I.tok _,⟨_,by simp only [Ou];rw [hlen]⟩,q⟩
  ·subst e'
   obtain ⟨its,r',pl,hz⟩:=I.tuple hx
   have hlen:=r'.length
   exact len_tuple pl (by simp only [Ou];omega) ⟨.int xs.length,H,I.tok _,⟨_,by simp only [Ou];rw [hlen]⟩,q⟩
 | _=>exact (show False from e).elim
end
structure ObjM (h:Heap)(x dx C:Addr)(mA:Str->Option Value):Prop where
 obj:h.get? x=some (T4 C dx)
 ns:h.Ns1 dx mA
 ne:dx≠x
theorem Zci {h:Heap}{dx:Addr}{mA:Str->Option Value}(n:h.Ns1 dx mA):∃ od,h.get? dx=some od/\∀ name,PySem.W.lookIn name od=some (mA name):=by
 obtain ⟨o,es,ep,ho,hd,hk,_,hm⟩:=n
 refine ⟨o,ho,fun name=>?_⟩
 have e:=hm name
 unfold nsFind findBy at e
 rw [<- Array.find?_toList] at e
 unfold PySem.W.lookIn
 rw [hd]
 dsimp only
 split
 ·rename_i y q
  rw [q] at e
  exact congrArg some e
 ·rename_i q
  rw [q] at e
  have a:es.toList.any (·.refKey)=false:=by
   rw [List.any_eq_false]
   intro y hy
   obtain ⟨z,t,hkey⟩:=hk y (Array.mem_toList_iff.mp hy)
   simp [DictEntry.refKey,hkey]
  have a':¬ es.toList.any (·.refKey)=true:=by rw [a];exact Oz
  rw [if_neg a']
  exact congrArg some e
theorem ObjM.look {h:Heap}{x dx C:Addr}{mA:Str->Option Value}(I:ObjM h x dx C mA):∃ od,PySem.W.InstAt h x (T4 C dx) C (some od)/\∀ name,PySem.W.lookIn name od=some (mA name) :=
 let ⟨od,ho,hl⟩:=Zci I.ns
 ⟨od,⟨I.obj,rfl,rfl,ho⟩,hl⟩
section
variable {prog:Program}{w:World}{A:Around}{E:Value->Shared->Prop}{s:Shared}{K:Oo}{x dx C f:Addr}{mA:Str->Option Value}{name:Str}{v:Value}
end
theorem RelO.some_of {v:V}{o:Option Value}(r:RelO (some v) o):∃ u,o=some u/\RelV v u:=by
 cases o with
 | none=>exact (show False from r).elim
 | some u=>exact ⟨u,rfl,r⟩
section
variable {P:Program}{w:World}{H H':Hp}{h h':Heap}{a C dx:Addr}{fs fs':List (Str×V)}
theorem Zcq (hok:HOk P w H h)(e:H a=some (.ins C dx fs)):∃ mA,ObjM h a dx C mA/\(∀ f,RelO (fs.lookup f) (mA f))/\PySem.Within mA (fs.map (·.1))/\fs.length<=1000/\H dx=some (.own a):=by
 obtain ⟨d,z,ne,ob,mA,n,r,q⟩:=(show ObjOk P w H h a (.ins C dx fs) from hok a _ e)
 exact ⟨mA,⟨ob,n,ne⟩,r,q,z,d⟩
end
structure Cls (K:Oo)(C:Addr):Prop where
 pg:PySem.W.plainGet K C Str.empty=true
 hd:PySem.W.hasDictIn K C=true
 po:PySem.W.plainOver K C=true
 sa:PySem.W.findIn K (.ref C) "__setattr__" = some (some (.builtin "object.__setattr__"))
theorem Cls.get {K:Oo}{C:Addr}(c:Cls K C)(f:Str):PySem.W.plainGet K C f=true:=c.pg
section
variable {X:Cx}{pins:List (Addr×Obj)}{σ:St}{H:Hp}{s:Shared}{a C dx:Addr}{fs:List (Str×V)}{f:Str}{v:V}{A:Around}{E:Value->Shared->Prop}
end
section
variable {X:Cx}{o e value:Expr}{f:Str}{pos pos' tpos:Pos}{ta tv:TE}
end
section
variable {X:Cx}{pins:List (Addr×Obj)}{σ:St}{H:Hp}{s:Shared}{A:Around}{E:Value->Shared->Prop}{Q:Value->Shared->Prop}{c:Value}{b:Bool}
inductive Cf (K:Oo)(H:Hp):V->Value->Prop where
 | non:Cf K H .non (.type "NoneType")
 | bl (x:Bool):Cf K H (.bl x) (.type "bool")
 | int (i:Int):Cf K H (.int i) (.type "int")
 | str (x:Str):Cf K H (.str x) (.type "str")
 | flt (x:UInt64):Cf K H (.flt x) (.type "float")
 | lst {a:Addr} {xs:List V} (e:H a=some (.lst xs)):Cf K H (.ref a) (.type "list")
 | frz {a:Addr} {o:Obj} {xs:List V} (e:H a=some (.frz o (.lst xs))):Cf K H (.ref a) (.type "list")
 | tup {a:Addr} {xs:List V} (e:H a=some (.tup xs)):Cf K H (.ref a) (.type "tuple")
 | dK {a:Addr} {kvs:List (Ah×V)} (e:H a=some (.dK kvs)):Cf K H (.ref a) (.type "dict")
 | dT {a:Addr} {kvs:List (List Ah×V)} (e:H a=some (.dT kvs)):Cf K H (.ref a) (.type "dict")
 | ins {a C dx:Addr} {fs:List (Str×V)} (e:H a=some (.ins C dx fs)) (cl:Cls K C) (ha:PySem.W.findIn K (.ref C) "__class__" = some (some (.builtin "object.__class__")))
   (hn:PySem.W.specialIn K (.builtin "object.__class__") "__get__" = some (some (.builtin "getset_descriptor.__get__"))) (htk:PySem.W.takesIn K (.builtin "object.__class__")=some true)
   (hm:PySem.W.mroIn K C (.type "object")=some true):Cf K H (.ref a) (.ref C)
theorem Zc8 {x:V}{u t:Value}(I:Inv X pins σ H s)(rx:RelV x u)(ty:Cf X.K H x t)(e:Rp X.K t c=some b)(h:∀ tk,Q (.bool b) { s with toks:=tk }) :
  wpAny (model X.prog X.w) A (call (.builtin "isinstance") [u,c]) Q E s:=by
 cases ty with
 | non=>cases (show u=Value.none from rx);exact Pl PySem.W.kitx_none I.kIn True.intro e (fun z=>nomatch z) h
 | bl y=>cases (show u=Value.bool y from rx);exact Pl PySem.W.kitx_bool I.kIn True.intro e (fun z=>nomatch z) h
 | int i=>obtain ⟨t,q⟩:=(show ∃ t,u=Value.int i t from rx);cases q;exact Pl PySem.W.kitx_int I.kIn True.intro e (fun z=>nomatch z) h
 | str y=>obtain ⟨t,q⟩:=(show ∃ t,u=Value.str y t from rx);cases q;exact Pl PySem.W.kitx_str I.kIn True.intro e (fun z=>nomatch z) h
 | flt y=>obtain ⟨t,q⟩:=(show ∃ t,u=Value.float y t from rx);cases q;exact Pl PySem.W.kitx_float I.kIn True.intro e (fun z=>nomatch z) h
 | @lst a xs ea =>
  cases (show u=Value.ref a from rx)
  obtain ⟨_,_,n,_,h1⟩:=(show ObjOk X.prog X.w H s.heap a (.lst xs) from I.hok a _ ea)
  exact Pl Tu I.kIn ⟨_,h1,rfl⟩ e (fun z=>nomatch z) h
 | @frz a ob xs ea =>
  cases (show u=Value.ref a from rx)
  obtain ⟨_,_,_,n,_,h1⟩:=(show ObjOk X.prog X.w H s.heap a (.frz ob (.lst xs)) from I.hok a _ ea)
  exact Pl Tu I.kIn ⟨_,h1,rfl⟩ e (fun z=>nomatch z) h
 | @tup a xs ea =>
  cases (show u=Value.ref a from rx)
  obtain ⟨_,_,_,p⟩:=(show ObjOk X.prog X.w H s.heap a (.tup xs) from I.hok a _ ea)
  obtain ⟨o,h1,h2,_⟩:=p
  exact Pl PySem.W.kitx_tuple I.kIn ⟨o,h1,h2⟩ e (fun z=>nomatch z) h
 | @dK a kvs ea =>
  cases (show u=Value.ref a from rx)
  obtain ⟨_,_,vs,_,p⟩:=(show ObjOk X.prog X.w H s.heap a (.dK kvs) from I.hok a _ ea)
  obtain ⟨o,es,ep,h1,h2,_⟩:=p
  exact Pl PySem.W.kitx_dict I.kIn ⟨o,h1,h2.1⟩ e (fun z=>nomatch z) h
 | @dT a kvs ea =>
  cases (show u=Value.ref a from rx)
  obtain ⟨_,_,xs,_,o,es,ep,h1,h2,_⟩:=(show ObjOk X.prog X.w H s.heap a (.dT kvs) from I.hok a _ ea)
  exact Pl PySem.W.kitx_dict I.kIn ⟨o,h1,h2.1⟩ e (fun z=>nomatch z) h
 | @ins a C dx fs ea cl ha hn htk hm =>
  cases (show u=Value.ref a from rx)
  obtain ⟨mA,O,_⟩:=Zcq I.hok ea
  obtain ⟨od,J,_⟩:=O.look
  exact Pl (PySem.W.kitx_own (cl.get _) cl.hd ha hn htk hm) I.kIn J e (fun z=>nomatch z) h
end
structure Room (k:Nat)(A:Around):Prop where
 hd:A.handled=none
 dp:A.depth+3 * k+5 < recursionLimit
 un:A.units+16 * k+200 < cLine
theorem Room.mono {j k:Nat}{A:Around}(r:Room k A)(h:j<=k):Room j A:=⟨r.hd,by have:=r.dp;omega,by have:=r.un;omega⟩
theorem Room.deeper {k:Nat}{A:Around}(r:Room (k+1) A)(env:Env):Room k (A.deeper env) :=
 ⟨r.hd,by have:=r.dp;show A.depth+1+3 * k+5 < _;omega,by have:=r.un;show A.units+3+16 * k+200 < _;omega⟩
theorem Room.depth {k:Nat}{A:Around}(r:Room k A):A.depth < recursionLimit:=by have:=r.dp;omega
noncomputable def Kw:TA:=fun _ H Q=>Q [] H
noncomputable def Jm (ta:TE)(tr:TA):TA:=fun σ H Q=>ta σ H fun x H1=>tr σ H1 fun xs H2=>Q (x::xs) H2
section
variable {X:Cx}{e:Expr}{es:List Expr}{te:TE}{t:TA}{pos:Pos}
theorem Zay:PA X [] Kw:=fun _ _ _ _ H Q I h=>Si ⟨[],H,I,.nil,h⟩
theorem Np (ha:PE X e te)(hr:PA X es t)(hs:starEach (e::es) X.env=(false,eval e X.env)::starEach es X.env:=by rfl):PA X (e::es) (Jm te t):=by
 intro pos pins s σ H Q I h
 rw [hs]
 show wpAny _ _ (spliced ((false,eval e X.env)::backTo pos (starEach es X.env))) _ _ s
 refine Rh (Ae (ha pins s σ H _ I h) fun u s1 zq=>?_)
 obtain ⟨x,H1,I1,r1,q1⟩:=zq
 exact Ae (hr pos pins s1 σ H1 _ I1 q1) fun us s2 ⟨xs,H2,I2,r2,q2⟩=>⟨x::xs,H2,I2,.cons r1 r2,q2⟩
noncomputable def Lz (t:TA):TE:=fun σ H Q=>t σ H fun xs H1=>xs.length<=sizeLine/\∀ p,H1 p=none->Q (.ref p) (upd H1 p (.tup xs))
noncomputable def Kg (t:TA):TE:=fun σ H Q=>t σ H fun xs H1=>xs.length<=sizeLine/\∀ p,H1 p=none->Q (.ref p) (upd H1 p (.lst xs))
theorem Zdt {x1}(h:PA X es t):PE X (.Tuple es x1 pos) (Lz t):=by
 intro pins s σ H Q I hq
 refine wpAny_Tuple_spliced (Ae (h pos pins s σ H _ I hq) fun us s1 ⟨xs,H1,I1,r,z,q⟩=>⟨by rw [<- r.length];exact z,?_⟩)
 have hf:H1 s1.heap.objs.size=none:=I1.hok.fresh (Oq _)
 refine ⟨.ref s1.heap.objs.size,upd H1 s1.heap.objs.size (.tup xs),I1.laid (t':=s1.toks) (fun b u e=>Ov _ e) (Oq _) ?_,rfl,q _ hf⟩
 exact ⟨z,us,r,⟨_,O6 _ rfl,rfl,_,rfl⟩⟩
theorem Zdu (h:PA X es t):PE X (.List es pos) (Kg t):=by
 intro pins s σ H Q I hq
 refine wpAny_List_spliced (Ae (h pos pins s σ H _ I hq) fun us s1 ⟨xs,H1,I1,r,z,q⟩=>⟨by rw [<- r.length];exact z,?_⟩)
 have hf:H1 s1.heap.objs.size=none:=I1.hok.fresh (Oq _)
 refine ⟨.ref s1.heap.objs.size,upd H1 s1.heap.objs.size (.lst xs),I1.laid (t':=s1.toks) (fun b u e=>Ov _ e) (Oq _) ?_,rfl,q _ hf⟩
 exact ⟨z,us,0,r,O6 _ rfl⟩
end
noncomputable abbrev Sp:=List V->Hp->VK->XK->Prop
noncomputable abbrev Cd:=List Env->Hp->Shared->XK->Value->Shared->Prop
structure Ho (P:Program)(w:World)(K:Oo)(mg:Str->Option Value)(base:Heap)(A:Around)(outer:List Env)(s:Shared)(H:Hp):Prop where
 frames:A.frames=some outer
 mod:Mod K mg base
 bs:∀ b o,base.get? b=some o->s.heap.get? b=some o/\H b=none
 bsz:base.objs.size<=s.heap.objs.size
 funs:s.heap.FunFrames base outer
 frf:∀ b∈Cb outer,H b=none
 hok:HOk P w H s.heap
 bare:AllBare s.gens
noncomputable def CE (outer:List Env)(P:Program)(w:World)(H:Hp)(s:Shared)(Q:VK)(u:Value)(s':Shared):Prop :=
 ∃ v H',s'.os=s.os/\AllBare s'.gens/\Un (Cb outer) [] H H' s.heap s'.heap/\HOk P w H' s'.heap/\RelV v u/\Q v H'
noncomputable def CR (CX:Cd)(outer:List Env)(P:Program)(w:World)(H:Hp)(s:Shared)(Q:VK)(E:XK)(r:Result)(s':Shared):Prop :=
 match r with
 | .ok (.ret u)=>CE outer P w H s Q u s'
 | .ok _=>False
 | .error e=>CX outer H s E e s'
structure Az (P:Program)(w:World)(K:Oo)(mg:Str->Option Value)(base:Heap)(CX:Cd)(k:Nat)(f:Addr)(fd:FuncData)(ps:List Str)(sp:Sp):Prop where
 len:∀ vs H Q E,sp vs H Q E->vs.length=ps.length
 run:∀(A:Around)(outer:List Env)(s:Shared)(H:Hp)(args:Args)(us:List Value)(vs:List V)(Q:VK)(E:XK),Room k A->Ho P w K mg base A outer s H->BindsTo s fd args (ps.zip us)->Vals vs us->sp vs H Q E ->
  codeAny (model P w) A (.call (.ref f) args) (CR CX outer P w H s Q E) s
section
variable {X:Cx}{pins:List (Addr×Obj)}{σ:St}{H:Hp}{s s':Shared}
theorem Inv.env0 (I:Inv X pins σ H s):Ho X.prog X.w X.K X.mg X.base X.A X.stack s H :=
 ⟨I.ok.frames,I.ok.mod,I.bs,Pa I.ok.bsz I.sz,I.stack,I.stkFree,I.hok,I.bare⟩
theorem Inv.after {Q:VK}{u:Value}(I:Inv X pins σ H s)(h:CE X.stack X.prog X.w H s Q u s'):EP X pins σ Q u s':=by
 obtain ⟨v,H',os,bare,un,hok,r,q⟩:=h
 obtain ⟨hh,g,d,t,os'⟩:=s'
 obtain rfl:os'=s.os:=os
 exact ⟨v,H',I.call (h':=hh) (g':=g) (d':=d) (t':=t) (ch:=[]) un hok bare (fun b z=>absurd z (by simp)),r,q⟩
end
noncomputable def Hy (sp:Sp)(dvs:List V)(E:XK)(t:TA):TE:=fun σ H Q=>t σ H fun vs H1=>sp (vs++dvs) H1 Q E
noncomputable def Binds (K:Oo)(fd:FuncData)(ps:List Str)(ds:List Value):Prop :=
 ∀(s:Shared)(us:List Value),K.In s.heap->(us++ds).length=ps.length->BindsTo s fd ⟨us,[]⟩ (ps.zip (us++ds))
theorem Binds.all {K:Oo}{fd:FuncData}{ps:List Str}(h:∀ us:List Value,us.length=ps.length->bindArgs fd ⟨us,[]⟩=pure (ps.zip us)):Binds K fd ps []:=fun s us _ hl=>by
 rw [P0] at hl ⊢
 exact .of_eq (h us hl)
noncomputable def Jc (CX:Cd)(X:Cx)(E:XK):Prop:=∀(pins:List (Addr×Obj))(σ:St)(H:Hp)(s:Shared)(e:Value)(s':Shared),Inv X pins σ H s->CX X.stack H s E e s'->X.xe e s'
section
variable {X:Cx}{CX:Cd}{k:Nat}{f C:Addr}{fd:FuncData}{ps:List Str}{sp:Sp}{dvs:List V}{ds:List Value}{E:XK}{x m:Str}{p pos apos:Pos}{e o:Expr}{es:List Expr}{ta:TE}{t:TA}
theorem Zf0 {pins:List (Addr×Obj)}{σ:St}{H:Hp}{s:Shared}{Q:VK}{us:List Value}{vs:List V}(F:Az X.prog X.w X.K X.mg X.base CX k f fd ps sp)(hr:Room k X.A)(hb:Binds X.K fd ps ds)(hd:Vals dvs ds)(hx:Jc CX X E)
  (I:Inv X pins σ H s) (r:Vals vs us) (h:sp (vs++dvs) H Q E):wpAny (model X.prog X.w) X.A (call (.ref f) us) (EP X pins σ Q) X.xe s:=by
 have r2:Vals (vs++dvs) (us++ds):=r.append hd
 have hl:(us++ds).length=ps.length:=by rw [<- r2.length];exact F.len _ _ _ _ h
 refine wpAny_call (codeAny_mono (F.run X.A X.stack s H ⟨us,[]⟩ (us++ds) (vs++dvs) Q E hr I.env0 (hb s us I.kIn hl) r2 h) fun r s' hq=>?_)
 cases r with
 | error e=>exact hx pins σ H s e s' I hq
 | ok fl =>
  cases fl with
  | ret u=>exact I.after hq
  | next=>exact Pu hq
  | brk=>exact Pu hq
  | cont=>exact Pu hq
theorem Zjh (F:Az X.prog X.w X.K X.mg X.base CX k f fd ps sp)(hr:Room k X.A)(hg:Gl X x)(hm:X.mg x=some (.ref f))(hk:Rq X.K (.ref f)=true)(hb:Binds X.K fd ps ds)(hd:Vals dvs ds)(hx:Jc CX X E)
  (ha:PA X (e::es) t) (hdb:(x == ("__debug__" : Str))=false:=by decide) (he:starEach (e::es) X.env=(false,eval e X.env)::starEach es X.env:=by rfl) (hpl:(backTo pos (starEach es X.env)).any (·.1)=false:=by rfl) :
  PE X (.Call (.Name x p) (e::es) [] pos) (Hy sp dvs E t):=by
 intro pins s σ H Q I h
 refine Tq (Ny I hg hm ?_ hdb)
 refine PySem.W.callWith_K (h₀:=X.base) I.ok.mod.kin hk (Ae (ha pos pins s σ H _ I h) fun us s1 zq=>?_) he hpl
 obtain ⟨vs,H1,I1,r,q⟩:=zq
 refine ⟨I1.kIn,?_⟩
 exact Zf0 F hr hb hd hx I1 r q
end
section
variable {X:Cx}{CX:Cd}{k:Nat}{f C:Addr}{fd:FuncData}{ps ks:List Str}{sp:Sp}{E:XK}{x m:Str}{p pos apos kpos:Pos}{e o:Expr}{es:List Expr}{kws:List Keyword}{te ta:TE}{t tk:TA}{nm:Option Str}
variable {g:List Value->List Value->List Value}{gV:List V->List V->List V}
end
structure Bg (N P:List Str)(sc:Scope):Prop where
 kind:sc.kind=.function
 co:sc.isCoroutine=false
 gen:sc.isGenerator=false
 nd:N.Nodup
 pre:N.take P.length=P
 par:∀ x∈P,sc.names.lookup x=some .local\/sc.names.lookup x=some .cell
 nofree:∀ y∈sc.names,y.2≠.free
theorem Mv {kindOf:Str->Option NameKind}{x:Str}:∀{binds:List (Str×Value)}{m:Str->Option Value},(∀ v,(x,v) ∉ binds)->bindL kindOf binds m x=m x
 | [],_,_=>rfl
 | (n,v)::r,m,h=>by
  unfold bindL
  rw [Mv fun w hw=>h w (Qt _ hw)]
  split
  ·have:x≠n:=by rintro rfl;exact h v Sh
   simp [this]
  ·rfl
theorem Nk {kindOf:Str->Option NameKind}{x:Str}:∀{binds:List (Str×Value)}{m:Str->Option Value},(∀ v,(x,v) ∉ binds)->bindC kindOf binds m x=m x
 | [],_,_=>rfl
 | (n,v)::r,m,h=>by
  unfold bindC
  rw [Nk fun w hw=>h w (Qt _ hw)]
  split
  ·rfl
  ·have:x≠n:=by rintro rfl;exact h v Sh
   simp [this]
theorem N2 {kindOf:Str->Option NameKind}{x:Str}{v:Value}:∀{P:List Str}{vs:List Value}{i:Nat}{m:Str->Option Value},P.Nodup->P[i]?=some x->vs[i]?=some v->kindOf x=some .local ->
  bindL kindOf (P.zip vs) m x=some v
 | [],_,_,_,_,h,_,_=>by simp at h
 | _::_,[],_,_,_,_,h,_=>by simp at h
 | p::P,w::vs,0,m,nd,h1,h2,hk=>by
  simp at h1 h2;subst h1;subst h2
  show bindL kindOf ((p,w)::P.zip vs) m p=_
  unfold bindL
  rw [Mv fun v hv=>(Sq.mp nd).1 (T7 hv).1,if_pos hk]
  simp
 | p::P,w::vs,i+1,m,nd,h1,h2,hk=>by
  show bindL kindOf ((p,w)::P.zip vs) m x=_
  unfold bindL
  exact N2 (i:=i) (Sq.mp nd).2 (by simpa using h1) (by simpa using h2) hk
theorem Oe {kindOf:Str->Option NameKind}{x:Str}{v:Value}:∀{P:List Str}{vs:List Value}{i:Nat}{m:Str->Option Value},P.Nodup->P[i]?=some x->vs[i]?=some v->kindOf x≠some .local ->
  bindC kindOf (P.zip vs) m x=some v
 | [],_,_,_,_,h,_,_=>by simp at h
 | _::_,[],_,_,_,_,h,_=>by simp at h
 | p::P,w::vs,0,m,nd,h1,h2,hk=>by
  simp at h1 h2;subst h1;subst h2
  show bindC kindOf ((p,w)::P.zip vs) m p=_
  unfold bindC
  rw [Nk fun v hv=>(Sq.mp nd).1 (T7 hv).1,if_neg hk]
  simp
 | p::P,w::vs,i+1,m,nd,h1,h2,hk=>by
  show bindC kindOf ((p,w)::P.zip vs) m x=_
  unfold bindC
  exact Oe (i:=i) (Sq.mp nd).2 (by simpa using h1) (by simpa using h2) hk
noncomputable def Dk (N:List Str)(vs:List V):St:=vs.map some++Pj (N.length - vs.length) none
noncomputable def Eo (CX:Cd)(P:Program)(w:World)(K:Oo)(mg:Str->Option Value)(base:Heap)(N:List Str)(qual:Str)(scope:Scope)(f:Addr)(cd:Value)(A:Around)(outer:List Env)(s:Shared)(H:Hp)(E:XK):Cx where
 prog:=P
 w:=w
 K:=K
 mg:=mg
 base:=base
 A:=A.deeper (envOfC qual scope s.heap.objs.size f cd)
 N:=N
 s₀:=s
 H₀:=H
 env:=envOfC qual scope s.heap.objs.size f cd
 outer:=outer
 stack:=envOfC qual scope s.heap.objs.size f cd::outer
 ex:=[]
 calm:=true
 fn:=fun _=>true
 pn:=[]
 xe:=fun e s'=>wpAny (model P w) (A.deeper (envOfC qual scope s.heap.objs.size f cd)) (leaving (envOfC qual scope s.heap.objs.size f cd) e) (fun _ s''=>CX outer H s E e s'') (fun e' s''=>CX outer H s E e' s'') s'
theorem Ku {sc:Scope}{n:Nat}{x:Str}(h:sc.names.lookup x=some .cell):∃ c,(cellsFrom n sc.names []).lookup x=some c:=by
 have q:=PySem.W.cellsFrom_some sc.names n [] (.inl h)
 exact Qr.mp q
theorem Zfs {CX:Cd}{P:Program}{w:World}{K:Oo}{mg:Str->Option Value}{base:Heap}{N ps:List Str}{qual:Str}{scope:Scope}{f:Addr}{cd:Value}{A:Around}{outer:List Env}{s s1:Shared}{H:Hp}{E:XK}{us:List Value}{vs:List V}
  (S:Bg N ps scope) (hd:A.handled=none) (e0:Ho P w K mg base A outer s H) (hl:vs.length=ps.length) (r:Vals vs us)
  (x:InCallC s s.heap.objs.size (bindL (envOfC qual scope s.heap.objs.size f cd).kindOf (ps.zip us) fun _=>none) (cellsFrom (s.heap.objs.size+1) scope.names []) (bindC (envOfC qual scope s.heap.objs.size f cd).kindOf (ps.zip us) fun _=>none) s1) :
  Inv (Eo CX P w K mg base N qual scope f cd A outer s H E) [] (Dk N vs) H s1:=by
 have hpl:ps.length<=N.length:=by have:=congrArg S8 S.pre;rw [Pz] at this;omega
 obtain ⟨h1,tk,rfl,hk⟩:=x.done
 have noA:∀ b:Addr,b ∉ (Eo CX P w K mg base N qual scope f cd A outer s H E).ex:=fun b z=>absurd (show b∈([]:List Addr) from z) (by simp)
 refine ⟨⟨e0.mod,S.kind,rfl,rfl,Oq _,fun y z c h1 h2=>?_,fun y hy=>?_,fun y c _ h=>?_,fun _=>hd,Around.frames_deeper e0.frames,.inr ⟨rfl,rfl⟩,fun b z=>absurd z (noA b),e0.bs,e0.bsz,fun b _ _=>noA b,fun b z=>absurd z (noA b),e0.funs,e0.frf⟩,
  rfl,e0.bare,Un.kept hk,⟨_,x.toInCall.ns,fun i y v h1 h2 h3=>?_⟩,fun y c h=>⟨_,x.cell y c h⟩,e0.hok.fresh (Oq _),fun y c h=>?_,fun p hp=>absurd (show p∈([]:List (Addr×Obj)) from hp) (by simp),e0.hok.kept hk,?_⟩
 ·exact name_of_addr x.apart (Qg h1) (Qg h2)
 ·have hy:scope.names.lookup y=some .cell\/scope.names.lookup y=some .free:=hy
  rcases hy with hy | hy
  ·exact Ku hy
  ·exact absurd rfl (S.nofree _ (Qg hy))
 ·exact Sy (x.above y c (Qg h))
 ·have hi:i < vs.length:=by
   unfold Dk at h2
   by_cases hi:i < vs.length
   ·exact hi
   ·rw [Qp (by simpa using hi)] at h2
    rw [List.getElem?_replicate] at h2
    split at h2 <;> cases h2
  have ha:vs[i]?=some v:=by
   unfold Dk at h2
   rw [Qf (by simpa using hi),Pg] at h2
   cases e:vs[i]? with
   | none=>rw [e] at h2;cases h2
   | some a=>rw [e] at h2;cases h2;rfl
  obtain ⟨u,hu,rv⟩:=r.get ha
  have hp:ps[i]?=some y:=by
   rw [<- S.pre,List.getElem?_take_of_lt (by omega)];exact h1
  have ndP:ps.Nodup:=by rw [<- S.pre];exact S.nd.sublist (List.take_sublist _ _)
  refine ⟨u,rv,?_⟩
  rcases S.par y (Px hp) with k | k
  ·exact .inl ⟨k,N2 ndP hp hu k⟩
  ·obtain ⟨c,e⟩:=Ku (n:=s.heap.objs.size+1) k
   refine .inr ⟨.inl k,c,e,?_⟩
   have q:=x.cell y c e
   rw [Oe ndP hp hu (by show scope.names.lookup y≠_;rw [k];decide)] at q
   exact q
 ·exact e0.hok.fresh (Sy (x.above y c (Qg h)))
 ·unfold Dk
  show _=N.length
  rw [O3,Ox,List.length_replicate]
  omega
theorem Zhu {CX:Cd}{P:Program}{w:World}{K:Oo}{mg:Str->Option Value}{base:Heap}{k:Nat}{f:Addr}{name qual:Str}{params:Arguments}{body:List Stmt}{scope:Scope}{dV kV doc pm cdv ct oc:Value}{an od:Option Addr}
  {osl:Array (Option Value)} {N ps:List Str} {sp:Sp} (lk:K.lookup f=some ⟨oc,od,.func (Qd name qual params body scope dV kV doc pm an cdv ct),osl⟩) (hcd:PySem.W.codeIn K cdv qual=true) (S:Bg N ps scope)
  (len:∀ vs H Q E,sp vs H Q E->vs.length=ps.length)
  (hbody:∀(A:Around)(outer:List Env)(s:Shared)(H:Hp)(vs:List V)(Q:VK)(E:XK),Room k (A.deeper (envOfC qual scope s.heap.objs.size f cdv))->sp vs H Q E ->
   ∃ t,PSs (Eo CX P w K mg base N qual scope f cdv A outer s H E) body t/\t { nx:=fun _ H'=>Q .non H',rt:=Q } (Dk N vs) H) :
  Az P w K mg base CX (k+1) f (Qd name qual params body scope dV kV doc pm an cdv ct) ps sp:=by
 refine ⟨len,fun A outer s H args us vs Q E hr e0 hb r hsp=>?_⟩
 have hl:=len _ _ _ _ hsp
 have KX:K.In s.heap:=e0.mod.kin.keeps fun b o e=>(e0.bs b o e).1
 have lim:s.heap.NoLimit:=e0.mod.nolimit.keeps fun b o e=>(e0.bs b o e).1
 have hkind:∀ y∈ps.zip us,scope.names.lookup y.1=some .local\/(scope.names.lookup y.1=some .cell/\((cellsFrom (s.heap.objs.size+1) scope.names []).lookup y.1).isSome=true):=fun ⟨n,v⟩ hy=>by
  rcases S.par n (T7 hy).1 with q | q
  ·exact .inl q
  ·exact .inr ⟨q,PySem.W.cellsFrom_some _ _ _ (.inl q)⟩
 refine codeAny_call_function hr.depth (KX _ _ lk) rfl S.co S.gen rfl (PySem.W.codeRec_of KX hcd) (hb _ _ _ _ ?_)
 refine wpAny_newFunctionEnv_cells S.kind hkind fun env he s1 x=>?_
 subst he
 refine ⟨lim.keeps x.toInCall.keep,codeAny_func ?_⟩
 obtain ⟨t,ht,hq⟩:=hbody A outer s H vs Q E (hr.deeper _) hsp
 have I:Inv (Eo CX P w K mg base N qual scope f cdv A outer s H E) [] (Dk N vs) H s1:=Zfs S hr.hd e0 hl r x
 refine Q7 (ht [] s1 (Dk N vs) H _ I hq) (fun fl s' hs=>?_) fun e s' hs=>hs
 have fin:∀{σ':St}{H':Hp}{v:V}{u:Value},Inv (Eo CX P w K mg base N qual scope f cdv A outer s H E) [] σ' H' s'->RelV v u->Q v H'->CE outer P w H s Q u s' :=
  fun {σ' H' v u} J rv q=>⟨v,H',J.os,J.bare,J.base,J.hok,rv,q⟩
 cases fl with
 | ret u =>
  obtain ⟨v,σ',H',J,rv,q⟩:=hs
  exact fin J rv q
 | next =>
  obtain ⟨σ',H',J,q⟩:=hs
  exact fin (v:=V.non) (u:=Value.none) J rfl q
 | brk =>
  obtain ⟨_,_,_,q⟩:=hs
  exact Pu q
 | cont =>
  obtain ⟨_,_,_,q⟩:=hs
  exact Pu q
section
variable {X:Cx}{x:Str}{p pos:Pos}{e:Expr}{es:List Expr}{t:TA}{id T:String}{r:List V->Hp->VK->Prop}
noncomputable def tCB (r:List V->Hp->VK->Prop)(t:TA):TE:=fun σ H Q=>t σ H fun vs H1=>r vs H1 Q
theorem Zby (hc:B4 X (.builtin id) r)(hg:Gl X x)(hm:X.mg x=none)(hv:bootBuiltins x=some (.builtin id))(ha:PA X (e::es) t)(hn:x ≠ "__name__" := by decide)(hdb:(x == ("__debug__" : Str))=false:=by decide)
  (he:starEach (e::es) X.env=(false,eval e X.env)::starEach es X.env:=by rfl) (hpl:(backTo pos (starEach es X.env)).any (·.1)=false:=by rfl):PE X (.Call (.Name x p) (e::es) [] pos) (tCB r t):=by
 intro pins s σ H Q I h
 refine Tq (C4 I hg hm hv ?_ hn hdb)
 exact PyProof.Rows.callWith_builtin1 (Ae (ha pos pins s σ H _ I h) fun us s1 ⟨vs,H1,I1,r1,q1⟩=>hc pins s1 σ H1 vs us Q I1 r1 q1) he hpl
theorem Zf3 (hc:B4 X (.type T) r)(hg:Gl X x)(hm:X.mg x=none)(hv:bootBuiltins x=some (.type T))(ha:PA X (e::es) t)(hn:x ≠ "__name__" := by decide)(hdb:(x == ("__debug__" : Str))=false:=by decide)
  (he:starEach (e::es) X.env=(false,eval e X.env)::starEach es X.env:=by rfl) (hpl:(backTo pos (starEach es X.env)).any (·.1)=false:=by rfl):PE X (.Call (.Name x p) (e::es) [] pos) (tCB r t):=by
 intro pins s σ H Q I h
 refine Tq (C4 I hg hm hv ?_ hn hdb)
 exact Pw (Ae (ha pos pins s σ H _ I h) fun us s1 ⟨vs,H1,I1,r1,q1⟩=>hc pins s1 σ H1 vs us Q I1 r1 q1) he hpl
end
end L2
namespace HT
open PySem PyProof.Rows
section
open PySem.SeqAt
open PySem.AutoSeq1 (wpAny_loadPart')
open PySem.MeetsSeq PySem.MeetsSeq2 PySem.MeetsSeq3
end
section
variable {prog:Program}{w:World}{A:Around}{E:Value->Shared->Prop}{s:Shared}
theorem cat_tup {t b:Addr}{vs ws:List Value}{Q:Value->Shared->Prop}(ht:IsTup s.heap t vs.toArray)(hb:IsTup s.heap b ws.toArray)(hv:vs≠[])
  (h1:ws=[]->Q (.ref t) s) (h2:ws≠[]->Q (.ref s.heap.objs.size) { s with heap:=s.heap.push { cls:=.type "tuple",data:=.seq (vs++ws).toArray } })
  (hsz:vs.length+ws.length<=sizeLine):wpAny (model prog w) A (binaryOp .Add (.ref t) (.ref b)) Q E s:=by
 obtain ⟨⟨cls,dd,data,sl⟩,ho,hc,n,hd⟩:=id ht
 obtain ⟨⟨cls2,dd2,data2,sl2⟩,ho2,hc2,n2,hd2⟩:=id hb
 simp only at hc hd hc2 hd2
 subst hc hd hc2 hd2
 have e:vs.toArray++ws.toArray=(vs++ws).toArray:=by simp
 by_cases hw:ws=[]
 ·exact Sz ⟨_,ho,rfl⟩ ⟨_,ho2,rfl⟩ Sm Sw Sd Sa (R7 _ _)
   (tuple_addW1 t b vs.toArray ws.toArray n n2 dd dd2 sl sl2 (by simpa using hv) (by simp [hw])) ⟨ho,ho2,h1 hw⟩
 ·refine Sz ⟨_,ho,rfl⟩ ⟨_,ho2,rfl⟩ Sm Sw Sd Sa (R7 _ _)
   (tuple_addW2 t b vs.toArray ws.toArray n n2 dd dd2 sl sl2 (by simpa using hv) (by simpa using hw) (by rw [Ou,Ou];exact hsz)) ⟨ho,ho2,?_⟩
  rw [e]
  exact h2 hw
noncomputable def sIx (n d:Nat):Option Int->Nat
 | none=>d
 | some v=>if v < 0 then (v+(n:Int)).toNat else min v.toNat n
theorem sIx_none (n d:Nat):sIx n d none=d:=rfl
theorem sIx_nat (n d k:Nat):sIx n d (some (k:Int))=min k n:=by
 show (if (k:Int) < 0 then ((k:Int)+(n:Int)).toNat else min (k:Int).toNat n)=min k n
 rw [if_neg (by omega),Sj]
theorem Zil (n d:Nat)(hd:d<=n)(o:Option Int):sIx n d o<=n:=by
 cases o with
 | none=>exact hd
 | some v =>
  show (if v < 0 then (v+(n:Int)).toNat else min v.toNat n)<=n
  by_cases hv:v < 0
  ·rw [if_pos hv];omega
  ·rw [if_neg hv];exact Nat.min_le_right _ _
theorem M4 (v:Int)(n d:Nat):(if v < 0 then max (v+(n:Int)) 0 else min v (n:Int))=((sIx n d (some v):Nat):Int):=by
 show (if v < 0 then max (v+(n:Int)) 0 else min v (n:Int))=(((if v < 0 then (v+(n:Int)).toNat else min v.toNat n):Nat):Int)
 by_cases hv:v < 0
 ·simp only [if_pos hv];omega
 ·simp only [if_neg hv];omega
theorem Zel (lo hi:Option Int)(n:Nat):Td lo hi 1 (n:Int)=(((sIx n 0 lo:Nat):Int),((sIx n n hi:Nat):Int)):=by
 have h1:¬ ((1:Int) < 0):=by omega
 unfold Td
 simp only [h1,if_false]
 refine Prod.ext ?_ ?_
 ·cases lo with
  | none=>rfl
  | some v=>exact M4 v n 0
 ·cases hi with
  | none=>rfl
  | some v=>exact M4 v n n
theorem Zii (i j:Nat):R5 (i:Int) (j:Int) 1=j - i:=by
 unfold R5
 have h1:(1:Int) > 0:=by omega
 simp only [h1,if_true,Int.ediv_one]
 split <;> omega
theorem L4 {v:Value}{o:Option Int}{Q:Option Int->Shared->Prop}(p:IsPart v o)(h:Q o s):wpAny (model prog w) A (Builtin.Slice.slicePartIndex v) Q E s:=by
 cases p with
 | none=>exact slicePart_none h
 | int i t=>exact slicePart_int h
theorem Zdk {sl:Addr}{vl vu:Value}{lo hi:Option Int}{n:Nat}{Q:Int×Int×Nat->Shared->Prop}(hs:s.heap.IsSliceOf sl vl vu .none)(pl:IsPart vl lo)(pu:IsPart vu hi)
  (h:Q (((sIx n 0 lo:Nat):Int),1,sIx n n hi - sIx n 0 lo) s):wpAny (model prog w) A (Builtin.Slice.sliceApplied (.ref sl) (pure (n:Int))) Q E s:=by
 obtain ⟨os,hos,hcs,hds⟩:=id hs
 unfold Builtin.Slice.sliceApplied Builtin.Slice.sliceFields
 refine Op (Op (Pf hos hds (x:=vl) rfl (Op (Pf hos hds (x:=vu) rfl (Op (Pf hos hds (x:=.none) rfl (Ot ?_)))))))
 refine Op (slicePart_none ?_)
 show wpAny _ _ (if ((1:Int) == 0)=true then _ else _) _ _ s
 rw [if_neg (by decide)]
 refine Op (L4 pl (Op (L4 pu (Op (Ot ?_)))))
 show wpAny _ _ (match Td lo hi 1 (n:Int) with | (lo,hi)=>pure (lo,(1:Int),R5 lo hi 1)) _ _ s
 rw [Zel lo hi n]
 show wpAny _ _ (pure (((sIx n 0 lo:Nat):Int),(1:Int),R5 ((sIx n 0 lo:Nat):Int) ((sIx n n hi:Nat):Int) 1)) _ _ s
 rw [Zii]
 exact Ot h
theorem Zd6 (xs:Array Value)(i k:Nat):((O2 k).filterMap fun (m:Nat)=>xs[((i:Int)+(m:Int) * 1).toNat]?).toArray=((xs.toList.drop i).take k).toArray:=by
 have e:(fun (m:Nat)=>xs[((i:Int)+(m:Int) * 1).toNat]?)=fun m=>xs[i+m]?:=by
  funext m
  have:((i:Int)+(m:Int) * 1).toNat=i+m:=by omega
  rw [this]
 rw [e]
 have:=pick_run xs i k
 rw [List.filterMap_map] at this
 have e2:((fun x=>xs[x]?) ∘ fun x=>i+x)=fun m=>xs[i+m]?:=rfl
 rw [e2] at this
 rw [this]
theorem getItem_tuple_cut {t sl:Addr}{items:Array Value}{vl vu:Value}{lo hi:Option Int}{Q:Value->Shared->Prop}(ht:IsTup s.heap t items)(hs:s.heap.IsSliceOf sl vl vu .none)(pl:IsPart vl lo)(pu:IsPart vu hi)
  (hw:¬ (sIx items.size 0 lo=0/\sIx items.size items.size hi=items.size))
  (h:Q (.ref s.heap.objs.size) { s with heap:=s.heap.push { cls:=.type "tuple",data:=.seq ((items.toList.drop (sIx items.size 0 lo)).take (sIx items.size items.size hi - sIx items.size 0 lo)).toArray } })
  (hsz:items.size<=sizeLine):wpAny (model prog w) A (getItem (.ref t) (.ref sl)) Q E s:=by
 have htake:sizeOk (.seq ((items.toList.drop (sIx items.size 0 lo)).take (sIx items.size items.size hi - sIx items.size 0 lo)).toArray):=by
  show ((items.toList.drop (sIx items.size 0 lo)).take (sIx items.size items.size hi - sIx items.size 0 lo)).toArray.size<=sizeLine
  rw [Ou,Pz,Rk,Re]
  omega
 have hj:sIx items.size items.size hi<=items.size:=Zil _ _ (Oq _) hi
 obtain ⟨os,hos,hcs,hds⟩:=id hs
 have hTs:s.TypeIs (.ref sl) "slice" := ⟨os,hos,hcs⟩
 unfold getItem
 try with_reducible refine Qc ?_
 first | refine Op (Ot ?_) | skip
 refine Op (wpAny_sequenceKey ht.typeIs (by decide) ?_)
 refine Op (Qs (name:=Qe "__getitem__") ht.typeIs Ta
  (Qy Ta ht.typeIs entry_tuple_getitem ?_ (args_tuple_getitem _ _)))
 show wpAny _ _ (Builtin.Tuple.tupleItemsOf (.ref t) >>= _) _ _ s
 refine Op (tupleItemsOf_ ht ?_)
 refine Op (wpAny_typeOf hTs ?_)
 rw [if_pos (by decide)]
 refine Op (Zdk hs pl pu ?_)
 have hno:¬ ((((sIx items.size 0 lo:Nat):Int) == 0 && (1:Int) == 1 && (sIx items.size items.size hi - sIx items.size 0 lo) == items.size)=true):=by
  intro q
  rw [Qi,Qi] at q
  have q1:((sIx items.size 0 lo:Nat):Int)=0:=eq_of_beq q.1.1
  have q2:sIx items.size items.size hi - sIx items.size 0 lo=items.size:=eq_of_beq q.2
  exact hw ⟨by omega,by omega⟩
 show wpAny _ _ (if (((sIx items.size 0 lo:Nat):Int) == 0 && (1:Int) == 1 && (sIx items.size items.size hi - sIx items.size 0 lo) == items.size)=true then _ else _) _ _ s
 rw [if_neg hno,Zd6]
 first
  | exact Op (m:=R8 _) (Qa (Ot ⟨_,rfl,Ot h⟩) htake)
  | exact Op (m:=R8 _) (Qa (Op (Ot (Ot ⟨_,rfl,Ot h⟩))) htake)
  | exact Op (Op (m:=R8 _) (Qa (Ot (Ot ⟨_,rfl,Ot h⟩)) htake))
  | exact Op (Op (m:=R8 _) (Qa (Ot ⟨_,rfl,Ot h⟩) htake))
end
end HT
namespace L2
open PySem PySem.Spec PyProof.Rows
noncomputable abbrev TO:=St->Hp->(Option Int->Hp->Prop)->Prop
noncomputable def PO (X:Cx)(e:Option Expr)(t:TO):Prop :=
 ∀(pins:List (Addr×Obj))(s:Shared)(σ:St)(H:Hp)(Q:Option Int->Hp->Prop),Inv X pins σ H s->t σ H Q ->
  wpAny (model X.prog X.w) X.A (evalPart e X.env) (fun u s'=>∃ o H',Inv X pins σ H' s'/\IsPart u o/\Q o H') X.xe s
noncomputable def Jl:TO:=fun _ H Q=>Q none H
noncomputable def Ld (t:TE):TO:=fun σ H Q=>t σ H fun x H1=>∃ i,x=.int i/\Q (some i) H1
section
variable {X:Cx}{e:Expr}{te:TE}{lo hi:Option Expr}{tl th:TO}{pos p2:Pos}
theorem Zik:PO X none Jl:=by
 intro pins s σ H Q I h
 rw [evalPart_none]
 exact Ot ⟨none,H,I,.none,h⟩
theorem Zjt (h:PE X e te):PO X (some e) (Ld te):=by
 intro pins s σ H Q I hw
 rw [evalPart_some]
 refine Ae (h pins s σ H _ I hw) fun u s1 zq=>?_
 obtain ⟨x,H1,I1,r1,q1⟩:=zq
 obtain ⟨i,rfl,q⟩:=q1
 obtain ⟨t,rfl⟩:=r1
 exact ⟨some i,H1,I1,.int i t,q⟩
noncomputable def SlR (X:Cx)(r:V->Option Int->Option Int->Hp->VK->Prop):Prop :=
 ∀(pins:List (Addr×Obj))(s:Shared)(σ:St)(H:Hp)(x:V)(v vl vu:Value)(lo hi:Option Int)(sl:Addr)(Q:VK),Inv X pins σ H s->RelV x v->s.heap.IsSliceOf sl vl vu .none->IsPart vl lo->IsPart vu hi->r x lo hi H Q ->
  ∃ T id,typeLookup (.type T) "__getitem__" = pure (some (.builtin id))/\s.TypeIs v T/\wpAny (model X.prog X.w) X.A (getItem v (.ref sl)) (EP X pins σ Q) X.xe s
theorem SlR.or {r r':V->Option Int->Option Int->Hp->VK->Prop}(h:SlR X r)(h':SlR X r'):SlR X (fun x lo hi H Q=>r x lo hi H Q\/r' x lo hi H Q):=by
 intro pins s σ H x v vl vu lo hi sl Q I rx hs pl pu q
 rcases q with q | q
 ·exact h pins s σ H x v vl vu lo hi sl Q I rx hs pl pu q
 ·exact h' pins s σ H x v vl vu lo hi sl Q I rx hs pl pu q
noncomputable def tSl (r:V->Option Int->Option Int->Hp->VK->Prop)(te:TE)(tl th:TO):TE:=fun σ H Q=>te σ H fun x H1=>tl σ H1 fun l H2=>th σ H2 fun u H3=>r x l u H3 Q
theorem Zff {r:V->Option Int->Option Int->Hp->VK->Prop}(hr:SlR X r)(he:PE X e te)(hl:PO X lo tl)(hu:PO X hi th):PE X (.Subscript e (.Slice lo hi none p2) pos) (tSl r te tl th):=by
 intro pins s σ H Q I h
 refine Subscript_ (Ae (he pins s σ H _ I h) fun v s1 zq=>?_)
 obtain ⟨x,H1,I1,r1,q1⟩:=zq
 refine wpAny_Slice (Ae (hl pins s1 σ H1 _ I1 q1) fun vl s2 zq=>?_)
 obtain ⟨l,H2,I2,pl,q2⟩:=zq
 refine Ae (hu pins s2 σ H2 _ I2 q2) fun vu s3 zq=>?_
 obtain ⟨u,H3,I3,pu,q3⟩:=zq
 rw [evalPart_none]
 refine Ot ?_
 have I4:Inv X pins σ H3 { s3 with heap:=s3.heap.push { cls:=.type "slice",data:=.fields #[vl,vu,.none] } }:=I3.kept (t':=s3.toks) fun b ob q=>Ov _ q
 obtain ⟨T,id,hT,ht,hg⟩:=hr pins { s3 with heap:=s3.heap.push { cls:=.type "slice",data:=.fields #[vl,vu,.none] } } σ H3 x v vl vu l u s3.heap.objs.size Q I4 r1 (Heap.IsSliceOf.new ..) pl pu q3
 show wpAny (model X.prog X.w) X.A (subscriptTail e (.Slice lo hi none p2) v (.ref s3.heap.objs.size)) (EP X pins σ Q) X.xe { s3 with heap:=s3.heap.push { cls:=.type "slice",data:=.fields #[vl,vu,.none] } }
 exact tail_any (ops:=[.ref s3.heap.objs.size,v]) ht hT hg (by with_unfolding_all rfl)
noncomputable def Br (xs:List V)(lo hi:Option Int):List V:=(xs.drop (HT.sIx xs.length 0 lo)).take (HT.sIx xs.length xs.length hi - HT.sIx xs.length 0 lo)
theorem Nl (xs:List V)(lo hi:Option Int):(Br xs lo hi).length<=xs.length:=by
 unfold Br
 rw [Pz,Rk]
 omega
noncomputable def rSlT (K:Oo):V->Option Int->Option Int->Hp->VK->Prop:=fun x lo hi H Q=>∃ a xs,x=.ref a/\SqT K H a xs /\
 ¬ (HT.sIx xs.length 0 lo=0/\HT.sIx xs.length xs.length hi=xs.length)/\∀ p,H p=none->Q (.ref p) (upd H p (.tup (Br xs lo hi)))
theorem Zhs:SlR X (rSlT X.K):=by
 intro pins s σ H x v vl vu lo hi sl Q I rx hs pl pu h
 obtain ⟨a,xs,rfl,hx,hw,q⟩:=h
 cases rx
 obtain ⟨its,r,ht,hz⟩:=I.tuple hx
 have hlen:its.toArray.size=xs.length:=by rw [Ou];exact r.length.symm
 refine ⟨"tuple",_,Ta.lookup,ht.typeIs,?_⟩
 refine HT.getItem_tuple_cut ht hs pl pu (by rw [hlen];exact hw) ?_ (by rw [hlen];exact hz)
 rw [hlen]
 refine ⟨.ref s.heap.objs.size,_,I.laid (t':=s.toks) (o:=.tup (Br xs lo hi)) (fun b ob q=>Ov _ q) (Oq _) ?_,rfl,q _ (I.hok.fresh (Oq _))⟩
 exact ⟨Pa (Nl xs lo hi) hz,_,(r.drop (HT.sIx xs.length 0 lo)).take (HT.sIx xs.length xs.length hi - HT.sIx xs.length 0 lo),IsTup.new _ _⟩
noncomputable def Zcn (K:Oo):R2:=fun x y H Q=>∃ a b xs ys,x=.ref a/\y=.ref b/\SqT K H a xs/\SqT K H b ys/\xs≠[]/\xs.length+ys.length<=sizeLine /\
 (ys=[]->Q (.ref a) H)/\(ys≠[]->∀ p,H p=none->Q (.ref p) (upd H p (.tup (xs++ys))))
theorem Vals.nil_iff {xs:List V}{us:List Value}(r:Vals xs us):us=[]↔xs=[]:=by
 cases r with
 | nil=>simp
 | cons _ _=>simp
theorem Mq:OpR X (binaryOp .Add) (Zcn X.K):=by
 intro pins s σ H x y v u Q I rx ry h
 obtain ⟨a,b,xs,ys,rfl,rfl,ha,hb,hx,hz,q1,q2⟩:=h
 cases rx
 cases ry
 obtain ⟨its,r1,p1,_⟩:=I.tuple ha
 obtain ⟨its2,r2,p2,_⟩:=I.tuple hb
 refine HT.cat_tup p1 p2 (fun z=>hx (r1.nil_iff.mp z)) (fun z=>⟨.ref a,H,I,rfl,q1 (r2.nil_iff.mp z)⟩) (fun z=>?_) (by rw [<- r1.length,<- r2.length];exact hz)
 refine ⟨.ref s.heap.objs.size,_,I.laid (t':=s.toks) (o:=.tup (xs++ys)) (fun b ob q=>Ov _ q) (Oq _) ?_,rfl,q2 (fun w=>z (r2.nil_iff.mpr w)) _ (I.hok.fresh (Oq _))⟩
 exact ⟨by rw [O3];exact hz,_,r1.append r2,IsTup.new _ _⟩
end
noncomputable def Cu (n:Nat)(i:Int):Option Nat:=if 0<=i then (if i < n then some i.toNat else none) else if -(n:Int)<=i then some (i+n).toNat else none
noncomputable def B5 {α:Type}(xs:List α)(i:Int):Option α:=(Cu xs.length i).bind fun j=>xs[j]?
theorem L7 {n:Nat}{i:Int}{j:Nat}(h:Cu n i=some j):seqIndex? i n=some j/\j < n/\-(n:Int)<=i/\i < n:=by
 unfold Cu at h
 by_cases h0:0<=i
 ·rw [if_pos h0] at h
  by_cases h1:i < n
  ·rw [if_pos h1] at h
   have e:i.toNat=j:=O4 h
   exact ⟨by rw [seqIndex_of h0 h1,e],by omega,by omega,h1⟩
  ·rw [if_neg h1] at h;cases h
 ·rw [if_neg h0] at h
  by_cases h1:-(n:Int)<=i
  ·rw [if_pos h1] at h
   have e:(i+n).toNat=j:=O4 h
   exact ⟨by rw [seqIndex_neg (by omega) h1,e],by omega,h1,by omega⟩
  ·rw [if_neg h1] at h;cases h
theorem Le {α:Type}{xs:List α}{i:Int}{v:α}(h:B5 xs i=some v):∃ j,seqIndex? i xs.length=some j/\xs[j]?=some v/\j < xs.length/\-(xs.length:Int)<=i/\i < xs.length:=by
 unfold B5 at h
 cases e:Cu xs.length i with
 | none=>rw [e] at h;cases h
 | some j =>
  rw [e] at h
  obtain ⟨h1,h2,h3,h4⟩:=L7 e
  exact ⟨j,h1,h,h2,h3,h4⟩
theorem Ct {α:Type}{xs:List α}{j:Nat}{v:α}(h:xs[j]?=some v):B5 xs (j:Int)=some v:=by
 have hj:j < xs.length:=(O7.mp h).1
 have e:Cu xs.length (j:Int)=some j:=by
  unfold Cu
  rw [if_pos (by omega),if_pos (by omega)];simp
 unfold B5;rw [e];exact h
theorem Ze2 {α:Type}(xs:List α)(v:α):B5 (xs++[v]) (-1)=some v:=by
 have hl:(xs++[v]).length=xs.length+1:=by simp
 have e:Cu (xs++[v]).length (-1)=some xs.length:=by
  unfold Cu
  rw [hl,if_neg (by decide),if_pos (by omega)]
  congr 1
  omega
 unfold B5
 rw [e]
 show (xs++[v])[xs.length]?=some v
 simp
noncomputable def K9 (b:Expr):Prop:=∀ o i,subscripted b false o i=operate [o,i] (getItem o i)
noncomputable def IxR (X:Cx)(r:R2):Prop :=
 ∀(value slice:Expr)(pins:List (Addr×Obj))(s:Shared)(σ:St)(H:Hp)(x y:V)(v u:Value)(Q:VK),Inv X pins σ H s->RelV x v->RelV y u->r x y H Q ->
  subscripted slice false v u=operate [v,u] (getItem v u)->wpAny (model X.prog X.w) X.A (subscriptTail value slice v u) (EP X pins σ Q) X.xe s
noncomputable def Fm (X:Cx)(id:String)(r:V->List V->Hp->VK->Prop):Prop :=
 ∀(pins:List (Addr×Obj))(s:Shared)(σ:St)(H:Hp)(x:V)(xs:List V)(v:Value)(us:List Value)(Q:VK),Inv X pins σ H s->RelV x v->Vals xs us->r x xs H Q ->
  wpAny (model X.prog X.w) X.A (call (.builtin id) (v::us)) (EP X pins σ Q) X.xe s
section
variable {X:Cx}{a b:Expr}{ta tb:TE}{pos:Pos}
theorem IxR.or {r r':R2}(h:IxR X r)(h':IxR X r'):IxR X (fun x y H Q=>r x y H Q\/r' x y H Q):=by
 intro value slice pins s σ H x y v u Q I rx ry q hs
 rcases q with q | q
 ·exact h value slice pins s σ H x y v u Q I rx ry q hs
 ·exact h' value slice pins s σ H x y v u Q I rx ry q hs
theorem Zcr {r:R2}(hr:IxR X r)(ha:PE X a ta)(hb:PE X b tb)(hs:K9 b):PE X (.Subscript a b pos) (Dd r ta tb):=by
 intro pins s σ H Q I h
 exact Subscript_ (Js ha hb I h fun v u s2 x y H2 I2 rx ry q=>hr a b pins s2 σ H2 x y v u Q I2 rx ry q (hs _ _))
noncomputable def rIxL (K:Oo):R2:=fun x y H Q=>∃ p xs i v,x=.ref p/\y=.int i/\SqL K H p xs/\B5 xs i=some v/\Q v H
noncomputable def rIxT (K:Oo):R2:=fun x y H Q=>∃ p xs i v,x=.ref p/\y=.int i/\SqT K H p xs/\B5 xs i=some v/\Q v H
noncomputable def rIxS:R2:=fun x y H Q=>∃ z i c,x=.str z/\y=.int i/\z.length<=sizeLine/\B5 z.cps.toList i=some c/\Q (.str ⟨#[c]⟩) H
theorem ix_list:IxR X (rIxL X.K):=by
 intro value slice pins s σ H x y v u Q I rx ry h hs
 obtain ⟨p,xs,i,z,rfl,rfl,hq,he,q⟩:=h
 cases rx
 obtain ⟨t,rfl⟩:=ry
 obtain ⟨its,r,pl,hz⟩:=I.list hq
 obtain ⟨j,h1,h2,h3,h4,h5⟩:=Le he
 obtain ⟨w,ew,rw'⟩:=r.get h2
 have hl:=r.length
 have hn:=E8
 have fin:EP X pins σ Q w s:=⟨z,H,I,rw',q⟩
 by_cases h0:0<=i
 ·have hj:i.toNat=j:=by
   rw [seqIndex_of h0 h5] at h1
   exact O4 h1
  exact item_listR pl.isList h0 (by omega) (by rw [hj];simpa using ew) fin hs
 ·have hj:(i+(its.toArray.size:Int)).toNat=j:=by
   rw [seqIndex_neg (by omega) h4] at h1
   rw [Ou,<- hl]
   exact O4 h1
  exact subscriptTail_builtinR (x:=w) pl.isList.typeIs slot_list_getitem.lookup
   (wpAny_getItem_list_neg (Q:=fun r s'=>r=w/\EP X pins σ Q r s') pl.isList (by omega) (by rw [Ou] <;> omega) (by omega) (by rw [hj];simpa using ew) ⟨rfl,fin⟩) hs
theorem ix_tup:IxR X (rIxT X.K):=by
 intro value slice pins s σ H x y v u Q I rx ry h hs
 obtain ⟨p,xs,i,z,rfl,rfl,hq,he,q⟩:=h
 cases rx
 obtain ⟨t,rfl⟩:=ry
 obtain ⟨its,r,pl,hz⟩:=I.tuple hq
 obtain ⟨j,h1,h2,h3,h4,h5⟩:=Le he
 obtain ⟨w,ew,rw'⟩:=r.get h2
 have hl:=r.length
 have hn:=E8
 have fin:EP X pins σ Q w s:=⟨z,H,I,rw',q⟩
 exact subscriptTail_builtinR (x:=w) pl.typeIs slot_tuple_getitem.lookup
  (getItem_tuple (j:=j) (Q:=fun r s'=>r=w/\EP X pins σ Q r s') pl (by omega) (by omega) (by rw [Ou,<- hl];exact h1) (by simpa using ew) ⟨rfl,fin⟩) hs
theorem Zj9:IxR X rIxS:=by
 intro value slice pins s σ H x y v u Q I rx ry h hs
 obtain ⟨z,i,c,rfl,rfl,hz,he,q⟩:=h
 obtain ⟨t,rfl⟩:=rx
 obtain ⟨t',rfl⟩:=ry
 obtain ⟨j,h1,h2,h3,h4,h5⟩:=Le he
 have hl:z.cps.toList.length=z.length:=by simp [Str.length]
 rw [hl] at h1 h4 h5
 have hn:=E8
 exact tail_any (typeIs_str s z t) slot_str_getitem.lookup (getItem_str (c:=c) (by
  have e1:decide (i < -(2 ^ 63:Int))=false:=decide_eq_false (by omega)
  have e2:decide (i ≥ 2 ^ 63)=false:=decide_eq_false (by omega)
  rw [e1,e2,Bool.or_false]) (by rw [h1];simpa using h2) ⟨.str ⟨#[c]⟩,H,I.tok _,⟨_,rfl⟩,q⟩) hs
noncomputable def rIx (K:Oo):R2:=fun x y H Q=>rIxL K x y H Q\/rIxT K x y H Q\/rIxS x y H Q
theorem Zf4:IxR X (rIx X.K):=ix_list.or (ix_tup.or Zj9)
theorem Zcl (its:List Value)(n j:Nat)(u:Value):Pb (·.setIfInBounds j u) { cls:=.type "list",data:=.seq its.toArray n }={ cls:=.type "list",data:=.seq (its.set j u).toArray n }:=by
 simp [Pb]
theorem Inv.lst {pins:List (Addr×Obj)}{σ:St}{H:Hp}{s:Shared}{p:Addr}{xs:List V}(I:Inv X pins σ H s)(h:H p=some (.lst xs)) :
  ∃(its:List Value)(n:Nat),Vals xs its/\s.heap.get? p=some { cls:=.type "list",data:=.seq its.toArray n }/\xs.length<=sizeLine:=by
 obtain ⟨z,its,n,r,e⟩:=I.hok p _ h
 exact ⟨its,n,r,e,z⟩
theorem Inv.lstUpd {pins:List (Addr×Obj)}{σ:St}{H:Hp}{s:Shared}{p:Addr}{xs ys:List V}{its its':List Value}{n n':Nat}{f:Obj->Obj}(I:Inv X pins σ H s)(h:H p=some (.lst xs))
  (ho:s.heap.get? p=some { cls:=.type "list",data:=.seq its.toArray n }) (hf:f { cls:=.type "list",data:=.seq its.toArray n }={ cls:=.type "list",data:=.seq its'.toArray n' }) (r:Vals ys its') (hz:ys.length<=sizeLine) (t:Nat) :
  Inv X pins σ (upd H p (.lst ys)) { s with heap:=s.heap.update p f,toks:=t }:=by
 have e:(s.heap.update p f).get? p=some { cls:=.type "list",data:=.seq its'.toArray n' }:=by
  rw [P9 f ho (by rw [hf] <;> rfl),hf]
 refine I.write (x:=p) (e:=p) (by rw [h];trivial) (.inl rfl) (fun b u hb q=>(P8 _ _ (O9 hb)).trans q) ⟨_,e⟩ ?_
 exact ⟨hz,its',n',r,e⟩
noncomputable def Nq:V->V->V->Hp->(Hp->Prop)->Prop:=fun o i v H Q=>∃ p xs k j,o=.ref p/\i=.int k/\H p=some (.lst xs)/\Cu xs.length k=some j/\Q (upd H p (.lst (xs.set j v)))
theorem Zd4:Ko X Nq:=by
 intro pins s σ H o i v ov iv u Q I ro ri rv h
 obtain ⟨p,xs,k,j,rfl,rfl,hp,hj,q⟩:=h
 cases ro
 obtain ⟨t,rfl⟩:=ri
 obtain ⟨its,n,r,ho,hz⟩:=I.lst hp
 obtain ⟨h1,h2,h3,h4⟩:=L7 hj
 have hl:=r.length
 have hn:=E8
 have I':Inv X pins σ (upd H p (.lst (xs.set j v))) { s with heap:=s.heap.update p (Pb (·.setIfInBounds j u)) } :=
  I.lstUpd hp ho (Zcl its n j u) (r.set rv j) (by rw [List.length_set];exact hz) s.toks
 by_cases h0:0<=k
 ·have hk:k.toNat=j:=by
   rw [seqIndex_of h0 h4] at h1
   exact O4 h1
  exact PySem.W.ki_setAt ho h0 (by omega) (by rw [Ou,<- hl];exact h4) (by rw [hk];exact ⟨_,I',q⟩)
 ·have hk:(k+(its.toArray.size:Int)).toNat=j:=by
   rw [seqIndex_neg (by omega) h3] at h1
   rw [Ou,<- hl]
   exact O4 h1
  exact PySem.W.ki_setBack ho (by omega) (by rw [Ou,<- hl];exact h3) (by omega) (by rw [hk];exact ⟨_,I',q⟩)
theorem Zjx (lo hi:Option Int)(n:Nat):(sliceBounds lo hi none n).1=((HT.sIx n 0 lo:Nat):Int)/\(sliceBounds lo hi none n).2.1=((HT.sIx n n hi:Nat):Int)/\(sliceBounds lo hi none n).2.2=1:=by
 refine ⟨?_,?_,rfl⟩
 ·cases lo with
  | none=>simp [sliceBounds,HT.sIx]
  | some i =>
   simp only [sliceBounds,HT.sIx,Option.getD_none,show (1:Int) > 0 by decide,if_true]
   by_cases h:i < 0
   ·simp only [h,if_true] <;> omega
   ·simp only [h,if_false] <;> omega
 ·cases hi with
  | none=>simp [sliceBounds,HT.sIx]
  | some i =>
   simp only [sliceBounds,HT.sIx,Option.getD_none,show (1:Int) > 0 by decide,if_true]
   by_cases h:i < 0
   ·simp only [h,if_true] <;> omega
   ·simp only [h,if_false] <;> omega
theorem Zdm (its:List Value)(lo hi:Option Int):slicePick its.toArray lo hi none=((its.drop (HT.sIx its.length 0 lo)).take (HT.sIx its.length its.length hi - HT.sIx its.length 0 lo)).toArray:=by
 obtain ⟨h1,h2,h3⟩:=Zjx lo hi its.toArray.size
 unfold slicePick
 rw [h1,h2,h3]
 simp only [sliceRange_one,pick_run,Ou] <;> rfl
noncomputable def rSlL (K:Oo):V->Option Int->Option Int->Hp->VK->Prop:=fun x lo hi H Q=>∃ a xs,x=.ref a/\SqL K H a xs/\∀ p,H p=none->Q (.ref p) (upd H p (.lst (Br xs lo hi)))
theorem sl_list:SlR X (rSlL X.K):=by
 intro pins s σ H x v vl vu lo hi sl Q I rx hs pl pu h
 obtain ⟨a,xs,rfl,hx,q⟩:=h
 cases rx
 obtain ⟨its,r,ht,hz⟩:=I.list hx
 have hlen:=r.length
 refine ⟨"list",_,slot_list_getitem.lookup,ht.isList.typeIs,?_⟩
 refine wpAny_getItem_list_slice ht.isList hs pl pu .none (by simp) ?_ (by rw [Ou] <;> omega)
 rw [Zdm,<- hlen]
 refine ⟨.ref s.heap.objs.size,_,I.laid (t':=s.toks) (o:=.lst (Br xs lo hi)) (fun b ob q=>Ov _ q) (Oq _) ?_,rfl,q _ (I.hok.fresh (Oq _))⟩
 exact ⟨Pa (Nl xs lo hi) hz,_,0,(r.drop (HT.sIx xs.length 0 lo)).take (HT.sIx xs.length xs.length hi - HT.sIx xs.length 0 lo),O6 _ rfl⟩
noncomputable def B6:V->Bool
 | .non=>true
 | .bl _=>true
 | .int _=>true
 | .str _=>true
 | _=>false
noncomputable def Cr:V->V->Bool
 | .non,.non=>true
 | .bl a,.bl b=>a == b
 | .bl a,.int b=>(if a then 1 else 0) == b
 | .int a,.bl b=>a == (if b then 1 else 0)
 | .int a,.int b=>a == b
 | .str a,.str b=>a == b
 | _,_=>false
theorem Kn {A:Around}{s:Shared}{y x:V}{u v:Value}(ry:RelV y u)(rx:RelV x v)(fy:B6 y=true)(fx:B6 x=true):O0 A s u v (Cr y x):=by
 cases y with
 | non =>
  cases ry
  cases x with
  | non=>cases rx;exact T8 _
  | bl b=>cases rx;exact O0.none_bool b
  | int b=>obtain ⟨t,rfl⟩:=rx;exact O0.none_int b t
  | str b=>obtain ⟨t,rfl⟩:=rx;exact O0.none_str b t
  | _=>exact absurd (show false=true from fx) Oz
 | bl a =>
  cases ry
  cases x with
  | non=>cases rx;exact O0.bool_none a
  | bl b=>cases rx;exact O0.bool_bool a b
  | int b=>obtain ⟨t,rfl⟩:=rx;exact O0.bool_int a b t
  | str b=>obtain ⟨t,rfl⟩:=rx;exact O0.bool_str a b t
  | _=>exact absurd (show false=true from fx) Oz
 | int a =>
  obtain ⟨t',rfl⟩:=ry
  cases x with
  | non=>cases rx;exact O0.int_none a t'
  | bl b=>cases rx;exact O0.int_bool a t' b
  | int b=>obtain ⟨t,rfl⟩:=rx;exact O0.int_int a t' b t
  | str b=>obtain ⟨t,rfl⟩:=rx;exact O0.int_str a t' b t
  | _=>exact absurd (show false=true from fx) Oz
 | str a =>
  obtain ⟨t',rfl⟩:=ry
  cases x with
  | non=>cases rx;exact O0.str_none a t'
  | bl b=>cases rx;exact O0.str_bool a t' b
  | int b=>obtain ⟨t,rfl⟩:=rx;exact O0.str_int a t' b t
  | str b=>obtain ⟨t,rfl⟩:=rx;exact O0.str_str a t' b t
  | _=>exact absurd (show false=true from fx) Oz
 | _=>exact absurd (show false=true from fy) Oz
noncomputable def Dv (x:V)(u:Value):Bool:=match u with
 | .none=>Cr .non x
 | .bool b=>Cr (.bl b) x
 | .int i _=>Cr (.int i) x
 | .str z _=>Cr (.str z) x
 | _=>false
theorem Mn {x y:V}{u:Value}(r:RelV y u)(f:B6 y=true):Dv x u=Cr y x:=by
 cases y with
 | non=>cases r;rfl
 | bl b=>cases r;rfl
 | int i=>obtain ⟨t,rfl⟩:=r;rfl
 | str z=>obtain ⟨t,rfl⟩:=r;rfl
 | _=>exact absurd (show false=true from f) Oz
theorem Kt {x:V}:∀{xs:List V}{us:List Value},Vals xs us->xs.all B6=true->us.any (Dv x)=xs.any fun y=>Cr y x
 | _,_,.nil,_=>rfl
 | y::xs,u::us,.cons r t,f=>by
  rw [Sx,Qi] at f
  rw [Rt,Rt,Mn r f.1,Kt t f.2]
theorem Kb {A:Around}{s:Shared}{x:V}{v:Value}(rx:RelV x v)(fx:B6 x=true):∀{xs:List V}{us:List Value},Vals xs us->xs.all B6=true->∀ u∈us,O0 A s u v (Dv x u)
 | _,_,.nil,_=>fun u hu=>by cases hu
 | y::xs,u::us,.cons r t,f=>fun u' hu=>by
  rw [Sx,Qi] at f
  rcases Oy.mp hu with rfl | hu
  ·rw [Mn r f.1];exact Kn r rx f.1 fx
  ·exact Kb rx fx t f.2 u' hu
noncomputable def Ec (x:V)(xs:List V):Bool:=xs.any fun y=>Cr y x
noncomputable def rIn (K:Oo)(neg:Bool):R2:=fun x y H Q=>∃ p xs,y=.ref p/\(SqL K H p xs\/SqT K H p xs)/\B6 x=true/\xs.all B6=true/\Q (.bl (if neg then !Ec x xs else Ec x xs)) H
theorem op_in_seq:OpR X (compareOp .In) (rIn X.K false):=by
 intro pins s σ H x y v u Q I rx ry h
 obtain ⟨p,xs,rfl,hq,fx,fs,q⟩:=h
 cases ry
 rcases hq with hq | hq
 ·obtain ⟨its,r,pl,hz⟩:=I.list hq
  refine SeqAt.in_listAt (Dv x) pl.isList (fun w hw=>Kb rx fx r fs w (by simpa using hw)) ⟨.bl _,H,I,rfl,?_⟩
  rw [show its.toArray.any (Dv x)=its.any (Dv x) by simp,Kt r fs]
  exact q
 ·obtain ⟨its,r,pl,hz⟩:=I.tuple hq
  refine SeqAt.in_tupleAt (Dv x) pl (fun w hw=>Kb rx fx r fs w (by simpa using hw)) ⟨.bl _,H,I,rfl,?_⟩
  rw [show its.toArray.any (Dv x)=its.any (Dv x) by simp,Kt r fs]
  exact q
theorem Zb0:B4 X (.type "list") (fun xs H Q=>∃ p ys,xs=[.ref p]/\(SqL X.K H p ys\/SqT X.K H p ys)/\∀ l,H l=none->Q (.ref l) (upd H l (.lst ys))):=by
 intro pins s σ H xs us Q I r h
 obtain ⟨p,ys,rfl,hq,q⟩:=h
 obtain ⟨u,rfl,rx⟩:=Gu r
 cases rx
 have fin:∀(its:List Value),Vals ys its->ys.length<=sizeLine->∀(h':Heap)(c':Nat),(∀ b o',s.heap.get? b=some o'->h'.get? b=some o') ->
   h'.get? s.heap.objs.size=some { cls:=.type "list",dict:=none,data:=.seq its.toArray c',slots:=#[] }->EP X pins σ Q (.ref s.heap.objs.size) { s with heap:=h' }:=fun its r' hz h' c' kp e =>
  ⟨.ref s.heap.objs.size,_,I.laid (t':=s.toks) kp (Oq _) (show ObjOk X.prog X.w _ h' _ (.lst ys) from ⟨hz,its,c',r',e⟩),rfl,q _ (I.hok.fresh (Oq _))⟩
 rcases hq with hq | hq
 ·obtain ⟨its,r',pl,hz⟩:=I.list hq
  have hlen:=r'.length
  obtain ⟨o,ho,hc,n,hd⟩:=pl.isList
  exact call_list_seq p (.inl rfl) ho hc hd (fun h' c' kp e=>fin its r' hz h' c' kp e) (by simp only [Ou] <;> omega)
 ·obtain ⟨its,r',pl,hz⟩:=I.tuple hq
  have hlen:=r'.length
  obtain ⟨o,ho,hc,n,hd⟩:=pl
  exact call_list_seq p (.inr rfl) ho hc hd (fun h' c' kp e=>fin its r' hz h' c' kp e) (by simp only [Ou] <;> omega)
theorem Zh9:B4 X (.type "tuple") (fun xs H Q=>∃ p ys,xs=[.ref p]/\((SqL X.K H p ys/\∀ l,H l=none->Q (.ref l) (upd H l (.tup ys)))\/(SqT X.K H p ys/\Q (.ref p) H))):=by
 intro pins s σ H xs us Q I r h
 obtain ⟨p,ys,rfl,h⟩:=h
 obtain ⟨u,rfl,rx⟩:=Gu r
 cases rx
 rcases h with ⟨hq,q⟩ | ⟨hq,q⟩
 ·obtain ⟨its,r',pl,hz⟩:=I.list hq
  have hlen:=r'.length
  refine call_tuple_list pl.isList (fun h' kp=>?_) (by simp only [Ou] <;> omega)
  have I1:Inv X pins σ H { s with heap:=h' }:=I.kept (t':=s.toks) kp
  have I2:Inv X pins σ (upd H h'.objs.size (.tup ys)) { s with heap:=h'.push { cls:=.type "tuple",data:=.seq its.toArray } } :=
   I1.laid (t':=s.toks) (fun b o e=>Ov _ e) (Oq _) (show ObjOk X.prog X.w _ _ _ (.tup ys) from ⟨hz,its,r',IsTup.new _ _⟩)
  exact ⟨.ref h'.objs.size,_,I2,rfl,q _ (I1.hok.fresh (Oq _))⟩
 ·obtain ⟨its,r',pl,hz⟩:=I.tuple hq
  exact call_tuple_same pl ⟨.ref p,H,I,rfl,q⟩
noncomputable def Fa (K:Oo)(T:String)(x:V)(H:Hp):Prop:=match x with
 | .str _=>T = "str"
 | .int _=>T = "int"
 | .ref p=>(T = "list" /\ ∃ xs,SqL K H p xs)\/(T = "tuple" /\ ∃ o,K.lookup p=some o/\o.cls=.type "tuple" /\ o.dict=none) \/
   (T = "dict" /\ ((∃ kvs,H p=some (.dK kvs))\/∃ kvs,H p=some (.dT kvs)))\/(T = "set" /\ ∃ S n,H p=some (.set S n))
 | _=>False
theorem Zam {pins:List (Addr×Obj)}{σ:St}{H:Hp}{s:Shared}{T:String}{x:V}{v:Value}(I:Inv X pins σ H s)(r:RelV x v)(ty:Fa X.K T x H) :
  s.TypeIs v T/\∀ a,v=.ref a->∃ ob,s.heap.get? a=some ob/\ob.dict=none:=by
 cases x with
 | str z =>
  obtain ⟨t,rfl⟩:=r
  cases (show T = "str" from ty)
  exact ⟨typeIs_str s z t,fun _ e=>nomatch e⟩
 | int i =>
  obtain ⟨t,rfl⟩:=r
  cases (show T = "int" from ty)
  exact ⟨typeIs_int s i t,fun _ e=>nomatch e⟩
 | ref p =>
  cases r
  rcases ty with ⟨rfl,xs,hq⟩ | ⟨rfl,o,hk,hc,hd⟩ | ⟨rfl,hk⟩ | ⟨rfl,S,n,hk⟩
  ·obtain ⟨its,_,pl,_⟩:=I.list hq
   refine ⟨pl.isList.typeIs,fun a e=>?_⟩
   cases e
   obtain ⟨o,n,e,c,hd,_⟩:=pl
   exact ⟨o,e,hd⟩
  ·refine ⟨⟨o,I.kIn p o hk,hc⟩,fun a e=>?_⟩
   cases e
   exact ⟨o,I.kIn _ o hk,hd⟩
  ·have z:∃ o,s.heap.get? p=some o/\o.ExactDict:=by
    rcases hk with ⟨kvs,hk⟩ | ⟨kvs,hk⟩
    ·obtain ⟨_,_,_,_,o,_,_,e,ex,_⟩:=I.hok p _ hk
     exact ⟨o,e,ex⟩
    ·obtain ⟨_,_,_,_,o,_,_,e,ex,_⟩:=I.hok p _ hk
     exact ⟨o,e,ex⟩
   obtain ⟨o,e,ex⟩:=z
   refine ⟨⟨o,e,ex.1⟩,fun a e2=>?_⟩
   cases e2
   exact ⟨o,e,ex.2.1⟩
  ·obtain ⟨o,_,_,_,e,ex,_⟩:=I.hok p _ hk
   refine ⟨⟨o,e,ex.1⟩,fun a e2=>?_⟩
   cases e2
   exact ⟨o,e,ex.2.1⟩
 | _=>exact Pu ty
noncomputable def Hi (K:Oo)(T:String)(r:V->List V->Hp->VK->Prop)(to:TE):TE:=fun σ H Q=>to σ H fun x H1=>Fa K T x H1/\r x [] H1 Q
noncomputable def tBM (K:Oo)(T:String)(r:V->List V->Hp->VK->Prop)(to:TE)(t:TA):TE:=fun σ H Q=>to σ H fun x H1=>Fa K T x H1/\t σ H1 fun xs H2=>r x xs H2 Q
variable {o e:Expr}{es:List Expr}{to:TE}{t:TA}{name:Str}{apos cpos:Pos}{T id:String}{r:V->List V->Hp->VK->Prop}
theorem Zid (pa:PlainAttrs T)(slot:Slot T name id)(hty:typeOf (.builtin id)=pure (.type "method_descriptor"))(hm:Fm X id r)(ho:PE X o to)
  (hbase:attributeBase o name X.env (eval o X.env)=eval o X.env:=by rfl) (hline:(apos.endLine == cpos.line)=true:=by rfl):PE X (.Call (.Attribute o name apos) [] [] cpos) (Hi X.K T r to):=by
 intro pins s σ H Q I h
 refine wpAny_Call_method0_late hbase hline (Ae (ho pins s σ H _ I h) fun v s1 zq=>?_)
 obtain ⟨x,H1,I1,r1,ty,q1⟩:=zq
 obtain ⟨h1,h2⟩:=Zam I1 r1 ty
 exact ⟨T,id,pa,slot,hty,h1,h2,Tf rfl (PySem.evalArgs_none (hm pins s1 σ H1 x [] v [] Q I1 r1 .nil q1))⟩
theorem Zcd (pa:PlainAttrs T)(slot:Slot T name id)(hty:typeOf (.builtin id)=pure (.type "method_descriptor"))(hm:Fm X id r)(ho:PE X o to)(ha:PA X (e::es) t)
  (hbase:attributeBase o name X.env (eval o X.env)=eval o X.env:=by rfl)
  (hfew:((backTo cpos (starEach (e::es) X.env)).all (fun x=>!x.1) && (backToKw cpos (keywordEach [] X.env)).all (fun x=>x.1.isSome)
   && decide ((e::es).length+([]:List Keyword).length+(if ([]:List Keyword).isEmpty then 0 else 1) < 30))=true:=by rfl)
  (hline:(apos.endLine == cpos.line)=true:=by rfl) (hs:starEach (e::es) X.env=(false,eval e X.env)::starEach es X.env:=by rfl) (hplain:(backTo cpos (starEach es X.env)).any (·.1)=false:=by rfl) :
  PE X (.Call (.Attribute o name apos) (e::es) [] cpos) (tBM X.K T r to t):=by
 intro pins s σ H Q I h
 refine wpAny_Call_method_late hbase hfew hline rfl (Ae (ho pins s σ H _ I h) fun v s1 zq=>?_)
 obtain ⟨x,H1,I1,r1,ty,q1⟩:=zq
 obtain ⟨h1,h2⟩:=Zam I1 r1 ty
 refine ⟨T,id,pa,slot,hty,h1,h2,?_⟩
 have hA:=ha cpos pins s1 σ H1 _ I1 q1
 rw [hs] at hA ⊢
 refine Tf (by show (false || (backTo cpos (starEach es X.env)).any (·.1))=false;rw [hplain] <;> rfl) (Calls.evalArgs_plain ?_)
 exact Ae hA fun us s2 ⟨vs,H2,I2,r2,q2⟩=>hm pins s2 σ H2 x vs v us Q I2 r1 r2 q2
end
noncomputable def MtM (X:Cx)(id:String)(r:V->List V->Hp->VK->Prop):Prop :=
 ∀(pins:List (Addr×Obj))(s:Shared)(σ:St)(H:Hp)(x:V)(xs:List V)(v:Value)(us:List Value)(Q:VK),Inv X pins σ H s->RelV x v->Vals xs us->r x xs H Q ->
  wpAny (model X.prog X.w) X.A (call (.builtin id) (v::us)) (EP X pins σ Q) X.xe s
theorem Vals.one:∀{x:V}{us:List Value},Vals [x] us->∃ u,us=[u]/\RelV x u
 := fun h=>by
 cases h with
 | cons r t =>
 cases t
 exact ⟨_,rfl,r⟩
theorem Vals.two:∀{x y:V}{us:List Value},Vals [x,y] us->∃ u v,us=[u,v]/\RelV x u/\RelV y v
 := fun h=>by
 cases h with
 | cons r t =>
 cases t with
 | cons q z =>
 cases z
 exact ⟨_,_,rfl,r,q⟩
theorem Vals.zero:∀{us:List Value},Vals [] us->us=[]
 | _,.nil=>rfl
theorem Vals.dropLast {xs:List V}{us:List Value}(h:Vals xs us):Vals xs.dropLast us.dropLast:=by
 induction h with
 | nil=>exact .nil
 | cons r t ih =>
  cases t with
  | nil=>exact .nil
  | cons q t'=>exact .cons r ih
theorem Vals.rep {xs:List V}{us:List Value}(h:Vals xs us):∀ k:Nat,Vals (Pj k xs).flatten (Pj k us).flatten
 | 0=>.nil
 | k+1=>by
  rw [Rf,Rf,Sk,Sk]
  exact Vals.append h (Vals.rep h k)
theorem Zit {α:Type}(l:List α):l.eraseIdx (l.length - 1)=l.dropLast:=by
 induction l with
 | nil=>rfl
 | cons a r ih =>
  cases r with
  | nil=>rfl
  | cons b r =>
   have e:(a::b::r).length - 1=((b::r).length - 1)+1:=by
    have h1:(a::b::r).length=r.length+2:=rfl
    have h2:(b::r).length=r.length+1:=rfl
    omega
   rw [e,List.eraseIdx_cons_succ,ih]
   all_goals rfl
theorem N1 (its:List Value):∀(k:Nat)(acc:List Value),
  List.foldl (fun x1 x2=>x1++x2) acc.toArray (Pj k its.toArray)=(acc++(Pj k its).flatten).toArray
 | 0,acc=>by simp
 | k+1,acc=>by
  have e:acc.toArray++its.toArray=(acc++its).toArray:=by simp
  have e2:(acc++its)++(Pj k its).flatten=acc++(Pj (k+1) its).flatten:=by
   rw [Rf,Sk,Qh]
  rw [<- e2,<- N1 its k (acc++its),<- e,Rf,List.foldl_cons]
section
variable {X:Cx}{pins:List (Addr×Obj)}{σ:St}{H:Hp}{s:Shared}{l b:Addr}{xs ys zs:List V}
theorem Inv.lset {its its':List Value}{n:Nat}{f:Array Value->Array Value}{t':Nat}(I:Inv X pins σ H s)(hH:H l=some (.lst xs))
  (e:s.heap.get? l=some { cls:=.type "list",data:=.seq its.toArray n }) (hf:f its.toArray=its'.toArray) (hv:Vals ys its') (hz:ys.length<=sizeLine) :
  Inv X pins σ (upd H l (.lst ys)) { s with heap:=s.heap.update l (Pb f),toks:=t' }:=by
 have q:=PySem.IsL.update e f
 rw [hf] at q
 refine I.write (x:=l) (e:=l) (by rw [hH];exact trivial) (.inl rfl) (fun b' u hb hu=>(P8 s.heap (Pb f) (O9 hb)).trans hu) ⟨_,q⟩ ?_
 exact ⟨hz,its',_,hv,q⟩
theorem Inv.lnew {its:List Value}{t':Nat}(I:Inv X pins σ H s)(hv:Vals ys its)(hz:ys.length<=sizeLine) :
  Inv X pins σ (upd H s.heap.objs.size (.lst ys)) { s with heap:=s.heap.push { cls:=.type "list",data:=.seq its.toArray },toks:=t' } :=
 I.laid (fun _ _ q=>Ov _ q) (Oq _) ⟨hz,its,0,hv,O6 _ rfl⟩
theorem Inv.fresh (I:Inv X pins σ H s):H s.heap.objs.size=none:=I.hok.fresh (Oq _)
theorem Inv.lstM (I:Inv X pins σ H s)(hH:H l=some (.lst xs)):xs.length<=sizeLine/\∃(its:List Value)(n:Nat),Vals xs its/\xs.length=its.length/\s.heap.get? l=some { cls:=.type "list",data:=.seq its.toArray n }:=by
 obtain ⟨z,its,n,r,e⟩:=I.hok l _ hH
 exact ⟨z,its,n,r,r.length,e⟩
theorem M1 {n:Nat}(h:n<=sizeLine):Ra n=false:=by
 unfold Ra
 exact decide_eq_false (by omega)
end
section
variable {X:Cx}
noncomputable def M3:V->List V->Hp->VK->Prop:=fun x vs H Q=>∃ l xs y,x=.ref l/\vs=[y]/\H l=some (.lst xs)/\xs.length < sizeLine/\Q .non (upd H l (.lst (xs++[y])))
theorem Du:MtM X "list.append" M3:=by
 intro pins s σ H x vs v us Q I rx rv h
 obtain ⟨l,xs,y,rfl,rfl,hH,hz,q⟩:=h
 cases rx
 obtain ⟨u,rfl,ru⟩:=rv.one
 obtain ⟨z,its,n,r,hl,e⟩:=I.lstM hH
 refine Rv F.slot_list_append ⟨_,e,rfl⟩ F.entry_list_append (F.args_list_append_2 _ _) (PySem.list_append l its.toArray n u (by rw [Ou];omega)) ⟨e,?_⟩
 refine ⟨.non,_,I.lset (its':=its++[u]) hH e (by simp) (r.append (.cons ru .nil)) ?_,rfl,q⟩
 rw [O3,Pq]
 omega
noncomputable def rPop:V->List V->Hp->VK->Prop:=fun x vs H Q=>∃ l xs y,x=.ref l/\vs=[]/\H l=some (.lst xs)/\xs[xs.length - 1]?=some y/\Q y (upd H l (.lst xs.dropLast))
theorem Gz:MtM X "list.pop" rPop:=by
 intro pins s σ H x vs v us Q I rx rv h
 obtain ⟨l,xs,y,rfl,rfl,hH,hy,q⟩:=h
 cases rx
 have hus:=rv.zero
 subst hus
 obtain ⟨z,its,n,r,hl,e⟩:=I.lstM hH
 obtain ⟨u,hu,ru⟩:=r.get hy
 have hy':its.toArray[its.toArray.size - 1]?=some u:=by
  show its.toArray[its.length - 1]?=some u
  rw [<- Array.getElem?_toList,<- hl]
  exact hu
 refine Rv F.slot_list_pop ⟨_,e,rfl⟩ F.entry_list_pop (F.args_list_pop_1 _) (MeetsSeq.list_pop_last l its.toArray n u hy' (by rw [Ou];omega)) ⟨e,?_⟩
 refine ⟨y,_,I.lset (its':=its.dropLast) hH e ?_ r.dropLast ?_,ru,q⟩
 ·show its.toArray.eraseIdxIfInBounds (its.toArray.size - 1)=its.dropLast.toArray
  rw [Ou,List.eraseIdxIfInBounds_toArray,Zit]
 ·rw [List.length_dropLast]
  omega
noncomputable def rCat:R2:=fun x y H Q=>∃ l b xs zs,x=.ref l/\y=.ref b/\H l=some (.lst xs)/\H b=some (.lst zs)/\xs.length+zs.length<=sizeLine/\∀ p,H p=none->Q (.ref p) (upd H p (.lst (xs++zs)))
theorem op_cat:OpR X (binaryOp .Add) rCat:=by
 intro pins s σ H x y v u Q I rx ry h
 obtain ⟨l,b,xs,zs,rfl,rfl,hH,hB,hz,q⟩:=h
 cases rx
 cases ry
 obtain ⟨z,its,n,r,hl,e⟩:=I.lstM hH
 obtain ⟨z2,its2,n2,r2,hl2,e2⟩:=I.lstM hB
 refine PySem.P.add_list e e2 ?_ (by rw [Ou,Ou];omega)
 have ea:its.toArray++its2.toArray=(its++its2).toArray:=by simp
 rw [ea]
 exact ⟨.ref _,_,I.lnew (t':=s.toks) (r.append r2) (by rw [O3];omega),rfl,q _ I.fresh⟩
noncomputable def rRep:R2:=fun x y H Q=>∃ l k xs,x=.ref l/\y=.int k/\H l=some (.lst xs)/\-(2 ^ 63)<=k/\k < 2 ^ 63/\xs.length * k.toNat<=sizeLine /\
 ∀ p,H p=none->Q (.ref p) (upd H p (.lst (Pj k.toNat xs).flatten))
theorem Zcm {α:Type}(xs:List α)(k:Nat):(Pj k xs).flatten.length=k * xs.length:=by
 induction k with
 | zero=>simp
 | succ k ih=>rw [Rf,Sk,O3,ih,Nat.succ_mul,Nat.add_comm]
theorem Zc6:OpR X (binaryOp .Mult) rRep:=by
 intro pins s σ H x y v u Q I rx ry h
 obtain ⟨l,k,xs,rfl,rfl,hH,h1,h2,hz,q⟩:=h
 cases rx
 obtain ⟨t,rfl⟩:=ry
 obtain ⟨z,its,n,r,hl,e⟩:=I.lstM hH
 have hlen:its.toArray.size * k.toNat<=sizeLine:=by rw [Ou,<- hl];exact hz
 have hcap:¬ its.toArray.size * k.toNat > (2 ^ 63 - 1) / 8:=by
  have:(sizeLine:Nat)<=(2 ^ 63 - 1) / 8:=by decide
  omega
 have hfit:¬ (!Builtin.List.listFitsIndex k)=true:=by
  rw [fitsIndex_both h1 h2]
  exact Oz
 have hlong:¬ Ra (its.toArray.size * k.toNat)=true:=by
  rw [M1 hlen]
  exact Oz
 have hnew:List.foldl (fun x1 x2=>x1++x2) #[] (Pj (if its.toArray.isEmpty=true then 0 else k.toNat) its.toArray)=(Pj k.toNat its).flatten.toArray:=by
  have f0:∀ m:Nat,List.foldl (fun x1 x2=>x1++x2) #[] (Pj m its.toArray)=(Pj m its).flatten.toArray:=fun m=>by
   have:=N1 its m []
   rw [List.nil_append] at this
   exact this
  rw [f0]
  cases its with
  | nil=>simp
  | cons a r'=>rw [if_neg (by simp)]
 refine wpAny_binaryOp_repeat_ref (T := "list") (U := "int") (by decide) ⟨_,e,rfl⟩ (fun s'=>typeIs_int s' k t) noFill_list_mul F.fills_int_mul F.slot_int_rmul repeat_list F.slot_int_index.lookup
  (Rv F.slot_int_rmul (typeIs_int s k t) F.entry_int_rmul (F.args_int_rmul_2 _ _) (int___rmul___int_list k t l its.toArray n)
   ⟨e,rfl,⟨_,e,rfl⟩,Rv F.slot_list_mul ⟨_,e,rfl⟩ F.entry_list_mul (F.args_list_mul_2 _ _) (AutoListH.list___mul___list_int_3 l its.toArray n k t hfit hcap hlong) ⟨e,?_⟩⟩)
 rw [hnew]
 exact ⟨.ref _,_,I.lnew (t':=s.toks) (r.rep k.toNat) (by rw [Zcm,Nat.mul_comm];exact hz),rfl,q _ I.fresh⟩
end
section
variable {prog:Program}{w:World}{A:Around}{E:Value->Shared->Prop}{s:Shared}
end
section
variable {X:Cx}
end
end L2
namespace Att
open PySem PySem.W PySem.Calls PyProof.Rows
theorem Zdc {P:Params}{h:Heap}:∀(ns:List Int)(vs:List Value),WellAll P h vs (ns.map WData.int)->IntsAre vs ns:=by
 intro ns
 induction ns with
 | nil =>
  intro vs w
  rw [List.map_nil] at w
  cases w
  exact .nil
 | cons n ns ih =>
  intro vs w
  rw [Pk] at w
  cases w with
  | cons a b =>
   cases a
   exact .cons _ _ (ih _ b)
theorem Zfh {l:OpenLaw}{n:Nat}(hn:l.most=some n){P:Params}{h:Heap}{args:List WData}{vals:List Value}
  (hpre:l.row.toRowW.claim.pre args=true) (hwl:WellAll P h vals args) :
  ∃ a vs ns,vals=[Value.ref a]/\args=[WData.list (ns.map WData.int)]/\h.get? a=some { cls:=.type "list",data:=.seq vs.toArray }/\IntsAre vs ns/\ns.length<=n:=by
 have hsh:WShape.hasAll [] args [.list .int]=true:=(pre_splitW hpre).1
 have hc:l.pre.holds [] { args:=args }=true:=(pre_splitW hpre).2
 obtain ⟨d,r,rfl,h1,h2⟩:=hasAllW_cons hsh
 obtain rfl:=hasAllW_nil h2
 obtain ⟨xs,rfl,h3⟩:=hasW_list h1
 obtain ⟨ns,rfl⟩:=items_int h3
 have hlen:ns.length<=n:=by
  unfold OpenLaw.pre at hc
  have h4:(WTm.not (.lt (.lit (.int (n:Int))) (.len (.arg 0)))).holds [] { args:=[.list (ns.map .int)] }=true:=by
   have h4:=(holds_andW hc).1
   rw [hn] at h4
   exact h4
  have h5:=condW_of h4 (w_not (w_lt w_lit (w_len_list (w_arg rfl))))
  rw [Ox] at h5
  refine Nat.le_of_not_lt fun q=>?_
  have q':(n:Int) < ((ns.length:Nat):Int):=by omega
  first
   | (rw [decide_eq_true q'] at h5;exact absurd h5 (by decide))
   | (simp at h5;omega)
 cases hwl with
 | cons w1 w2 =>
  cases w2
  cases w1 with
  | list ho hall=>exact ⟨_,_,ns,rfl,rfl,ho,Zdc ns _ hall,hlen⟩
theorem Zgw (l:OpenLaw)(args:List WData):l.row.toRowW.claim.post args (.bool true) args=true :=
 postW_of (r:=l.row.toRowW) (X:=(true == true))
  (show WShape.has [] (.bool true) .bool=true by first | rfl | decide | simp [WShape.has,WShape.arms,WShape.armsAll])
  (show (WTm.eq .res (.lit (.bool true))).value [] { args:=args,res:=some (.bool true),after:=args }=some (.bool (true == true)) from w_eq_bool (w_res rfl) w_lit) rfl
theorem attach_call {l:OpenLaw}{n:Nat}{q:Program}{loose:List Str}{XP:(Str->Option Value)->Heap->Prop}{YP:World->Heap->Prop}{d:DefRec}
  (hn:l.most=some n) (hdf:d.params.defaults=[])
  (call:∀(w:World)(s₀ s₁:Shared)(mg mb:Str->Option Value)(fa:Addr)(o:Obj)(pm cd doc:Value)(a:Addr)(vs:List Value)(ns:List Int),
   Ground q loose [] XP w s₀ mg mb s₁.heap->YP w s₁.heap ->
   s₁.heap.get? fa=some o->o.data=.func (docDef d.name d.params d.body d.scope pm cd doc)->s₁.heap.CodeRec cd d.name->mg d.name=some (.ref fa) ->
   s₁.heap.get? a=some { cls:=.type "list",data:=.seq vs.toArray }->IntsAre vs ns->ns.length<=n->s₁.gens=#[] ->
   codeAny (model l.prog w) callerA (.call (.ref fa) ⟨[.ref a],[]⟩) (fun r s'=>r=.ok (.ret (.bool true))/\OldK s₁.heap s'.heap/\s'.os=s₁.os/\AllBare s'.gens) s₁) :
  WalkO q loose XP YP l.row.toRowW d [] (fun f vs=>PySem.call f vs):=by
 intro w s₀ s₁ mg mb G Y fa o pm cd doc dV kV ho hd hcd hD hmg hg args vals as hpre hlay hrd hwl hlo
 obtain rfl:dV=.none:=Dflts.none hD hdf
 obtain rfl:kV=.none:=Dflts.noKw hD
 obtain ⟨a,vs,ns,rfl,rfl,hobj,hints,hlen⟩:=Zfh hn hpre hwl
 refine enter_call (codeAny_mono (call w s₀ s₁ mg mb fa o pm cd doc a vs ns G Y ho (fd_plain hd) hcd hmg hobj hints hlen hg) fun r s' hq=>?_)
 obtain ⟨rfl,h2,h3,h4⟩:=hq
 exact ⟨.inl ⟨.bool true,.bool true,[],rfl,fun _=>rfl,.bool true,Zgw l _,fun _=>⟨List.Pairwise.nil,fun _ hm=>(nomatch hm)⟩⟩,h2,h3,h4⟩
section
variable {prog:Program}{w:World}{A:Around}{E:Value->Shared->Prop}{s:Shared}{K:Frag}
end
end Att
namespace L2
open PySem PySem.Spec PyProof.Rows
theorem Mk:∀{vs:List Value}{ns:List Int},IntsAre vs ns->Vals (ns.map V.int) vs
 | _,_,.nil=>.nil
 | _,_,.cons n t h=>.cons ⟨t,rfl⟩ (Mk h)
noncomputable def Lp (H:Hp):Prop:=∀ b,H b=none\/∃ o xs,H b=some (.frz o (.lst xs))
theorem Zf5 {P:Program}{w:World}{K:Oo}{mg mb:Str->Option Value}{CX:Cd}{k:Nat}{fa a:Addr}{fd:FuncData}{x:Str}{sp:Sp}{s₁:Shared}{vs:List Value}{ns:List Int}
  (KX:K.In s₁.heap) (hns:s₁.heap.Ns mainGlobals mg) (hb:s₁.heap.Ns builtinsNs mb) (hbb:∀ x:Str,x ≠ "__name__" -> mb x=bootBuiltins x) (hlim:s₁.heap.NoLimit) (hg:s₁.gens=#[])
  (ha:s₁.heap.get? a=some { cls:=.type "list",data:=.seq vs.toArray }) (hi:IntsAre vs ns) (hl:ns.length<=sizeLine) (hr:Room k callerA)
  (F:∀ base:Heap,K.In base->base.Ns mainGlobals mg->Az P w K mg base CX k fa fd [x] sp) (hbind:∀(s:Shared)(u:Value),BindsTo s fd ⟨[u],[]⟩ [(x,u)])
  (hsp:∀ H:Hp,Lp H->SqL K H a (ns.map V.int)->sp [.ref a] H (fun v _=>v=.bl true) fun _ _ _=>False)
  (hCX:∀ H e s',CX [] H s₁ (fun _ _ _=>False) e s'->False) :
  codeAny (model P w) callerA (.call (.ref fa) ⟨[.ref a],[]⟩) (fun r s'=>r=.ok (.ret (.bool true))/\OldK s₁.heap s'.heap/\s'.os=s₁.os/\AllBare s'.gens) s₁:=by
 have rv:=Mk hi
 have lenV:=hi.length
 have core:∀ H:Hp,Lp H->SqL K H a (ns.map V.int)->HOk P w H s₁.heap->(∀ b,H b≠none->b=a)->(H a≠none->K.lookup a=none) ->
   codeAny (model P w) callerA (.call (.ref fa) ⟨[.ref a],[]⟩) (fun r s'=>r=.ok (.ret (.bool true))/\OldK s₁.heap s'.heap/\s'.os=s₁.os/\AllBare s'.gens) s₁:=by
  intro H hO hS hok hA hK
  have base_of:∀{b:Addr}{o:Obj},s₁.heap.get? b=some o->H b=none->(Dh s₁.heap H).get? b=some o:=fun e n=>Zfj e n
  have noA:∀{b:Addr}{o:Obj}{es:Array DictEntry}{ep:Nat},s₁.heap.get? b=some o->o.data=.dict es ep->H b=none:=fun {b o es ep} e d=>by
   cases q:H b with
   | none=>rfl
   | some u =>
    have e':b=a:=hA b (by rw [q];simp)
    subst e'
    rw [ha] at e;cases e
    have d':Data.seq vs.toArray _=Data.dict es ep:=d
    cases d'
  have nsK:∀{b:Addr}{m:Str->Option Value},s₁.heap.Ns b m->(Dh s₁.heap H).Ns b m:=fun {b m} ⟨o,es,ep,e,d,r⟩=>⟨o,es,ep,base_of e (noA e d),d,r⟩
  have hKb:K.In (Dh s₁.heap H):=fun b o e=>base_of (KX b o e) (by
   cases q:H b with
   | none=>rfl
   | some u =>
    have e':b=a:=hA b (by rw [q];simp)
    subst e'
    rw [hK (by rw [q];simp)] at e;cases e)
  have hM:Mod K mg (Dh s₁.heap H):=⟨hKb,nsK hns,⟨mb,nsK hb,hbb⟩,let ⟨mc,h1,h2⟩:=hlim;⟨mc,nsK h1,h2⟩⟩
  have e0:Ho P w K mg (Dh s₁.heap H) callerA [] s₁ H:=⟨rfl,hM,fun b o e=>Zbs e,Nat.le_of_eq (Zft _ _),trivial,fun b hb=>absurd (show b∈([]:List Addr) from hb) (by simp),hok,.of_eq hg⟩
  refine codeAny_mono ((F _ hKb (nsK hns)).run callerA [] s₁ H ⟨[.ref a],[]⟩ [.ref a] [.ref a] _ _ hr e0 (hbind s₁ (.ref a)) (.cons rfl .nil) (hsp H hO hS)) fun r s' h=>?_
  cases r with
  | error e=>exact (hCX H e s' h).elim
  | ok fl =>
   cases fl with
   | next=>exact Pu h
   | brk=>exact Pu h
   | cont=>exact Pu h
   | ret u =>
    obtain ⟨v,H',os,bare,un,hok',r',q⟩:=h
    have q':v=.bl true:=q
    subst q'
    obtain rfl:u=Value.bool true:=r'
    refine ⟨rfl,OldK.of_keep fun b o e=>?_,os,bare⟩
    cases q:H b with
    | none=>exact un.keep b o e q (by intro z;exact absurd (show b∈([]:List Addr) from z) (by simp)) (by simp)
    | some u =>
     rcases hO b with z | ⟨ob,xs,z⟩
     ·rw [q] at z;cases z
     ·have z2:=un.frzs b ob _ z
      obtain ⟨e1,_⟩:=hok b _ z
      obtain ⟨e2,_⟩:=hok' b _ z2
      rw [e] at e1;cases e1
      exact e2
 cases hk:K.lookup a with
 | some o =>
  have e:=KX a o hk
  rw [ha] at e
  cases e
  refine core (fun _=>none) (fun _=>.inl rfl) (.inr ⟨_,vs.toArray,_,hk,rfl,rfl,rfl,by rw [Ou,lenV];exact hl,by simpa using rv⟩) (fun b u z=>by have z':(none:Option HO)=some u:=z;cases z') (fun b z=>absurd rfl z) fun z=>absurd rfl z
 | none =>
  refine core (fun b=>if b=a then some (.frz { cls:=.type "list",data:=.seq vs.toArray } (.lst (ns.map V.int))) else none) (fun b=>?_) (.inl (.inr ⟨{ cls:=.type "list",data:=.seq vs.toArray },if_pos rfl⟩)) (fun b u z=>?_) (fun b z=>?_) fun _=>hk
  ·by_cases hb:b=a
   ·exact .inr ⟨_,_,if_pos hb⟩
   ·exact .inl (if_neg hb)
  ·by_cases hb:b=a
   ·have z':=(if_pos hb).symm.trans z
    cases z'
    subst hb
    exact ⟨ha,by rw [Ox];exact hl,vs,_,rv,ha⟩
   ·have z':=(if_neg hb).symm.trans z
    cases z'
  ·by_cases hb:b=a
   ·exact hb
   ·exact absurd (if_neg hb) z
theorem walk_of {l:T9}{n k:Nat}{q:Program}{loose:List Str}{XP:(Str->Option Value)->Heap->Prop}{YP:World->Heap->Prop}{d:DefRec}{K:Params->Oo}{CX:World->Cd}{sp:World->Sp}{x:Str}
  (hn:l.most=some n) (hn2:n<=sizeLine) (hdf:d.params.defaults=[]) (hr:Room k callerA)
  (hY:∀(w:World)(h:Heap),YP w h->(K w.params).In h)
  (F:∀(w:World)(mg:Str->Option Value)(fa:Addr)(h:Heap),(K w.params).In h->h.Ns mainGlobals mg->mg d.name=some (.ref fa) ->
   ∃ fd:FuncData,(∀(s:Shared)(u:Value),BindsTo s fd ⟨[u],[]⟩ [(x,u)]) /\
    ∀ base:Heap,(K w.params).In base->base.Ns mainGlobals mg->Az l.prog w (K w.params) mg base (CX w) k fa fd [x] (sp w))
  (hsp:∀(w:World)(H:Hp)(a:Addr)(ns:List Int),ns.length<=n->Lp H->SqL (K w.params) H a (ns.map V.int)->sp w [.ref a] H (fun v _=>v=.bl true) fun _ _ _=>False)
  (hCX:∀(w:World)(H:Hp)(s:Shared)(e:Value)(s':Shared),CX w [] H s (fun _ _ _=>False) e s'->False) :
  PySem.W.WalkO q loose XP YP l.row.toRowW d [] (fun f vs=>PySem.call f vs):=by
 refine Att.attach_call hn hdf fun w s₀ s₁ mg mb fa o pm cd doc a vs ns G Y ho hd hcd hmg hobj hints hlen hg=>?_
 have KX:=hY w _ Y
 obtain ⟨fd,hb,hF⟩:=F w mg fa _ KX G.T.g hmg
 exact Zf5 KX G.T.g G.T.b G.T.builtins G.T.nolimit hg hobj hints (Pa hlen hn2) hr hF hb (fun H hO hS=>hsp w H a ns hlen hO hS) fun H e s'=>hCX w H s₁ e s'
noncomputable def Ez (s:Stmt):Arguments:=match s with
 | .FunctionDef _ a _ _ _ _ _ _ _ _=>a
 | _=>{ posonlyargs:=[],args:=[],vararg:=none,kwonlyargs:=[],kw_defaults:=[],kwarg:=none,defaults:=[] }
noncomputable def Dz (s:Stmt):List Stmt:=match s with
 | .FunctionDef _ _ b _ _ _ _ _ _ _=>b
 | _=>[]
noncomputable def A3 (s:Stmt):Scope:=match s with
 | .FunctionDef _ _ _ _ _ _ sc _ _ _=>sc
 | _=>{ kind:=.function,names:=[],isGenerator:=false,isCoroutine:=false }
noncomputable abbrev A0:Cd:=fun _ _ _ _ _ _=>False
noncomputable abbrev E0:XK:=fun _ _ _=>False
theorem Zfn {X:Cx}:Jc A0 X E0:=fun _ _ _ _ _ _ _ h=>h.elim
structure Fun (K:Oo)(x qual:Str)(st:Stmt)(f:Addr)(fd:FuncData):Prop where
 ex:∃(oc:Value)(od:Option Addr)(kV doc pm:Value)(an:Option Addr)(cdv ct:Value)(osl:Array (Option Value)),
  fd=Qd x qual (Ez st) (Dz st) (A3 st) .none kV doc pm an cdv ct/\K.lookup f=some ⟨oc,od,.func fd,osl⟩/\PySem.W.codeIn K cdv qual=true
 kp:Rq K (.ref f)=true
section
variable {P:Program}{w:World}{K:Oo}{mg:Str->Option Value}{base:Heap}
theorem Fun.ok {x qual:Str}{st:Stmt}{f:Addr}{fd:FuncData}{N ps:List Str}{k:Nat}{sp:Sp}(F:Fun K x qual st f fd)(S:Bg N ps (A3 st))(len:∀ vs H Q E,sp vs H Q E->vs.length=ps.length)
  (hbody:∀(cdv:Value)(A:Around)(outer:List Env)(s:Shared)(H:Hp)(vs:List V)(Q:VK)(E:XK),Room k (A.deeper (envOfC qual (A3 st) s.heap.objs.size f cdv))->sp vs H Q E ->
   ∃ t,PSs (Eo A0 P w K mg base N qual (A3 st) f cdv A outer s H E).nox (Dz st) t/\t { nx:=fun _ H'=>Q .non H',rt:=Q } (Dk N vs) H):Az P w K mg base A0 (k+1) f fd ps sp:=by
 obtain ⟨oc,od,kV,doc,pm,an,cdv,ct,osl,rfl,lk,hcd⟩:=F.ex
 refine Zhu lk hcd S len fun A outer s H vs Q E hr hsp=>?_
 obtain ⟨t,h,q⟩:=hbody cdv A outer s H vs Q E hr hsp
 exact ⟨t,h.nox,q⟩
theorem Fun.binds {x qual:Str}{st:Stmt}{f:Addr}{fd:FuncData}{ps:List Str}(F:Fun K x qual st f fd)
  (h:∀(kV doc pm:Value)(an:Option Addr)(cdv ct:Value)(us:List Value),us.length=ps.length->bindArgs (Qd x qual (Ez st) (Dz st) (A3 st) .none kV doc pm an cdv ct) ⟨us,[]⟩=pure (ps.zip us)):Binds K fd ps []:=by
 obtain ⟨oc,od,kV,doc,pm,an,cdv,ct,osl,rfl,lk,hcd⟩:=F.ex
 exact .all (h kV doc pm an cdv ct)
theorem fun_mk {x qual:Str}{st:Stmt}{f:Addr}{oc:Value}{od an:Option Addr}{osl:Array (Option Value)}{kV doc pm cdv ct:Value}(l:K.lookup f=some ⟨oc,od,.func (Qd x qual (Ez st) (Dz st) (A3 st) .none kV doc pm an cdv ct),osl⟩)
  (c:PySem.W.codeIn K cdv qual=true) (k:Rq K (.ref f)=true):Fun K x qual st f (Qd x qual (Ez st) (Dz st) (A3 st) .none kV doc pm an cdv ct):=⟨⟨oc,od,kV,doc,pm,an,cdv,ct,osl,rfl,l,c⟩,k⟩
end
section
variable {X:Cx}
end
theorem iteF {A B:Prop}(h:B):if false=true then A else B:=by
 rw [if_neg Oz]
 exact h
theorem iteT {A B:Prop}(h:A):if true=true then A else B:=by
 rw [if_pos rfl]
 exact h
theorem Bx {c A B:Prop}[Decidable c](h1:c->A)(h2:¬ c->B):if c then A else B:=by
 by_cases h:c
 ·rw [if_pos h]
  exact h1 h
 ·rw [if_neg h]
  exact h2 h
noncomputable def Same (H H':Hp):Prop:=∀ b o,H b=some o->H' b=some o
theorem Same.refl (H:Hp):Same H H:=fun _ _ h=>h
theorem Same.trans {H H1 H2:Hp}(a:Same H H1)(b:Same H1 H2):Same H H2:=fun c o h=>b c o (a c o h)
theorem Same.free {H H':Hp}(e:Same H H'){l:Addr}(h:H' l=Option.none):H l=Option.none:=by
 cases q:H l with
 | none=>rfl
 | some o =>
  rw [e l o q] at h
  cases h
theorem Same.seq {K:Oo}{H H':Hp}{a:Addr}{xs:List V}(e:Same H H')(h:SqL K H a xs):SqL K H' a xs:=by
 rcases h with (h | ⟨o,h⟩) | h
 ·exact .inl (.inl (e _ _ h))
 ·exact .inl (.inr ⟨o,e _ _ h⟩)
 ·exact .inr h
end L2
set_option maxHeartbeats 8000000
namespace L2
open PySem PySem.Spec PyProof.Rows
noncomputable def Ck (env:Env):List (Str×NameKind)->List (Str×Addr)->List (Str×Addr)
 | [],acc=>acc
 | (n,k)::r,acc=>Ck env r (if k == .free then (match env.cells.lookup n with | some a=>(n,a)::acc | none=>acc) else acc)
theorem Lr {env:Env}:∀{ns:List (Str×NameKind)}{acc:List (Str×Addr)}{x:Str}{c:Addr},(∀ x c,acc.lookup x=some c->env.cells.lookup x=some c)->(Ck env ns acc).lookup x=some c->env.cells.lookup x=some c
 | [],acc,x,c,h,e=>h x c e
 | (n,k)::r,acc,x,c,h,e=>by
  refine Lr (ns:=r) ?_ e
  intro y d
  split
  ·split
   ·rename_i a ha
    intro q
    rw [Qb] at q
    split at q
    ·rename_i hy
     have hy':y=n:=by simpa using hy
     subst hy'
     rw [ha];exact q
    ·exact h y d q
   ·exact h y d
  ·exact h y d
theorem Nn {env:Env}:∀{ns:List (Str×NameKind)}{acc:List (Str×Addr)}{x:Str},(acc.lookup x).isSome=true->((Ck env ns acc).lookup x).isSome=true
 | [],acc,x,h=>h
 | (n,k)::r,acc,x,h=>by
  refine Nn (ns:=r) ?_
  split
  ·split
   ·rw [Qb]
    split
    ·rfl
    ·exact h
   ·exact h
  ·exact h
theorem Mi {env:Env}:∀{ns:List (Str×NameKind)}{acc:List (Str×Addr)}{x:Str},(x,NameKind.free)∈ns->(env.cells.lookup x).isSome=true->((Ck env ns acc).lookup x).isSome=true
 | [],acc,x,h,_=>by cases h
 | (n,k)::r,acc,x,h,hc=>by
  rcases Oy.mp h with e | e
  ·cases e
   refine Nn (ns:=r) ?_
   obtain ⟨a,ha⟩:=Qr.mp hc
   rw [if_pos (by rfl),ha]
   show (List.lookup n ((n,a)::acc)).isSome=true
   rw [Qb]
   simp
  ·exact Mi (ns:=r) e hc
theorem Of {scope:Scope}{env:Env}(h:∀ x∈scope.names,x.2=.free->(env.cells.lookup x.1).isSome=true):closureFor scope env=pure (Ck env scope.names []):=by
 have all:∀(ns:List (Str×NameKind))(acc:List (Str×Addr)),(∀ x∈ns,x.2=.free->(env.cells.lookup x.1).isSome=true) ->
   (forIn ns acc fun (x:Str×NameKind) (cs:List (Str×Addr))=>(if (x.2 == NameKind.free)=true then do let a <- cellOf env x.1;pure (ForInStep.yield ((x.1,a)::cs)) else pure (ForInStep.yield cs):Sem (ForInStep (List (Str×Addr)))))=pure (Ck env ns acc):=by
  intro ns
  induction ns with
  | nil=>intro acc _;rfl
  | cons x r ih =>
   intro acc hx
   obtain ⟨n,k⟩:=x
   rw [Ua]
   by_cases hk:(k == NameKind.free)=true
   ·obtain ⟨a,ha⟩:=Qr.mp (hx (n,k) Sh (by simpa using hk))
    have ha:env.cells.lookup n=some a:=ha
    have hcell:cellOf env n=pure a:=by unfold cellOf;rw [ha]
    simp only [hk,if_true,hcell]
    refine Eq.trans (ih ((n,a)::acc) fun y hy=>hx y (Qt _ hy)) ?_
    conv=>rhs;unfold Ck
    simp only [hk,if_true,ha]
   ·simp only [hk]
    refine Eq.trans (ih acc fun y hy=>hx y (Qt _ hy)) ?_
    conv=>rhs;unfold Ck
    simp only [hk]
    rfl
 unfold closureFor
 exact (by
  have:=all scope.names [] h
  first | exact this | (simp only [bind_pure] ;exact this) | simpa using this)
noncomputable def Bw (X:Cx)(scope:Scope)(C:Addr)(N:List Str)(s₀:Shared)(H₀:Hp)(ex:List Addr):Cx where
 prog:=X.prog
 w:=X.w
 K:=X.K
 mg:=X.mg
 base:=X.base
 A:=X.A
 N:=N
 s₀:=s₀
 H₀:=H₀
 env:=compEnvC scope (Ck X.env scope.names []) C X.env
 outer:=X.stack
 stack:=X.stack
 ex:=ex
 fn:=fun _=>false
 calm:=X.calm
 pn:=[]
 xe:=fun _ _=>False
structure Ey (sc:Scope)(env:Env):Prop where
 kind:sc.kind=.function
 nocell:∀ y∈sc.names,y.2≠.cell
 loc:∀ y∈sc.names,y.2=.local->sc.names.lookup y.1=some .local
 free:∀ x∈sc.names,x.2=.free->(env.cells.lookup x.1).isSome=true
theorem Ib {env:Env}:∀{names:List (Str×NameKind)}{x:Str}{k:NameKind},((names.map fun (n,k)=>if (k == NameKind.free && env.scope.kind == .function && env.kindOf n == some .cell) then (n,NameKind.cell) else (n,k)).lookup x=some k) ->
  ∃ k',names.lookup x=some k'/\(k'=k\/(k'=.free/\k=.cell))
 | [],x,k,h=>by simp at h
 | (n,q)::r,x,k,h=>by
  have ih:=@Ib env r x k
  have h:List.lookup x ((if (q == NameKind.free && env.scope.kind == .function && env.kindOf n == some .cell)=true then (n,NameKind.cell) else (n,q))::_)=some k:=h
  rw [Qb]
  cases hx:x == n with
  | true =>
   by_cases hc:(q == NameKind.free && env.scope.kind == .function && env.kindOf n == some .cell)=true
   ·rw [if_pos hc] at h
    simp only [Qb,hx] at h
    refine ⟨q,rfl,.inr ⟨?_,(O4 h).symm⟩⟩
    simp only [Qi] at hc
    simpa using hc.1.1
   ·rw [if_neg hc] at h
    simp only [Qb,hx] at h
    exact ⟨q,rfl,.inl (O4 h)⟩
  | false =>
   by_cases hc:(q == NameKind.free && env.scope.kind == .function && env.kindOf n == some .cell)=true
   ·rw [if_pos hc] at h
    simp only [Qb,hx] at h
    exact ih h
   ·rw [if_neg hc] at h
    simp only [Qb,hx] at h
    exact ih h
noncomputable def Ed (X:Cx)(scope:Scope)(N:List Str)(σ σ0:St):Prop :=
 σ0.length=N.length/\∀(i:Nat)(x:Str)(v:V),N[i]?=some x->σ0[i]?=some (some v)->∃ j:Nat,X.N[j]?=some x/\σ[j]?=some (some v)/\scope.names.lookup x=some .free/\(X.env.kindOf x=some .cell\/X.env.kindOf x=some .free)
section
variable {X:Cx}
theorem Zg3 {scope:Scope}{N:List Str}{pins:List (Addr×Obj)}{σ σ0:St}{H:Hp}{s:Shared}{h':Heap}{tk:Nat}{fp:List Addr}(I:Inv X pins σ H s)(S:Ey scope X.env)(hf:∀ b∈fp,FpOk X pins H b)(hlt:∀ b∈fp,b < s.heap.objs.size)
  (T:Ed X scope N σ σ0) (hn:h'.Ns s.heap.objs.size (fun _=>none)) (hk:∀ b o,s.heap.get? b=some o->h'.get? b=some o) :
  Inv (Bw X scope s.heap.objs.size N s H fp) [] σ0 H { s with heap:=h',toks:=tk }:=by
 have subC:∀ x c,(Ck X.env scope.names []).lookup x=some c->X.env.cells.lookup x=some c:=fun x c e=>Lr (ns:=scope.names) (acc:=[]) (fun y d z=>by simp at z) e
 have hasC:∀ x,scope.names.lookup x=some .free->∃ c,(Ck X.env scope.names []).lookup x=some c:=fun x e=>by
  have m:=Qg e
  exact Qr.mp (Mi m (S.free _ m rfl))
 have fsN:∀ b∈fp,b ∉ Cb X.stack:=fun b hb z=>by
  obtain ⟨_,f1,f2,_⟩:=hf b hb
  rcases Oy.mp (I.stkSub b z) with e | e
  ·exact f1 e
  ·exact f2 e
 have kinds:∀ x,((relabel scope X.env).names.lookup x=some .cell\/(relabel scope X.env).names.lookup x=some .free)->scope.names.lookup x=some .free:=fun x hx=>by
  rcases hx with hx | hx
  ·obtain ⟨k',e,q⟩:=Ib hx
   rcases q with q | ⟨q,_⟩
   ·subst q
    exact absurd rfl (S.nocell _ (Qg e))
   ·rw [e,q]
  ·obtain ⟨k',e,q⟩:=Ib hx
   rcases q with q | ⟨_,q⟩
   ·rw [e,q]
   ·cases q
 have noex:∀ b o,X.base.get? b=some o->b ∉ fp:=fun b o e hb=>by
  obtain ⟨_,_,_,f3,_⟩:=hf b hb
  rcases f3 with z | z
  ·exact I.ok.noex b o e z
  ·exact absurd (O5 (Ow e) (Pa I.ok.bsz z)) (Pp _)
 refine ⟨⟨I.ok.mod,S.kind,I.ok.glob,I.ok.blt,Oq _,fun x y c e1 e2=>I.ok.inj x y c (subC x c e1) (subC y c e2),fun x hx=>hasC x (kinds x hx),fun x c z=>absurd (show false=true from z) Oz,I.ok.hd,I.ok.frames,.inl rfl,
   fun b hb=>⟨O1 (hlt b hb),fun x c e=>(hf b hb).2.2.2.2.1 x c (subC x c e)⟩,I.bs,Pa I.ok.bsz I.sz,noex,fsN,I.stack,I.stkFree⟩,
  rfl,I.bare,Un.kept hk,⟨_,hn,fun i x v e1 e2 e3=>?_⟩,fun x c e=>?_,I.hok.fresh (Oq _),fun x c e=>I.freeC x c (subC x c e),fun p hp=>absurd (show p∈([]:List (Addr×Obj)) from hp) (by simp),I.hok.kept hk,T.1⟩
 ·obtain ⟨j,hj,hs,hfr,hkd⟩:=T.2 i x v e1 e2
  obtain ⟨m,_,hl⟩:=I.loc
  obtain ⟨u,r,l⟩:=hl j x v hj hs (hkd.elim (fun z=>Or.inr (Or.inl z)) fun z=>Or.inr (Or.inr z))
  refine ⟨u,r,.inr ⟨?_,?_⟩⟩
  ·show (relabel scope X.env).names.lookup x=some .cell\/(relabel scope X.env).names.lookup x=some .free
   rcases e3 with z | z | z
   ·obtain ⟨k',e,q⟩:=Ib (show (relabel scope X.env).names.lookup x=some .local from z)
    rw [hfr] at e
    cases e
    rcases q with q | ⟨_,q⟩ <;> cases q
   ·exact .inl z
   ·exact .inr z
  ·obtain ⟨c,hc⟩:=hasC x hfr
   refine ⟨c,hc,?_⟩
   rcases l with ⟨k,_⟩ | ⟨_,c',e,z⟩
   ·rcases hkd with hkd | hkd <;> (rw [hkd] at k;cases k)
   ·have e':=subC x c hc
    rw [e] at e'
    cases e'
    obtain ⟨o,ho,hd⟩:=z
    exact ⟨o,hk _ o ho,hd⟩
 ·obtain ⟨v,o,ho,hd⟩:=I.cell x c (subC x c e)
  exact ⟨v,o,hk _ o ho,hd⟩
theorem Zez {scope:Scope}{N:List Str}{pins pins':List (Addr×Obj)}{σ σ':St}{H H':Hp}{s s':Shared}{h':Heap}{fp:List Addr}(I:Inv X pins σ H s)(hf:∀ b∈fp,FpOk X pins H b)
  (I':Inv (Bw X scope s.heap.objs.size N s H fp) pins' σ' H' s') (hs:Pc s.heap.objs.size s'.heap h'):Inv X pins σ H' { s' with heap:=h' }:=by
 have hC:H' s.heap.objs.size=none:=I'.free
 have ne:∀ b o,s.heap.get? b=some o->b≠s.heap.objs.size:=fun b o e=>O1 (Ow e)
 have B:Un (Cb X.stack) fp H H' s.heap s'.heap:=I'.base
 refine I.call' (s':={ s' with heap:=h' }) (ch:=fp) I'.os ⟨fun b o e n hb hx=>?_,fun b o e n hb hx=>?_,B.free,fun b o e hx=>?_,B.tups,B.frzs,B.tbls⟩ (fun b o e=>?_) I'.bare (fun b hb=>?_)
 ·exact (hs.2 b (ne b o e)).trans (B.keep b o e n hb hx)
 ·obtain ⟨sl,q⟩:=B.slot b o e n hb hx
  exact ⟨sl,(hs.2 b (ne b o e)).trans q⟩
 ·obtain ⟨o',q⟩:=B.there b o e hx
  exact ⟨o',(hs.2 b (ne b o e)).trans q⟩
 ·refine (I'.hok b o e).stay (fun c w' hc q=>(hs.2 c ?_).trans q) (fun _ q=>q) fun _ _ q=>q
  rintro rfl
  rcases hc with rfl | hc
  ·rw [hC] at e;cases e
  ·rw [hC] at hc;cases hc
 ·obtain ⟨_,f1,_,f3,f4,f5⟩:=hf b hb
  exact ⟨f3,f1,f4,f5⟩
end
section
variable {prog:Program}{w:World}{A:Around}{R:Result->Shared->Prop}{s:Shared}
theorem Zdo {elt target iter:Expr}{ifs:List Expr}{scope:Scope}{pos:Pos}{it acc:Value}{env:Env}(I:Nat->Shared->Prop)
  (turn:∀ n s,I n s->wpAny (model prog w) A (pyNext it) (fun r s₁=>match r with
   | none=>R (.ok .next) s₁
   | some v=>wpAny (model prog w) A (letOwnedTupleGo target it v) (fun _ s₁'=>wpAny (model prog w) A (assign target env v) (fun _ s₂ =>
     wpAny (model prog w) A (forIn ifs true fun c r=>if r=true then do let ok <- isTrue c env (eval c env);pure (ForInStep.yield ok) else pure (ForInStep.yield r)) (fun ok s₃ =>
      if ok=true then wpAny (model prog w) A (eval elt env) (fun x s₄ =>
       wpAny (model prog w) A (call (.builtin "list.append") [acc,x]) (fun _ s₅=>∃ m,m < n/\I m s₅) (fun _ _=>False) s₄) (fun _ _=>False) s₃
      else ∃ m,m < n/\I m s₃) (fun _ _=>False) s₂) (fun _ _=>False) s₁') (fun _ _=>False) s₁) (fun _ _=>False) s)
  (n:Nat) (h:I n s):codeAny (model prog w) A (.compLoop (.ListComp elt [⟨target,iter,ifs,0⟩] scope pos) 0 it acc env) R s:=by
 refine codeAny_loop rfl I (fun n s hI=>?_) n h
 show wpAny _ A ((compTurn (.ListComp elt [⟨target,iter,ifs,0⟩] scope pos) 0 it acc env).onRaise (fun x=>do noteFrame x env;theTreesLotGoes x)) _ _ s
 refine wpAny_noted ?_
 rw [compTurn_list]
 have up:∀{α:Type}{t:Sem α}{Q:α->Shared->Prop}{s:Shared}{E:Value->Shared->Prop},wpAny (model prog w) A t Q (fun _ _=>False) s->wpAny (model prog w) A t Q E s:=fun h=>wpAny_noRaise h
 refine Op (Rs (Op (up (Ae (turn n s hI) fun r s₁ h₁=>?_))))
 cases r with
 | none=>exact Ot h₁
 | some v =>
  refine Op (up (Ae h₁ fun _ s₁' h₁'=>?_))
  refine Op (up (Ae h₁' fun _ s₂ h₂=>Op (up (Ae h₂ fun ok s₃ h₃=>?_))))
  cases ok with
  | false=>exact Ot ⟨rfl,h₃⟩
  | true =>
   exact Op (Op (up (Ae h₃ fun x s₄ h₄=>Op (up (Ae h₄ fun _ s₅ h₅=>Ot (Ot ⟨rfl,h₅⟩))))))
end
noncomputable def Em (J:It)(g:TG)(tt:TT)(te:TE)(σ0:St)(H1:Hp)(D:Addr)(Q:VK):Prop :=
 ∃ W:Nat->Nat->St->Hp->Prop,(∃ m,W 0 m σ0 (upd H1 D (.lst [])))/\∀ i m σ' H',W i m σ' H' ->
  (J.stop i H'/\Q (.ref D) H')\/(J.go i H'/\∃ N:St->Hp->Prop,(∀ σ2 H2,N σ2 H2->∃ m',m' < m/\W (i+1) m' σ2 H2)/\∀ x H2,J.yld i H' x H2->g x σ' H2 fun σ2 H3=>tt σ2 H3 fun b H4 =>
   if b=true then te σ2 H4 fun y H5=>∃ ys,H5 D=some (.lst ys)/\ys.length < sizeLine/\N σ2 (upd H5 D (.lst (ys++[y]))) else N σ2 H4)
noncomputable def Gk (wi:TI)(σ0:St->St)(g:TG)(tt:TT)(te:TE):TE:=fun σ H Q=>wi σ H fun J H1=>∀ D,H1 D=none->Em J g tt te (σ0 σ) H1 D Q
noncomputable def Ek (X:Cx)(ifs:List Expr)(t:TT):Prop :=
 ∀(pins:List (Addr×Obj))(s:Shared)(σ:St)(H:Hp)(Q:Bool->Hp->Prop),Inv X pins σ H s->t σ H Q ->
  wpAny (model X.prog X.w) X.A (forIn ifs true fun c r=>if r=true then do let ok <- isTrue c X.env (eval c X.env);pure (ForInStep.yield ok) else pure (ForInStep.yield r)) (TP X pins σ Q) X.xe s
noncomputable def Iw:TT:=fun _ H Q=>Q true H
theorem Zi1 {X:Cx}:Ek X [] Iw:=fun _ _ _ H _ I h=>wpAny_tests_nil ⟨H,I,h⟩
theorem Zgb {X:Cx}{c:Expr}{t:TT}(h:PT X c t):Ek X [c] t:=fun pins s σ H Q I hw=>wpAny_tests_one (h pins s σ H Q I hw)
section
variable {X:Cx}{elt target iter:Expr}{ifs:List Expr}{scope:Scope}{pos:Pos}{N:List Str}{wi:TI}{σ0:St->St}{g:TG}{tt:TT}{te:TE}
theorem Za6 {pins:List (Addr×Obj)}{σ:St}{H:Hp}{s:Shared}{it:Addr}{fp:List Addr}{tn:Nat->Heap->Prop}{J:It}{Q:Addr->Hp->Prop}{RR:Value->Addr->Result->Shared->Prop}{E:Value->Shared->Prop}
  (hc:X.calm=true) (S:Ey scope X.env) (T:Ed X scope N σ (σ0 σ)) (I:Inv X pins σ H s) (Tn:Dm X.prog X.w X.K target J fp it tn) (st:tn 0 s.heap) (hf:∀ b∈fp,FpOk X pins H b)
  (hg:∀ C s H fp,PG (Bw X scope C N s H fp) target g) (ht:∀ C s H fp,Ek (Bw X scope C N s H fp) ifs tt) (he:∀ C s H fp,PE (Bw X scope C N s H fp) elt te)
  (hw:∀ D,H D=none->∃ W:Nat->Nat->St->Hp->Prop,(∃ m,W 0 m (σ0 σ) (upd H D (.lst [])))/\∀ i m σ' H',W i m σ' H' ->
   (J.stop i H'/\Q D H')\/(J.go i H'/\∃ N:St->Hp->Prop,(∀ σ2 H2,N σ2 H2->∃ m',m' < m/\W (i+1) m' σ2 H2)/\∀ x H2,J.yld i H' x H2->g x σ' H2 fun σ2 H3=>tt σ2 H3 fun b H4 =>
    if b=true then te σ2 H4 fun y H5=>∃ ys,H5 D=some (.lst ys)/\ys.length < sizeLine/\N σ2 (upd H5 D (.lst (ys++[y]))) else N σ2 H4))
  (hR:∀(D C:Addr)(H':Hp)(s':Shared)(m:Str->Option Value),s.heap.objs.size<=C->H' C=none->s'.heap.Ns C m->(∀ h',Pc C s'.heap h'->Inv X pins σ H' { s' with heap:=h' })->Q D H'->RR (.ref D) C (.ok .next) s') :
  wpAny (model X.prog X.w) X.A (newList []) (fun acc s₃=>wpAny (model X.prog X.w) X.A (newFunctionEnv scope X.env.globals (Ck X.env scope.names []) [] X.env.qual none .none (some X.env)) (fun cenv s₄ =>
   codeAny (model X.prog X.w) X.A (.compStart (.ListComp elt [⟨target,iter,ifs,0⟩] scope pos) 0 (.ref it) acc { cenv with scope:=relabel scope X.env }) (RR acc cenv.locals) s₄) E s₃) E s:=by
 refine Qa (wpAny_newFunctionEnv S.nocell (by intro y hy;simp at hy) (fun h₁ hns₁ hsb₁=>?_) S.kind)
 have hD:H s.heap.objs.size=none:=I.hok.fresh (Oq _)
 have I3:Inv X pins σ (upd H s.heap.objs.size (.lst [])) { s with heap:=s.heap.push { cls:=.type "list",dict:=none,data:=.seq ([]:List Value).toArray } }:=I.lnew (ys:=[]) (its:=[]) (t':=s.toks) .nil (by simp)
 have hlt:∀ b∈fp,b < s.heap.objs.size:=fun b hb=>by obtain ⟨o,e,_⟩:=Tn.obj _ _ st b hb;exact Ow e
 have hf3:∀ b∈fp,FpOk X pins (upd H s.heap.objs.size (.lst [])) b:=fun b hb=>⟨by rw [Af (O1 (hlt b hb))];exact (hf b hb).1,(hf b hb).2⟩
 have hlt3:∀ b∈fp,b < ({ s with heap:=s.heap.push { cls:=.type "list",dict:=none,data:=.seq ([]:List Value).toArray } }:Shared).heap.objs.size:=fun b hb=>by
  show b < (s.heap.push _).objs.size
  rw [Po]
  exact Tv (hlt b hb)
 have hk1:∀ b o,({ s with heap:=s.heap.push { cls:=.type "list",dict:=none,data:=.seq ([]:List Value).toArray } }:Shared).heap.get? b=some o->h₁.get? b=some o:=fun b o e =>
  hsb₁.extBut b o (O1 (Ow e)) (Ov _ e)
 have I4:=Zg3 (N:=N) (tk:=s.toks+([]:List (Str×Value)).length) I3 S hf3 hlt3 T hns₁ hk1
 have st4:tn 0 h₁:=Tn.keep _ _ _ st fun b hb o e=>hk1 b o (Ov _ e)
 obtain ⟨W,⟨m0,w0⟩,turn⟩:=hw _ hD
 generalize hX:Bw X scope ({ s with heap:=s.heap.push { cls:=.type "list",dict:=none,data:=.seq ([]:List Value).toArray } }:Shared).heap.objs.size N { s with heap:=s.heap.push { cls:=.type "list",dict:=none,data:=.seq ([]:List Value).toArray } } (upd H s.heap.objs.size (.lst [])) fp=X' at I4
 have eP:X'.prog=X.prog:=by rw [<- hX];rfl
 have eW:X'.w=X.w:=by rw [<- hX];rfl
 have eK:X'.K=X.K:=by rw [<- hX];rfl
 have eA:X'.A=X.A:=by rw [<- hX];rfl
 have eC:X'.calm=true:=by rw [<- hX];exact hc
 have eX:X'.xe=fun _ _=>False:=by rw [<- hX];rfl
 have eEx:X'.ex=fp:=by rw [<- hX];rfl
 have hg':PG X' target g:=by rw [<- hX];exact hg _ _ _ _
 have ht':Ek X' ifs tt:=by rw [<- hX];exact ht _ _ _ _
 have he':PE X' elt te:=by rw [<- hX];exact he _ _ _ _
 have eE:X'.env=compEnvC scope (Ck X.env scope.names []) ({ s with heap:=s.heap.push { cls:=.type "list",dict:=none,data:=.seq ([]:List Value).toArray } }:Shared).heap.objs.size X.env:=by rw [<- hX];rfl
 have fpIn:∀{H':Hp},(∀ b∈fp,H' b=none)->∀ b∈fp,FpOk X' [] H' b:=fun {H'} hn b hb=>by
  obtain ⟨f0,f1,f2,f3,f4,f5⟩:=hf3 b hb
  rw [<- hX]
  refine ⟨hn b hb,O1 (hlt3 b hb),fun z=>?_,.inl hb,fun x c e=>f4 x c (Lr (ns:=scope.names) (acc:=[]) (fun y d z=>by simp at z) e),fun p hp=>absurd (show p∈([]:List (Addr×Obj)) from hp) (by simp)⟩
  rcases Oy.mp (I3.stkSub b z) with e | e
  ·exact f1 e
  ·exact f2 e
 have fr0:∀ b∈fp,upd H s.heap.objs.size (.lst []) b=none:=fun b hb=>(hf3 b hb).1
 have loop:codeAny (model X.prog X.w) X.A (.compLoop (.ListComp elt [⟨target,iter,ifs,0⟩] scope pos) 0 (.ref it) (.ref s.heap.objs.size) X'.env)
   (RR (.ref s.heap.objs.size) ({ s with heap:=s.heap.push { cls:=.type "list",dict:=none,data:=.seq ([]:List Value).toArray } }:Shared).heap.objs.size)
   { s with heap:=h₁,toks:=s.toks+([]:List (Str×Value)).length }:=by
  refine Zdo (fun n s'=>∃ i σ' H',Inv X' [] σ' H' s'/\tn i s'.heap/\(∀ b∈fp,H' b=none)/\W i n σ' H') ?_ m0 ⟨0,σ0 σ,_,I4,st4,fr0,w0⟩
  rintro n s5 ⟨i,σ5,H5,I5,st5,fr5,w5⟩
  rcases turn i n σ5 H5 w5 with ⟨stop,qn⟩ | ⟨go,Nx,hN,step⟩
  ·have q:=Tn.done X' eP eW eK eC i [] s5 σ5 H5 (fun _ _=>False) I5 (fpIn fr5) st5 stop
   rw [eA] at q
   refine Ae q fun r s6 zq=>?_
   obtain ⟨hr,I6⟩:=zq
   subst hr
   obtain ⟨mm,hns6,_⟩:=I6.loc
   rw [eE] at hns6
   have fr6:=I6.free
   rw [eE] at fr6
   refine hR _ _ H5 s6 mm ?_ fr6 hns6 (fun h' hs=>?_) qn
   ·show s.heap.objs.size<=(s.heap.push _).objs.size
    rw [Po]
    exact Ru _
   ·rw [<- hX] at I6
    exact Zez I3 hf3 I6 hs
  ·have q:=Tn.item X' eP eW eK eC i [] s5 σ5 H5 (fun _ _=>False) I5 (fpIn fr5) st5 go
   rw [eA] at q
   refine Ae q fun r s6 zq=>?_
   obtain ⟨u,hr,h6⟩:=zq
   subst hr
   refine Ae h6 fun _ s7 zq=>?_
   obtain ⟨x,H7,I7,r7,y7,st7,fr7⟩:=zq
   have I7':=I7.pinned (fpIn fr7) (Tn.obj _ _ st7)
   have q8:=hg' _ s7 σ5 H7 x u _ I7' r7 (step x H7 y7)
   rw [eP,eW,eA,eX] at q8
   refine Ae q8 fun _ s8 zq=>?_
   obtain ⟨σ8,H8,I8,q8⟩:=zq
   have q9:=ht' _ s8 σ8 H8 _ I8 q8
   rw [eP,eW,eA,eX] at q9
   refine Ae q9 fun ok s9 zq=>?_
   obtain ⟨H9,I9,q9⟩:=zq
   have again:∀{σ10:St}{H10:Hp}{s10:Shared},Inv X' ([]++Fv fp s7.heap) σ10 H10 s10->Nx σ10 H10->∃ m,m < n/\∃ i σ' H',Inv X' [] σ' H' s10/\tn i s10.heap/\(∀ b∈fp,H' b=none)/\W i m σ' H':=fun {σ10 H10 s10} J10 n10=>by
    obtain ⟨m',hm,B8⟩:=hN σ10 H10 n10
    refine ⟨m',hm,i+1,σ10,H10,J10.unpinned,Tn.keep _ _ _ st7 fun b hb o e=>(J10.pin (b,o) (Pn _ (Pn _ (Hg hb e)))).1,fun b hb=>?_,B8⟩
    obtain ⟨o,e,d⟩:=Tn.obj _ _ st7 b hb
    exact (J10.pin (b,o) (Pn _ (Pn _ (Hg hb e)))).2.1
   cases ok with
   | false =>
    have q9':Nx σ8 H9:=q9
    exact again I9 q9'
   | true =>
    have q9':te σ8 H9 _:=q9
    have q10:=he' _ s9 σ8 H9 _ I9 q9'
    rw [eP,eW,eA,eX] at q10
    refine Ae q10 fun y s10 zq=>?_
    obtain ⟨yv,H10,I10,r10,ys,hys,hz,n10⟩:=zq
    have q11:=(Du (X:=X')) _ s10 σ8 H10 (.ref s.heap.objs.size) [yv] (.ref s.heap.objs.size) [y] (fun _ H11=>Nx σ8 H11) I10 rfl (.cons r10 .nil) ⟨_,ys,yv,rfl,rfl,hys,hz,n10⟩
    rw [eP,eW,eA,eX] at q11
    exact Ae q11 fun _ s11 ⟨_,H11,I11,_,n11⟩=>again I11 n11
 rw [eE] at loop
 exact codeAny_compStart_list loop (Tn.self _ 0 _ _ _ st4 loop)
theorem Zjm (hc:X.calm=true)(S:Ey scope X.env)(hi:PI X target iter wi)(T:∀ σ,σ.length=X.N.length->Ed X scope N σ (σ0 σ))
  (hg:∀ C s H fp,PG (Bw X scope C N s H fp) target g) (ht:∀ C s H fp,Ek (Bw X scope C N s H fp) ifs tt) (he:∀ C s H fp,PE (Bw X scope C N s H fp) elt te)
  (hs:∀ x,foldedSetIterable iter X.env x=pure x:=by intro _;rfl):PE X (.ListComp elt [⟨target,iter,ifs,0⟩] scope pos) (Gk wi σ0 g tt te):=by
 intro pins s σ H Q I h
 rw [eval_ListComp]
 refine wpAny_comprehension_free (use:=none) rfl hs (Of S.free) S.kind S.loc (Ae (hi pins s σ H _ I h) fun xv s₁ h₁=>Ae h₁ fun itv s₂ h₂=>?_)
 obtain ⟨it,fp,tn,J,H2,rfl,I2,Tn,st2,f2,hw⟩:=h₂
 refine Za6 (Q:=fun D H'=>Q (.ref D) H') (RR:=fun acc C=>compPost (model X.prog X.w) X.A X.xe none (EP X pins σ Q) acc C) hc S (T σ I.len) I2 Tn st2 f2 hg ht he hw ?_
 intro D C H' s' m hC _ hn hI hq
 exact ⟨m,hn,fun h' hs'=>⟨.ref D,H',hI h' hs',rfl,hq⟩⟩
theorem Ze9 {i:Nat}{y:Str}{py spos:Pos}(hc:X.calm=true)(S:Ey scope X.env)(hi:PI X target iter wi)(T:∀ σ,σ.length=X.N.length->Ed X scope N σ (σ0 σ))
  (hg:∀ C s H fp,PG (Bw X scope C N s H fp) target g) (ht:∀ C s H fp,Ek (Bw X scope C N s H fp) ifs tt) (he:∀ C s H fp,PE (Bw X scope C N s H fp) elt te)
  (hN:X.N.Nodup) (hy:X.N[i]?=some y) (hx:Dg X.env.scope y)
  (hsw:swapsWith (.ListComp elt [⟨target,iter,ifs,0⟩] scope pos) (some (.Name y py)) spos.line X.env=pure true:=by rfl)
  (hf:X.fn y=true\/X.env.scope.names.lookup y=some .local:=by first | exact .inl rfl | exact .inr rfl | assumption)
  (hs:∀ x,foldedSetIterable iter X.env x=pure x:=by intro _;rfl):PS X (.Assign [.Name y py] (.ListComp elt [⟨target,iter,ifs,0⟩] scope pos) spos) (D6 (Gk wi σ0 g tt te) (D8 i)):=by
 intro pins s σ H D I h
 rw [exec_Assign_Name_used _ _ _ _ hsw]
 refine Op (Rs (Op ?_))
 show wpAny _ X.A (do let _ <- comprehension (.ListComp elt [⟨target,iter,ifs,0⟩] scope pos) scope X.env _ (newList []) false (eval iter X.env) (some (assign (.Name y py) X.env))) _ _ s
 refine Op (Ae (wpAny_comprehension_free (use:=some (assign (.Name y py) X.env)) (Q:=fun _ s'=>SP X pins D .next s') rfl hs (Of S.free) S.kind S.loc
  (Ae (hi pins s σ H _ I h) fun xv s₁ h₁=>Ae h₁ fun itv s₂ h₂=>?_)) fun _ s' hq=>Ot (Ot hq))
 obtain ⟨it,fp,tn,J,H2,rfl,I2,Tn,st2,f2,hw⟩:=h₂
 refine Za6 (Q:=fun L H'=>D.nx (σ.set i (some (.ref L))) H') (RR:=fun acc C=>compPost (model X.prog X.w) X.A X.xe (some (assign (.Name y py) X.env)) (fun _ s'=>SP X pins D .next s') acc C) hc S (T σ I.len) I2 Tn st2 f2 hg ht he hw ?_
 intro L C H' s' m hC hfree hn hI hq
 have I3:Inv X pins σ H' s':=hI s'.heap (.refl ..)
 refine wpAny_assign_Name (Zbl I3 hN hy hx (v:=.ref L) rfl (fun s4 I4 hch=>?_) hf)
 obtain ⟨a,hsb,ha⟩:=hch
 have haC:C≠a:=by
  rintro rfl
  rcases ha with e | e
  ·have:=I2.lt
   rw [<- e] at this
   exact absurd (O5 this hC) (Pp _)
  ·obtain ⟨v,z⟩:=I2.cell y _ e
   exact absurd (O5 z.lt hC) (Pp _)
 refine ⟨m,hn.sameBut hsb haC,fun h' hs'=>⟨_,H',?_,hq⟩⟩
 have e4:({ s4 with heap:=h' }:Shared)={ s4 with heap:=h',toks:=s4.toks }:=rfl
 rw [e4]
 refine I4.turned (it:=C) (fun b o hb e=>(hs'.2 b hb).trans e) hfree ?_ (.inr (Pa I2.sz hC)) ?_ ?_
 ·exact Ql (O5 I2.lt hC)
 ·rintro x c e rfl
  obtain ⟨v,z⟩:=I2.cell x _ e
  exact absurd (O5 z.lt hC) (Pp _)
 ·rintro p hp e
  exact absurd (O5 (Ow (I2.pin p hp).1) (by rw [e];exact hC)) (Pp _)
end
section
variable {X:Cx}
theorem Zf1:OpR X (compareOp .In) (fun x y H Q=>∃(c:Nat)(j:Str),x=.str ⟨#[c]⟩/\y=.str j/\Q (.bl (decide (c∈j.cps.toList))) H):=by
 intro pins s σ H x y v u Q I rx ry h
 obtain ⟨c,j,rfl,rfl,q⟩:=h
 exact Zh4 pins s σ H _ _ v u Q I rx ry ⟨_,_,rfl,rfl,by rw [StrLaws.found_one];exact q⟩
noncomputable def rSlS:V->Option Int->Option Int->Hp->VK->Prop:=fun x lo hi H Q=>∃ z,x=.str z/\z.length<=sizeLine/\Q (.str (Rx z lo hi)) H
theorem sl_str:SlR X rSlS:=by
 intro pins s σ H x v vl vu lo hi sl Q I rx hs pl pu h
 obtain ⟨z,rfl,hz,q⟩:=h
 obtain ⟨t,rfl⟩:=rx
 obtain ⟨o,ho,hc,hd⟩:=hs
 refine ⟨"str",_,slot_str_getitem.lookup,typeIs_str _ _ _,?_⟩
 cases pl with
 | none =>
  cases pu with
  | none=>exact Sb (l:=none) (u:=none) (st:=none) ⟨_,ho,hc,hd⟩ rfl (Sr ⟨Pa (S6 z _ _) hz,fun t' k=>⟨.str (Rx z _ _),H,I.tok k,⟨t',rfl⟩,q⟩⟩)
  | int j u=>exact Sb (l:=none) (u:=some (j,u)) (st:=none) ⟨_,ho,hc,hd⟩ rfl (Sr ⟨Pa (S6 z _ _) hz,fun t' k=>⟨.str (Rx z _ _),H,I.tok k,⟨t',rfl⟩,q⟩⟩)
 | int i ti =>
  cases pu with
  | none=>exact Sb (l:=some (i,ti)) (u:=none) (st:=none) ⟨_,ho,hc,hd⟩ rfl (Sr ⟨Pa (S6 z _ _) hz,fun t' k=>⟨.str (Rx z _ _),H,I.tok k,⟨t',rfl⟩,q⟩⟩)
  | int j u=>exact Sb (l:=some (i,ti)) (u:=some (j,u)) (st:=none) ⟨_,ho,hc,hd⟩ rfl (Sr ⟨Pa (S6 z _ _) hz,fun t' k=>⟨.str (Rx z _ _),H,I.tok k,⟨t',rfl⟩,q⟩⟩)
end
noncomputable def Its (z:Str):It:=⟨fun i _=>i < z.cps.size,fun i H x H'=>H'=H/\∃ c,z.cps.toList[i]?=some c/\x=.str ⟨#[c]⟩,fun i _=>i=z.cps.size⟩
theorem Zfu (z:Str):["enumerate", "zip", "dict_itemiterator", "dict_reverseitemiterator", "odict_iterator", "itertools.zip_longest", "itertools.pairwise"].contains (strIterType z)=false:=by
 unfold strIterType
 cases z.cps.all (· < 128) <;> decide
theorem Zbd {P:Program}{w:World}{A:Around}(hh:A.handled=none)(it:Addr)(z:Str)(t:Tok):Walks P w A it [it] [it] z.cps.size (SignAt z) (fun i h=>h.IsStrIter it (strIterType z) z t i):=by
 unfold strIterType
 cases z.cps.all (· < 128)
 ·exact Walks.strWide hh it z t
 ·exact Walks.strAscii hh it z t
theorem Zev {P:Program}{w:World}{K:Oo}{tg:Expr}(it:Addr)(z:Str)(t:Tok):Dm P w K tg (Its z) [it] it (fun i h=>h.IsStrIter it (strIterType z) z t i) where
 mem:=by simp
 obj:=fun i h st b hb=>by
  have e:b=it:=by simpa using hb
  subst e
  obtain ⟨o,e,c,d⟩:=st
  exact ⟨o,e,fun v z=>by rw [d] at z;cases z⟩
 keep:=fun i h h' st k=>let ⟨o,e,r⟩:=st;⟨o,k it (by simp) o e,r⟩
 item:=by
  intro X hP hw hK hc i pins s σ H E I hf st hg
  subst hP hw hK
  obtain ⟨f0,f1,f2,f3,f4,f5⟩:=hf it (by simp)
  refine (Zbd (P:=X.prog) (w:=X.w) (I.ok.hd hc) it z t).item i s _ _ hg st fun v h' tk hv st' kk=>?_
  obtain ⟨c,u,hcu,rfl⟩:=hv
  have I1:Inv X pins σ H { s with heap:=h',toks:=tk }:=I.turned (fun b o hb e=>kk b o (by simpa using hb) e) f0 f1 f3 f4 f5
  obtain ⟨o,e,cc,d⟩:=id st'
  exact ⟨_,rfl,F2 (s:={ s with heap:=h',toks:=tk }) e cc d (Zfu z) ⟨.str ⟨#[c]⟩,H,I1,⟨u,rfl⟩,⟨rfl,c,by simpa using hcu,rfl⟩,st',fun b hb=>(hf b hb).1⟩⟩
 done:=by
  intro X hP hw hK hc i pins s σ H E I hf st hg
  subst hP hw hK
  obtain ⟨f0,f1,f2,f3,f4,f5⟩:=hf it (by simp)
  have hg:i=z.cps.size:=hg
  subst hg
  exact (Zbd (P:=X.prog) (w:=X.w) (I.ok.hd hc) it z t).done s _ _ st fun h' tk kk=>⟨rfl,I.turned (fun b o hb e=>kk b o (by simpa using hb) e) f0 f1 f3 f4 f5⟩
 self:=fun A i s Q E st h=>by
  obtain ⟨o,e,c,d⟩:=st
  unfold strIterType at c
  cases ha:z.cps.all (· < 128)
  ·rw [ha] at c;exact wpAny_pyIter_striter_wide ⟨o,e,c,d⟩ h
  ·rw [ha] at c;exact wpAny_pyIter_striter_ascii ⟨o,e,c,d⟩ h
section
variable {X:Cx}{tg:Expr}
end
section
variable {g:TG}{tt:TT}{te:TE}{σ0:St}{H1:Hp}{D:Addr}{Q:VK}
noncomputable def Hn (g:TG)(tt:TT)(te:TE)(D:Addr)(Nx:List V->St->Hp->Prop)(x:V)(σ:St)(H:Hp):Prop :=
 g x σ H fun σ2 H3=>tt σ2 H3 fun b H4=>if b=true then te σ2 H4 fun y H5=>∃ ys,H5 D=some (.lst ys)/\ys.length < sizeLine/\(∃ zs,upd H5 D (.lst (ys++[y])) D=some (.lst zs)/\Nx zs σ2 (upd H5 D (.lst (ys++[y])))) else ∃ zs,H4 D=some (.lst zs)/\Nx zs σ2 H4
theorem Om {lo:Int}{n:Nat}(Pv:Nat->List V->St->Hp->Prop)(h0:Pv 0 [] σ0 (upd H1 D (.lst [])))
  (hs:∀ i ys σ H,i < n->H D=some (.lst ys)->Pv i ys σ H->Hn g tt te D (Pv (i+1)) (.int (lo+i)) σ H)
  (hd:∀ ys σ H,H D=some (.lst ys)->Pv n ys σ H->Q (.ref D) H):Em (Eg lo n) g tt te σ0 H1 D Q:=by
 refine ⟨fun i m σ H=>m=n - i/\i<=n/\∃ ys,H D=some (.lst ys)/\Pv i ys σ H,⟨n,by simp,Pd _,[],Ac,h0⟩,?_⟩
 rintro i m σ H ⟨rfl,hi,ys,hD,p⟩
 by_cases hlt:i < n
 ·refine .inr ⟨hlt,fun σ2 H2=>∃ zs,H2 D=some (.lst zs)/\Pv (i+1) zs σ2 H2,fun σ' H' p'=>⟨n - (i+1),by omega,rfl,hlt,p'⟩,fun x H' y=>?_⟩
  obtain ⟨e,y⟩:=y
  subst e y
  exact hs i ys σ _ hlt hD p
 ·have e:i=n:=by omega
  subst e
  exact .inl ⟨Oq _,hd ys σ H hD p⟩
theorem Gv {K:Oo}{a:Addr}{xs:List V}(Pv:Nat->List V->St->Hp->Prop)(h0:Pv 0 [] σ0 (upd H1 D (.lst [])))(hl:∀ i ys σ H,i<=xs.length->Pv i ys σ H->SqL K H a xs)
  (hs:∀ i x ys σ H,xs[i]?=some x->H D=some (.lst ys)->Pv i ys σ H->Hn g tt te D (Pv (i+1)) x σ H)
  (hd:∀ ys σ H,H D=some (.lst ys)->Pv xs.length ys σ H->Q (.ref D) H):Em (D5 K a) g tt te σ0 H1 D Q:=by
 refine ⟨fun i m σ H=>m=xs.length - i/\i<=xs.length/\∃ ys,H D=some (.lst ys)/\Pv i ys σ H,⟨xs.length,by simp,Pd _,[],Ac,h0⟩,?_⟩
 rintro i m σ H ⟨rfl,hi,ys,hD,p⟩
 have q:=hl i ys σ H hi p
 by_cases hlt:i < xs.length
 ·refine .inr ⟨⟨xs,xs[i],q,by simp [hlt]⟩,fun σ2 H2=>∃ zs,H2 D=some (.lst zs)/\Pv (i+1) zs σ2 H2,fun σ' H' p'=>⟨xs.length - (i+1),by omega,rfl,hlt,p'⟩,fun x H' y=>?_⟩
  obtain ⟨e,y⟩:=y
  subst e
  exact hs i x ys σ _ (y xs q) hD p
 ·have e:i=xs.length:=by omega
  subst e
  exact .inl ⟨⟨xs,q,Oq _⟩,hd ys σ H hD p⟩
end
section
variable {X:Cx}
end
theorem Same.upd {H:Hp}{p:Addr}{o:HO}(h:H p=none):Same H (upd H p o):=fun b u e=>by rw [Af (An e h)];exact e
theorem Same.put {H0 H:Hp}{p:Addr}{o:HO}(s:Same H0 H)(h:H p=none):Same H0 (L2.upd H p o):=s.trans (Same.upd h)
theorem Same.over {H0 H:Hp}{p:Addr}{o:HO}(s:Same H0 H)(h:H0 p=none):Same H0 (L2.upd H p o):=fun b u e=>by rw [Af (An e h)];exact s b u e
theorem Same.tup {K:Oo}{H H':Hp}{a:Addr}{xs:List V}(e:Same H H')(h:SqT K H a xs):SqT K H' a xs:=by
 rcases h with (h | ⟨o,h⟩) | h
 ·exact .inl (.inl (e _ _ h))
 ·exact .inl (.inr ⟨o,e _ _ h⟩)
 ·exact .inr h
theorem De {sc out:Scope}{qual:Str}{n:Nat}{f:Addr}{cd:Value}(hk:sc.kind=.function)(hc:(sc.names.all fun y=>y.2 != .cell)=true)
  (hl:(sc.names.all fun y=>y.2 != .local || sc.names.lookup y.1 == some .local)=true) (hf:(sc.names.all fun y=>y.2 != .free || out.names.lookup y.1 == some .cell)=true):Ey sc (envOfC qual out n f cd) where
 kind:=hk
 nocell:=fun y hy e=>by have:=Rl.mp hc y hy;rw [e] at this;cases this
 loc:=fun y hy e=>by
  have:=Rl.mp hl y hy
  rw [e] at this
  simpa using this
 free:=fun y hy e=>by
  have h:=Rl.mp hf y hy
  rw [e] at h
  have h:out.names.lookup y.1=some .cell:=by simpa using h
  obtain ⟨c,hc⟩:=Ku (n:=n+1) h
  show ((cellsFrom (n+1) out.names []).lookup y.1).isSome=true
  rw [hc]
  rfl
noncomputable def Cm (k:Nat)(cap:List Nat)(σ:St):St:=Pj k none++cap.map fun j=>(σ[j]?).join
theorem Zer {X:Cx}{scope:Scope}{N:List Str}{k:Nat}{cap:List Nat}{σ:St}(hl:k+cap.length=N.length)
  (h:∀(i j:Nat)(x:Str),cap[i]?=some j->N[k+i]?=some x->X.N[j]?=some x/\scope.names.lookup x=some .free/\(X.env.kindOf x=some .cell\/X.env.kindOf x=some .free)):Ed X scope N σ (Cm k cap σ):=by
 refine ⟨by unfold Cm;simp [hl],fun i x v hx hv=>?_⟩
 unfold Cm at hv
 by_cases hi:i < k
 ·rw [Qf (by simpa using hi),List.getElem?_replicate,if_pos hi] at hv
  cases hv
 ·rw [Qp (by simpa using hi),List.length_replicate,Pg] at hv
  cases hj:cap[i - k]? with
  | none=>rw [hj] at hv;cases hv
  | some j =>
   rw [hj] at hv
   have hv:(σ[j]?).join=some v:=O4 hv
   obtain ⟨h1,h2,h3⟩:=h (i - k) j x hj (by rw [show k+(i - k)=i by omega];exact hx)
   refine ⟨j,h1,?_,h2,h3⟩
   cases e:σ[j]? with
   | none=>rw [e] at hv;cases hv
   | some o=>rw [e] at hv;exact congrArg some hv
theorem Df {X:Cx}{scope:Scope}{N:List Str}{k:Nat}{cap:List Nat}(hl:k+cap.length=N.length)
  (h:((cap.zip (N.drop k)).all fun p=>X.N[p.1]? == some p.2 && scope.names.lookup p.2 == some .free && (X.env.kindOf p.2 == some .cell || X.env.kindOf p.2 == some .free))=true):∀ σ,σ.length=X.N.length->Ed X scope N σ (Cm k cap σ):=fun σ _ =>
 Zer hl fun i j x hj hx=>by
  have m:(j,x)∈cap.zip (N.drop k):=by
   refine Px (i:=i) ?_
   rw [List.getElem?_zip_eq_some]
   exact ⟨hj,by rw [List.getElem?_drop];exact hx⟩
  have:=Rl.mp h _ m
  simp only [Qi,Bool.or_eq_true,beq_iff_eq] at this
  exact ⟨this.1.1,this.1.2,this.2⟩
theorem Zgr {α:Type}{xs:List α}{i:Int}(h0:0<=i)(h1:i < xs.length):∃ v,B5 xs i=some v/\v∈xs:=by
 have hj:i.toNat < xs.length:=by omega
 refine ⟨xs[i.toNat],?_,Rm hj⟩
 have:=Ct (xs:=xs) (j:=i.toNat) (v:=xs[i.toNat]) (by simp [hj])
 rwa [Int.toNat_of_nonneg h0] at this
noncomputable def Kl:Expr->Option V
 | .Constant (.str x) _ _=>some (.str x)
 | .Constant (.int i) _ _=>some (.int i)
 | .Constant (.bool b) _ _=>some (.bl b)
 | .Constant .none _ _=>some .non
 | _=>none
noncomputable def Ic:List Expr->Option (List V)
 | []=>some []
 | e::es=>match Kl e,Ic es with
  | some v,some vs=>some (v::vs)
  | _,_=>none
noncomputable def Lh (xs:List V):TA:=fun _ H Q=>Q xs H
theorem Zj0 {X:Cx}{e:Expr}{v:V}(h:Kl e=some v):PE X e (tC v)/\∀ es,starEach (e::es) X.env=(false,eval e X.env)::starEach es X.env:=by
 unfold Kl at h
 split at h
 ·cases h;exact ⟨Zab,fun _=>rfl⟩
 ·cases h;exact ⟨Zaq,fun _=>rfl⟩
 ·cases h;exact ⟨N0,fun _=>rfl⟩
 ·cases h;exact ⟨Zbi,fun _=>rfl⟩
 ·cases h
theorem N6 {X:Cx}:∀{es:List Expr}{xs:List V},Ic es=some xs->PA X es (Lh xs)
 | [],xs,h=>by
  have h:some []=some xs:=h
  cases h
  exact Zay
 | e::es,xs,h=>by
  unfold Ic at h
  split at h
  ·rename_i v vs h1 h2
   cases h
   obtain ⟨p,hs⟩:=Zj0 (X:=X) h1
   exact Np p (N6 h2) (hs es)
  ·cases h
structure A6 (P:Program)(w:World)(K:Oo)(mg:Str->Option Value)(base:Heap)(k:Nat)(x:Str)(ps:List Str)(sp:Sp):Prop where
 ex:∃(f:Addr)(fd:FuncData),Az P w K mg base A0 k f fd ps sp/\mg x=some (.ref f)/\Rq K (.ref f)=true/\Binds K fd ps []
section
variable {X:Cx}{k:Nat}{x:Str}{ps:List Str}{sp:Sp}{p pos:Pos}{e:Expr}{es:List Expr}{t:TA}
theorem Zhl (C:A6 X.prog X.w X.K X.mg X.base k x ps sp)(hr:Room k X.A)(ha:PA X (e::es) t)(hg:Gl X x:=by rfl)(hdb:(x == ("__debug__" : Str))=false:=by decide)
  (he:starEach (e::es) X.env=(false,eval e X.env)::starEach es X.env:=by rfl) (hpl:(backTo pos (starEach es X.env)).any (·.1)=false:=by rfl):PE X (.Call (.Name x p) (e::es) [] pos) (Hy sp [] E0 t):=by
 obtain ⟨f,fd,F,hm,hk,hb⟩:=C.ex
 exact Zjh F hr hg hm hk hb .nil Zfn ha hdb he hpl
end
end L2
namespace L2
open PySem
theorem Zfk {x:V}{u:Value}(h:He u=some x):RelV x u:=by
 cases u <;> simp only [He] at h <;> first | (cases h;first | rfl | exact ⟨_,rfl⟩) | cases h
noncomputable def E5:List Value->Option (List V)
 | []=>some []
 | u::r=>match He u,E5 r with
  | some x,some xs=>some (x::xs)
  | _,_=>none
theorem Za7:∀{us:List Value}{xs:List V},E5 us=some xs->Vals xs us
 | [],xs,h=>by
  have h:some []=some xs:=h
  cases h
  exact .nil
 | u::r,xs,h=>by
  unfold E5 at h
  split at h
  ·rename_i x ys h1 h2
   cases h
   exact .cons (Zfk h1) (Za7 h2)
  ·cases h
theorem Zaj {K:Oo}{a:Addr}{od:Option Addr}{its:Array Value}{n:Nat}{sl:Array (Option Value)}{xs:List V}(l:K.lookup a=some ⟨.type "tuple",od,.seq its n,sl⟩)(h:E5 its.toList=some xs)(hz:xs.length<=1000):∀ H,SqT K H a xs:=fun H=>by
 have v:=Za7 h
 refine .inr ⟨_,its,n,l,rfl,rfl,?_,v⟩
 have e:=v.length
 have b:1000<=sizeLine:=by decide
 have e2:its.toList.length=its.size:=Re
 omega
theorem Ls {P:Program}{w:World}{K:Oo}{mg:Str->Option Value}{base:Heap}{k:Nat}{x:Str}{ps:List Str}{sp:Sp}{f:Addr}{fd:FuncData}(F:Az P w K mg base A0 k f fd ps sp)(m:mg x=some (.ref f))(kp:Rq K (.ref f)=true)(b:Binds K fd ps []):A6 P w K mg base k x ps sp:=⟨f,fd,F,m,kp,b⟩
section
variable {P:Program}{w:World}{K:Oo}{mg:Str->Option Value}{base:Heap}
end
end L2
set_option autoImplicit true
namespace L2
open PySem PySem.Spec PyProof.Rows
structure QE (X:Cx)(e:Expr)(t:TE):Prop where
 run:PE X e t
structure QT (X:Cx)(e:Expr)(t:TT):Prop where
 run:PT X e t
structure QW (X:Cx)(e:Expr)(t:TT):Prop where
 run:PW X e t
structure QA (X:Cx)(es:List Expr)(t:TA):Prop where
 run:PA X es t
structure QS (X:Cx)(st:Stmt)(t:TS):Prop where
 run:PS X st t
structure Dc (X:Cx)(sts:List Stmt)(t:TS):Prop where
 run:PSs X sts t
structure QG (X:Cx)(e:Expr)(g:TG):Prop where
 run:PG X e g
structure QGs (X:Cx)(es:List Expr)(g:Co):Prop where
 run:PGs X es g
structure QI (X:Cx)(tg iter:Expr)(wi:TI):Prop where
 run:PI X tg iter wi
structure QC (X:Cx)(op:CmpOp)(a b:Expr)(t:TE):Prop where
 run:PC X op a b t
structure QO (X:Cx)(e:Option Expr)(t:TO):Prop where
 run:PO X e t
structure QTs (X:Cx)(ifs:List Expr)(t:TT):Prop where
 run:Ek X ifs t
theorem Ag {i j pos}:QE X (.Constant (.int i) j pos) (tC (.int i)):=⟨Zaq⟩
theorem Dx {b j pos}:QE X (.Constant (.bool b) j pos) (tC (.bl b)):=⟨N0⟩
theorem D7 {j pos}:QE X (.Constant .none j pos) (tC .non):=⟨Zbi⟩
theorem Aq {x j pos}:QE X (.Constant (.str x) j pos) (tC (.str x)):=⟨Zab⟩
theorem Db {x:Str}{v:V}{u:Value}{pos:Pos}(hg:Gl X x)(hm:X.mg x=none)(hv:bootBuiltins x=some u)(r:RelV v u)(hn:x ≠ "__name__" := by decide)(hd:(x == ("__debug__" : Str))=false:=by decide):QE X (.Name x pos) (tC v):=⟨Zgx hg hm hv r hn hd⟩
theorem Ba {op:Operator}{r:R2}(ho:OpR X (binaryOp op) r)(ha:QE X a ta)(hb:QE X b tb):QE X (.BinOp a op b pos) (Dd r ta tb):=⟨Zh6 ho ha.run hb.run⟩
theorem Zbc {op:UnaryOp}{r:V->Hp->VK->Prop}(ho:UnR X (unaryOp op) r)(ha:QE X a ta):QE X (.UnaryOp op a pos) (tUn r ta):=⟨Zd1 ho ha.run⟩
theorem Ng {op:CmpOp}{t:TE}(h:QC X op a b t)(h1:behindInMarks op b=false:=by first | exact Ig _ (by decide) (by decide) | rfl):QE X (.Compare a [op] [b] pos) t:=⟨Zen h.run h1⟩
theorem Fg {op:CmpOp}{t:TE}(h:QC X op a b t)(h1:behindInMarks op b=false:=by first | exact Ig _ (by decide) (by decide) | rfl):QT X (.Compare a [op] [b] pos) (tB t):=⟨Zi5 h.run h1⟩
theorem Gj {op:CmpOp}{r:R2}(ho:OpR X (compareOp op) r)(ha:QE X a ta)(hb:QE X b tb)(hm:behindInMarks op b=false):QE X (.Compare a [op] [b] pos) (Dd r ta tb):=⟨Zdw ho ha.run hb.run hm⟩
theorem Ax {op:CmpOp}{r:R2}(ho:OpR X (compareOp op) r)(ha:QE X a ta)(hb:QE X b tb)(hm:behindInMarks op b=false):QT X (.Compare a [op] [b] pos) (Jx (Dd r ta tb)):=⟨Zgz ho ha.run hb.run hm⟩
theorem Dy {e:Expr}{t:TE}(h:QE X e t)(he:∀ whole,isTrue e X.env whole=(do let v <- whole;standAt e.pos;holding [v] (truthy v)):=by intro _;rfl):QT X e (tB t):=⟨Zi9 h.run he⟩
theorem Kh (ha:QT X a tA):QW X (.BoolOp .And [a] pos) tA:=⟨pw_and1 ha.run⟩
theorem Zbq (ha:QT X a tA):QW X (.BoolOp .Or [a] pos) tA:=⟨pw_or1 ha.run⟩
theorem Lm {rest:List Expr}(ha:QT X a tA)(hb:QW X (.BoolOp .And (b::rest) pos) tB'):QW X (.BoolOp .And (a::b::rest) pos) (Jw tA tB'):=⟨pw_and ha.run hb.run⟩
theorem Zb7 {rest:List Expr}(ha:QT X a tA)(hb:QW X (.BoolOp .Or (b::rest) pos) tB'):QW X (.BoolOp .Or (a::b::rest) pos) (tOr tA tB'):=⟨pw_or ha.run hb.run⟩
theorem Gn (ha:QT X a tA):QT X (.UnaryOp .Not a pos) (Jv tA):=⟨Zcs ha.run⟩
theorem Jk {op}{t:TE}(h:QE X a t):QE X (.BoolOp op [a] pos) t:=⟨Zf7 h.run⟩
theorem Hm {rest:List Expr}(ha:QE X a ta)(hb:QE X (.BoolOp .And (b::rest) pos) tb):QE X (.BoolOp .And (a::b::rest) pos) (Jz ta tb):=⟨Zde ha.run hb.run⟩
theorem Zcv (ha:QE X a ta):QE X (.UnaryOp .Not a pos) (Ke ta):=⟨Zgg ha.run⟩
theorem G5 {c:Expr}(hc:QT X c tA)(ha:QE X a ta)(hb:QE X b tb):QE X (.IfExp c a b pos) (tIf tA ta tb):=⟨Zeh hc.run ha.run hb.run⟩
theorem Ay  : Dc X [] Jh:=⟨Zhr⟩
theorem Ad {st:Stmt}{rest:List Stmt}{t u:TS}(h1:QS X st t)(h2:Dc X rest u):Dc X (st::rest) (Jy t u):=⟨Zgm h1.run h2.run⟩
theorem Ai {st:Stmt}{t:TS}(h1:QS X st t):Dc X [st] t:=⟨Zgv h1.run⟩
theorem Md  : QS X (.Continue pos) Zat:=⟨Zcw⟩
theorem C3 {e:Expr}{te:TE}(he:QE X e te)(hs:swapsWith e none pos.line X.env=pure false:=by rfl):QS X (.Expr e pos) (Km te):=⟨Zhc he.run hs⟩
theorem Ar {e:Expr}{te:TE}(he:QE X e te):QS X (.Return (some e) pos) (Lf te):=⟨Zhf he.run⟩
theorem As {t u:TS}{c:Expr}{a b:List Stmt}{tc:TT}(hc:QT X c tc)(ha:Dc X a t)(hb:Dc X b u):QS X (.If c a b pos) (K1 tc t u):=⟨Zea hc.run ha.run hb.run⟩
theorem C0  : QGs X [] Kz:=⟨Zg8⟩
theorem Be {e:Expr}{es:List Expr}{t:TG}{u:Co}(h1:QG X e t)(h2:QGs X es u)(hs:(assignEach (e::es) X.env).map (·.2)=assign e X.env::(assignEach es X.env).map (·.2):=by rfl):QGs X (e::es) (Iq t u):=⟨Zfc h1.run h2.run hs⟩
theorem Av {i:Nat}{x:Str}(hN:X.N.Nodup)(hi:X.N[i]?=some x)(hx:Dg X.env.scope x)(hf:X.fn x=true\/X.env.scope.names.lookup x=some .local:=by first | exact .inl rfl | exact .inr rfl | assumption):QG X (.Name x pos) (D8 i):=⟨Zbt hN hi hx hf⟩
theorem Zjf {es:List Expr}{k:Nat}{t:Co}{n:Nat}(hc:X.calm=true)(h:QGs X es t)(hn:(assignEach es X.env).length=n:=by rfl)(hst:(assignEach es X.env).findIdx? (·.1)=none:=by rfl):QG X (.Tuple es k pos) (Im X.K n t):=⟨Zi7 hc h.run hn hst⟩
theorem Zfa {o i:Expr}{to ti:TE}{t:Gx}(ho:QE X o to)(hi:QE X i ti)(hs:Ko X t)(ha:∀ v,assign (.Subscript o i pos) X.env v=(do
   let ov <- holding [v] (eval o X.env)
   let iv <- holding [v,ov] (eval i X.env)
   standAt pos
   holding [v,ov,iv] (setItem ov iv v)
   release [v,ov,iv] []):=by intro _;rfl):QG X (.Subscript o i pos) (Lc to ti t):=⟨Zf2 ho.run hi.run hs ha⟩
theorem Fq {tg e:Expr}{te:TE}{g:TG}(he:QE X e te)(hg:QG X tg g)(hs:swapsWithSole [tg] e pos.line X.env=pure false:=by rfl)(hw:swappedStores [tg] e X.env=pure none:=by rfl)(h1:(assignEach [tg] X.env).map (·.2)=[assign tg X.env]:=by rfl):QS X (.Assign [tg] e pos) (D6 te g):=⟨Zeg he.run hg.run hs hw h1⟩
theorem Hj {i:Nat}{x:Str}{e:Expr}{te:TE}{pos':Pos}(hN:X.N.Nodup)(hi:X.N[i]?=some x)(hx:Dg X.env.scope x)(he:QE X e te)(hs:swapsWith e (some (.Name x pos')) pos.line X.env=pure false:=by rfl)(hf:X.fn x=true\/X.env.scope.names.lookup x=some .local:=by first | exact .inl rfl | exact .inr rfl | assumption):QS X (.Assign [.Name x pos'] e pos) (D6 te (D8 i)):=⟨Zjb hN hi hx he.run hs hf⟩
theorem Fn {c:Expr}{body:List Stmt}{tc:TT}{tb:TS}(hp:PassesOwn (model X.prog X.w) X.A X.env X.xe)(hc:QT X c tc)(hb:Dc X body tb):QS X (.While c body [] pos) (Ob tc tb):=⟨Zbo hp hc.run hb.run⟩
theorem Hu {a:Expr}{ta:TA}{p pos:Pos}(hg:Gl X "range")(hm:X.mg "range" = none)(ha:QA X [a] ta)(hs:starEach [a] X.env=[(false,eval a X.env)]:=by rfl):QI X tg (.Call (.Name "range" p) [a] [] pos) (Jt ta):=⟨Ziu hg hm ha.run hs⟩
theorem Da {iter:Expr}{body:List Stmt}{wi:TI}{g:TG}{tb:TS}{pos:Pos}(hp:PassesOwn (model X.prog X.w) X.A X.env X.xe)(hc:X.calm=true)(hi:QI X tg iter wi)(hg:QG X tg g)(hb:Dc X body tb)(hs:∀ x,foldedSetIterable iter X.env x=pure x:=by intro _;rfl):QS X (.For tg iter body [] pos) (Kc wi g tb):=⟨Zfw hp hc hi.run hg.run hb.run hs⟩
theorem Ab  : QA X [] Kw:=⟨Zay⟩
theorem Aa (ha:QE X e te)(hr:QA X es t)(hs:starEach (e::es) X.env=(false,eval e X.env)::starEach es X.env:=by rfl):QA X (e::es) (Jm te t):=⟨Np ha.run hr.run hs⟩
theorem Ap {x1}(h:QA X es t):QE X (.Tuple es x1 pos) (Lz t):=⟨Zdt h.run⟩
theorem Bb (h:QA X es t):QE X (.List es pos) (Kg t):=⟨Zdu h.run⟩
theorem Bc (C:A6 X.prog X.w X.K X.mg X.base k x ps sp)(hr:Room k X.A)(ha:QA X (e::es) t)(hg:Gl X x:=by rfl)(hdb:(x == ("__debug__" : Str))=false:=by decide)(he:starEach (e::es) X.env=(false,eval e X.env)::starEach es X.env:=by rfl)(hpl:(backTo pos (starEach es X.env)).any (·.1)=false:=by rfl):QE X (.Call (.Name x p) (e::es) [] pos) (Hy sp [] E0 t):=⟨Zhl C hr ha.run hg hdb he hpl⟩
theorem Bp {id:String}(hc:B4 X (.builtin id) r)(hg:Gl X x)(hm:X.mg x=none)(hv:bootBuiltins x=some (.builtin id))(ha:QA X (e::es) t)(hn:x ≠ "__name__" := by decide)(hdb:(x == ("__debug__" : Str))=false:=by decide)(he:starEach (e::es) X.env=(false,eval e X.env)::starEach es X.env:=by rfl)(hpl:(backTo pos (starEach es X.env)).any (·.1)=false:=by rfl):QE X (.Call (.Name x p) (e::es) [] pos) (tCB r t):=⟨Zby hc hg hm hv ha.run hn hdb he hpl⟩
theorem Fi {T:String}(hc:B4 X (.type T) r)(hg:Gl X x)(hm:X.mg x=none)(hv:bootBuiltins x=some (.type T))(ha:QA X (e::es) t)(hn:x ≠ "__name__" := by decide)(hdb:(x == ("__debug__" : Str))=false:=by decide)(he:starEach (e::es) X.env=(false,eval e X.env)::starEach es X.env:=by rfl)(hpl:(backTo pos (starEach es X.env)).any (·.1)=false:=by rfl):QE X (.Call (.Name x p) (e::es) [] pos) (tCB r t):=⟨Zf3 hc hg hm hv ha.run hn hdb he hpl⟩
theorem Jq  : QO X none Jl:=⟨Zik⟩
theorem Dj (h:QE X e te):QO X (some e) (Ld te):=⟨Zjt h.run⟩
theorem Fd {lo hi:Option Expr}{r:V->Option Int->Option Int->Hp->VK->Prop}(hr:SlR X r)(he:QE X e te)(hl:QO X lo tl)(hu:QO X hi th):QE X (.Subscript e (.Slice lo hi none p2) pos) (tSl r te tl th):=⟨Zff hr he.run hl.run hu.run⟩
theorem Zjr {r:R2}(hr:IxR X r)(ha:QE X a ta)(hb:QE X b tb)(hs:K9 b):QE X (.Subscript a b pos) (Dd r ta tb):=⟨Zcr hr ha.run hb.run hs⟩
theorem Zfx {T id:String}(pa:PlainAttrs T)(slot:Slot T name id)(hty:typeOf (.builtin id)=pure (.type "method_descriptor"))(hm:Fm X id r)(ho:QE X o to)(ha:QA X (e::es) t)(hbase:attributeBase o name X.env (eval o X.env)=eval o X.env:=by rfl)(hfew:((backTo cpos (starEach (e::es) X.env)).all (fun x=>!x.1) && (backToKw cpos (keywordEach [] X.env)).all (fun x=>x.1.isSome)
   && decide ((e::es).length+([]:List Keyword).length+(if ([]:List Keyword).isEmpty then 0 else 1) < 30))=true:=by rfl) (hline:(apos.endLine == cpos.line)=true:=by rfl) (hs:starEach (e::es) X.env=(false,eval e X.env)::starEach es X.env:=by rfl) (hplain:(backTo cpos (starEach es X.env)).any (·.1)=false:=by rfl):QE X (.Call (.Attribute o name apos) (e::es) [] cpos) (tBM X.K T r to t):=⟨Zcd pa slot hty hm ho.run ha.run hbase hfew hline hs hplain⟩
theorem Zgd {T id:String}(pa:PlainAttrs T)(slot:Slot T name id)(hty:typeOf (.builtin id)=pure (.type "method_descriptor"))(hm:Fm X id r)(ho:QE X o to)(hbase:attributeBase o name X.env (eval o X.env)=eval o X.env:=by rfl)(hline:(apos.endLine == cpos.line)=true:=by rfl):QE X (.Call (.Attribute o name apos) [] [] cpos) (Hi X.K T r to):=⟨Zid pa slot hty hm ho.run hbase hline⟩
theorem Ew (hc:X.calm=true)(S:Ey scope X.env)(hi:QI X target iter wi)(T:∀ σ,σ.length=X.N.length->Ed X scope N σ (σ0 σ))(hg:∀ C s H fp,QG (Bw X scope C N s H fp) target g)(ht:∀ C s H fp,QTs (Bw X scope C N s H fp) ifs tt)(he:∀ C s H fp,QE (Bw X scope C N s H fp) elt te)(hs:∀ x,foldedSetIterable iter X.env x=pure x:=by intro _;rfl):QE X (.ListComp elt [⟨target,iter,ifs,0⟩] scope pos) (Gk wi σ0 g tt te):=⟨Zjm hc S hi.run T (fun C s H fp=>(hg C s H fp).run) (fun C s H fp=>(ht C s H fp).run) (fun C s H fp=>(he C s H fp).run) hs⟩
theorem Zba {i:Nat}{y:Str}{py spos:Pos}(hc:X.calm=true)(S:Ey scope X.env)(hi:QI X target iter wi)(T:∀ σ,σ.length=X.N.length->Ed X scope N σ (σ0 σ))(hg:∀ C s H fp,QG (Bw X scope C N s H fp) target g)(ht:∀ C s H fp,QTs (Bw X scope C N s H fp) ifs tt)(he:∀ C s H fp,QE (Bw X scope C N s H fp) elt te)(hN:X.N.Nodup)(hy:X.N[i]?=some y)(hx:Dg X.env.scope y)(hsw:swapsWith (.ListComp elt [⟨target,iter,ifs,0⟩] scope pos) (some (.Name y py)) spos.line X.env=pure true:=by rfl)(hf:X.fn y=true\/X.env.scope.names.lookup y=some .local:=by first | exact .inl rfl | exact .inr rfl | assumption)(hs:∀ x,foldedSetIterable iter X.env x=pure x:=by intro _;rfl):QS X (.Assign [.Name y py] (.ListComp elt [⟨target,iter,ifs,0⟩] scope pos) spos) (D6 (Gk wi σ0 g tt te) (D8 i)):=⟨Ze9 hc S hi.run T (fun C s H fp=>(hg C s H fp).run) (fun C s H fp=>(ht C s H fp).run) (fun C s H fp=>(he C s H fp).run) hN hy hx hsw hf hs⟩
theorem E9 {X:Cx}:QTs X [] Iw:=⟨Zi1⟩
theorem Ji {X:Cx}{c:Expr}{t:TT}(h:QT X c t):QTs X [c] t:=⟨Zgb h.run⟩
theorem Hl {j pos'}(ha:QE X a ta):QC X .Is a (.Constant .none j pos') (Ja ta):=⟨Zh0 ha.run⟩
theorem Zjo {j pos'}(ha:QE X a ta):QC X .IsNot a (.Constant .none j pos') (Kf ta):=⟨Zfv ha.run⟩
theorem Zew {X:Cx}{es:List Expr}{xs:List V}(h:Ic es=some xs):QA X es (Lh xs):=⟨N6 h⟩
theorem qv {X:Cx}(i:Nat){x:Str}{pos:Pos}(hN:X.N[i]?=some x:=by rfl)(hv:Vis X.env.scope x:=by first | exact Or.inl rfl | exact Or.inr (Or.inl rfl) | exact Or.inr (Or.inr rfl))(hd:(x == ("__debug__" : Str))=false:=by decide)
  (hcd:(x == ("__classdict__" : Str))=false:=by decide):QE X (.Name x pos) (Lx i):=⟨Zdg hN hv hd hcd⟩
theorem QW.qt {X:Cx}{e:Expr}{t:TT}(h:QW X e t):QT X e t:=⟨h.run.pt⟩
section
variable {P:Program}{w:World}{K:Oo}{mg:Str->Option Value}{base:Heap}
theorem Fun.okq {x qual:Str}{st:Stmt}{f:Addr}{fd:FuncData}{N ps:List Str}{k:Nat}{sp:Sp}(F:Fun K x qual st f fd)(S:Bg N ps (A3 st))(len:∀ vs H Q E,sp vs H Q E->vs.length=ps.length)
  (hbody:∀(cdv:Value)(A:Around)(outer:List Env)(s:Shared)(H:Hp)(vs:List V)(Q:VK)(E:XK),Room k (A.deeper (envOfC qual (A3 st) s.heap.objs.size f cdv))->sp vs H Q E ->
   ∃ t,Dc (Eo A0 P w K mg base N qual (A3 st) f cdv A outer s H E).nox (Dz st) t/\t { nx:=fun _ H'=>Q .non H',rt:=Q } (Dk N vs) H):Az P w K mg base A0 (k+1) f fd ps sp :=
 F.ok S len fun cdv A outer s H vs Q E hr h=>by
  obtain ⟨t,q,r⟩:=hbody cdv A outer s H vs Q E hr h
  exact ⟨t,q.run,r⟩
end
section
variable {X:Cx}
noncomputable def Zcy:R2:=fun x y H Q=>∃ i j,x=.str i/\y=.str j/\i.length+j.length<=sizeLine/\Q (.str (i++j)) H
noncomputable def Ma (K:Oo):R2:=fun x y H Q=>∃ a b xs ys,x=.ref a/\y=.ref b/\SqT K H a xs/\SqT K H b ys/\xs.length+ys.length<=sizeLine /\
 ∀ r H',Same H H'->SqT K H' r (xs++ys)->Q (.ref r) H'
theorem Zg6:OpR X (binaryOp .Add) (Ma X.K):=by
 intro pins s σ H x y v u Q I rx ry h
 obtain ⟨a,b,xs,ys,rfl,rfl,ha,hb,hz,q⟩:=h
 by_cases hx:xs=[]
 ·subst hx
  cases rx
  cases ry
  obtain ⟨its,r1,p1,_⟩:=I.tuple ha
  obtain ⟨its2,r2,p2,_⟩:=I.tuple hb
  cases r1
  obtain ⟨⟨cls,dd,data,sl⟩,ho,hc,n,hd⟩:=id p1
  obtain ⟨⟨cls2,dd2,data2,sl2⟩,ho2,hc2,n2,hd2⟩:=id p2
  simp only at hc hd hc2 hd2
  subst hc hd hc2 hd2
  exact Sz ⟨_,ho,rfl⟩ ⟨_,ho2,rfl⟩ Sm Sw Sd Sa (R7 _ _)
   (tuple_addW0 a b _ _ n n2 dd dd2 sl sl2 (by simp)) ⟨ho,ho2,⟨.ref b,H,I,rfl,q b H (Same.refl H) hb⟩⟩
 ·refine Mq pins s σ H _ _ v u Q I rx ry ⟨a,b,xs,ys,rfl,rfl,ha,hb,hx,hz,fun e=>?_,fun _ p hp=>q p _ (fun c o e=>by rw [Af (An e hp)];exact e) (.inl (.inl Ac))⟩
  subst e
  exact q a H (Same.refl H) (by rw [P0];exact ha)
noncomputable def F5 (K:Oo):R2:=fun x y H Q=>D0 (fun i j=>.int (i+j)) x y H Q\/Zcy x y H Q\/rCat x y H Q\/Ma K x y H Q
theorem op_addA:OpR X (binaryOp .Add) (F5 X.K):=op_add.or (op_add_str.or (op_cat.or Zg6))
theorem s_add_int {K:Oo}{i j:Int}{H:Hp}{Q:VK}(h:Q (.int (i+j)) H):F5 K (.int i) (.int j) H Q:=.inl ⟨i,j,rfl,rfl,h⟩
theorem Mp {K:Oo}{a b:Addr}{xs ys:List V}{H:Hp}{Q:VK}(ha:SqT K H a xs)(hb:SqT K H b ys)(hz:xs.length+ys.length<=sizeLine)(h:∀ r H',Same H H'->SqT K H' r (xs++ys)->Q (.ref r) H'):F5 K (.ref a) (.ref b) H Q:=.inr (.inr (.inr ⟨a,b,xs,ys,rfl,rfl,ha,hb,hz,h⟩))
noncomputable def Kj:R2:=fun x y H Q=>rI CMul (fun i j=>.int (i * j)) x y H Q\/rRep x y H Q
theorem Hr:OpR X (binaryOp .Mult) Kj:=op_mul.or Zc6
theorem s_mul_l {i j:Int}{H:Hp}{Q:VK}(h1:-(2 ^ 64) < i)(h2:i < 2 ^ 64)(h:Q (.int (i * j)) H):Kj (.int i) (.int j) H Q:=.inl ⟨i,j,rfl,rfl,.inl ⟨h1,h2⟩,h⟩
theorem s_mul_r {i j:Int}{H:Hp}{Q:VK}(h1:-(2 ^ 64) < j)(h2:j < 2 ^ 64)(h:Q (.int (i * j)) H):Kj (.int i) (.int j) H Q:=.inl ⟨i,j,rfl,rfl,.inr ⟨h1,h2⟩,h⟩
theorem s_rI {C:Int->Int->Prop}{g:Int->Int->V}{i j:Int}{H:Hp}{Q:VK}(hc:C i j)(h:Q (g i j) H):rI C g (.int i) (.int j) H Q:=⟨i,j,rfl,rfl,hc,h⟩
theorem s_rI0 {g:Int->Int->V}{i j:Int}{H:Hp}{Q:VK}(h:Q (g i j) H):D0 g (.int i) (.int j) H Q:=⟨i,j,rfl,rfl,h⟩
theorem s_rU {g:Int->V}{i:Int}{H:Hp}{Q:VK}(h:Q (g i) H):rU g (.int i) H Q:=⟨i,rfl,h⟩
noncomputable def rLtA:R2:=fun x y H Q=>D0 (fun i j=>.bl (decide (i < j))) x y H Q\/∃ i j,x=.str i/\y=.str j/\Q (.bl (decide (i.cps.toList < j.cps.toList))) H
theorem Ms:OpR X (compareOp .Lt) rLtA:=op_lt.or Zed
theorem s_lt {i j:Int}{H:Hp}{Q:VK}(h:Q (.bl (decide (i < j))) H):rLtA (.int i) (.int j) H Q:=.inl ⟨i,j,rfl,rfl,h⟩
noncomputable def rInS (neg:Bool):R2:=fun x y H Q=>∃(c:Nat)(j:Str),x=.str ⟨#[c]⟩/\y=.str j/\Q (.bl (if neg then !decide (c∈j.cps.toList) else decide (c∈j.cps.toList))) H
theorem Zje:OpR X (compareOp .In) (rInS false):=Zf1
noncomputable def Jr (K:Oo)(neg:Bool):R2:=fun x y H Q=>rIn K neg x y H Q\/rInS neg x y H Q
theorem Zd8:OpR X (compareOp .In) (Jr X.K false):=op_in_seq.or Zje
theorem Hv {K:Oo}{neg:Bool}{x:V}{p:Addr}{xs:List V}{H:Hp}{Q:VK}(hq:SqL K H p xs\/SqT K H p xs)(hx:B6 x=true)(hxs:xs.all B6=true)(h:Q (.bl (if neg then !Ec x xs else Ec x xs)) H):Jr K neg x (.ref p) H Q:=.inl ⟨p,xs,rfl,hq,hx,hxs,h⟩
noncomputable def Lo (K:Oo):V->Option Int->Option Int->Hp->VK->Prop:=fun x lo hi H Q=>rSlL K x lo hi H Q\/rSlS x lo hi H Q\/rSlT K x lo hi H Q
theorem Zd7:SlR X (Lo X.K):=sl_list.or (sl_str.or Zhs)
theorem Hk {K:Oo}{a:Addr}{xs:List V}{lo hi:Option Int}{H:Hp}{Q:VK}(ha:SqL K H a xs)(h:∀ p,H p=none->Q (.ref p) (upd H p (.lst (Br xs lo hi)))):Lo K (.ref a) lo hi H Q:=.inl ⟨a,xs,rfl,ha,h⟩
theorem Bh {K:Oo}{a:Addr}{xs:List V}{i:Int}{v:V}{H:Hp}{Q:VK}(ha:SqL K H a xs)(hv:B5 xs i=some v)(h:Q v H):rIx K (.ref a) (.int i) H Q:=.inl ⟨a,xs,i,v,rfl,rfl,ha,hv,h⟩
theorem Au {K:Oo}{a:Addr}{xs:List V}{i:Int}{v:V}{H:Hp}{Q:VK}(ha:SqT K H a xs)(hv:B5 xs i=some v)(h:Q v H):rIx K (.ref a) (.int i) H Q:=.inr (.inl ⟨a,xs,i,v,rfl,rfl,ha,hv,h⟩)
noncomputable def Hq (K:Oo):List V->Hp->VK->Prop:=fun xs H Q=>∃ x n,xs=[x]/\LenV K x H n/\Q (.int n) H
theorem Ze0:B4 X (.builtin "len") (Hq X.K):=Zhn
theorem C7 {K:Oo}{a:Addr}{xs:List V}{H:Hp}{Q:VK}(ha:SqL K H a xs)(h:Q (.int xs.length) H):Hq K [.ref a] H Q:=⟨_,_,rfl,.inl ⟨xs,ha,rfl⟩,h⟩
theorem Gb {K:Oo}{a:Addr}{xs:List V}{H:Hp}{Q:VK}(ha:SqT K H a xs)(h:Q (.int xs.length) H):Hq K [.ref a] H Q:=⟨_,_,rfl,.inr ⟨xs,ha,rfl⟩,h⟩
structure Ds (mg:Str->Option Value)(x:Str)(v:V):Prop where
 ex:∃ u,mg x=some u/\RelV v u
theorem C1 {x:Str}{v:V}{pos:Pos}(G:Ds X.mg x v)(hg:Gl X x:=by rfl)(hd:(x == ("__debug__" : Str))=false:=by decide):QE X (.Name x pos) (tC v):=by
 obtain ⟨u,h,r⟩:=G.ex
 exact ⟨Ziy hg h r hd⟩
noncomputable def Lw (K:Oo)(tl:TE):TI:=fun σ H R=>tl σ H fun x H1=>(∃ a,x=.ref a/\(∃ xs,SqL K H1 a xs)/\R (D5 K a) H1)\/(∃ a,x=.ref a/\(∃ xs,SqT K H1 a xs)/\R (Ef K a) H1)\/∃ z,x=.str z/\R (Its z) H1
theorem Zcg {tg l:Expr}{tl:TE}(hl:QE X l tl):QI X tg l (Lw X.K tl):=by
 refine ⟨fun pins s σ H R I h=>?_⟩
 refine Ae (hl.run pins s σ H _ I h) fun v s1 zq=>?_
 obtain ⟨x,H1,I1,r1,q1⟩:=zq
 have one:∀(l:Expr)(t:TE),PE X l t->True:=fun _ _ _=>trivial
 rcases q1 with ⟨a,e,⟨xs,hq⟩,q⟩ | ⟨a,e,⟨xs,hq⟩,q⟩ | ⟨z,e,q⟩
 ·subst e
  cases r1
  obtain ⟨its,rv,p,hz⟩:=I1.list hq
  refine Tw p.isList ?_
  refine ⟨s1.heap.objs.size,[s1.heap.objs.size],_,_,H1,rfl,I1.kept (t':=s1.toks) fun b o e=>Ov _ e,Zfd a _,⟨_,O6 _ rfl,rfl,rfl⟩,fun b hb=>?_,q⟩
  have e:b=s1.heap.objs.size:=by simpa using hb
  subst e
  exact I1.fpOk (Oq _) (I1.hok.fresh (Oq _))
 ·subst e
  cases r1
  obtain ⟨its,rv,p,hz⟩:=I1.tuple hq
  refine Ri (show s1.heap.IsTuple a its.toArray from p) ?_
  refine ⟨s1.heap.objs.size,[s1.heap.objs.size],_,_,H1,rfl,I1.kept (t':=s1.toks) fun b o e=>Ov _ e,Zdn a _,⟨_,O6 _ rfl,rfl,rfl⟩,fun b hb=>?_,q⟩
  have e:b=s1.heap.objs.size:=by simpa using hb
  subst e
  exact I1.fpOk (Oq _) (I1.hok.fresh (Oq _))
 ·subst e
  obtain ⟨t,rfl⟩:=r1
  refine wpAny_pyIter_strU ?_
  refine ⟨s1.heap.objs.size,[s1.heap.objs.size],_,_,H1,rfl,I1.kept (t':=s1.toks) fun b o e=>Ov _ e,Zev _ z t,⟨_,O6 _ rfl,rfl,rfl⟩,fun b hb=>?_,q⟩
  have e:b=s1.heap.objs.size:=by simpa using hb
  subst e
  exact I1.fpOk (Oq _) (I1.hok.fresh (Oq _))
end
section
variable {X:Cx}{tg:Expr}
end
noncomputable def Fh (K:Oo)(a:Addr)(n:Nat):It :=
 ⟨fun i H=>∃ xs,SqL K H a xs/\xs.length=n/\i < n,fun i H x H'=>H'=H/\∀ xs,SqL K H a xs->xs[n - 1 - i]?=some x,fun i _=>i=n⟩
theorem Zb2 {P:Program}{w:World}{K:Oo}{tg:Expr}(a it:Addr)(n:Nat):Dm P w K tg (Fh K a n) [it] it (fun i h=>i<=n/\h.IsRevIter it a ((n:Int) - 1 - (i:Int))) where
 mem:=by simp
 obj:=fun i h st b hb=>by
  have e:b=it:=by simpa using hb
  subst e
  obtain ⟨o,e,c,d⟩:=st.2
  exact ⟨o,e,fun v z=>by rw [d] at z;cases z⟩
 keep:=fun i h h' st k=>⟨st.1,st.2.at fun o e=>k it (by simp) o e⟩
 item:=by
  intro X hP hw hK hc i pins s σ H E I hf st hg
  subst hP hw hK
  obtain ⟨xs,hq,hl,hi⟩:=hg
  obtain ⟨its,rv,p,hz⟩:=I.list hq
  have hx:xs[n - 1 - i]?=some (xs[n - 1 - i]'(by omega)):=Os (by omega)
  obtain ⟨u,hu,ru⟩:=rv.get hx
  obtain ⟨f0,f1,f2,f3,f4,f5⟩:=hf it (by simp)
  have e:(n:Int) - 1 - (i:Int)=((n - 1 - i:Nat):Int):=by omega
  have hit:=st.2
  rw [e] at hit
  refine wpAny_pyNext_rev_item hit p.isList (x:=u) (by simpa using hu) fun h' st' sb=>?_
  have I1:Inv X pins σ H { s with heap:=h' }:=I.turned (t':=s.toks) (fun b o hb e=>(sb.2 b hb).trans e) f0 f1 f3 f4 f5
  have e2:((n - 1 - i:Nat):Int) - 1=(n:Int) - 1 - ((i+1:Nat):Int):=by omega
  rw [e2] at st'
  obtain ⟨o,eo,c,d⟩:=id st'
  exact ⟨u,rfl,F2 (s:={ s with heap:=h' }) eo c d (by decide) ⟨_,H,I1,ru,⟨rfl,fun ys hy=>by rw [I.list_inj hy hq];exact hx⟩,⟨hi,st'⟩,fun b hb=>(hf b hb).1⟩⟩
 done:=by
  intro X hP hw hK hc i pins s σ H E I hf st hg
  subst hP hw hK
  have hg:i=n:=hg
  subst hg
  obtain ⟨f0,f1,f2,f3,f4,f5⟩:=hf it (by simp)
  have e:(i:Int) - 1 - (i:Int)=-1:=by omega
  have hit:=st.2
  rw [e] at hit
  exact wpAny_pyNext_rev_end (I.ok.hd hc) hit fun h' eb=>⟨rfl,I.turned (t':=s.toks) (fun b o hb e=>eb b o hb e) f0 f1 f3 f4 f5⟩
 self:=fun _ _ _ _ _ st h=>Tk st.2 h
theorem Nd:bootBuiltins "reversed" = some (.type "reversed"):=by decide +kernel
section
variable {X:Cx}{tg:Expr}
noncomputable def Kx (K:Oo)(ta:TA):TI:=fun σ H R=>ta σ H fun vs H1=>∃ a xs,vs=[.ref a]/\SqL K H1 a xs/\R (Fh K a xs.length) H1
theorem Zgf {a:Expr}{ta:TA}{p pos:Pos}(hg:Gl X "reversed")(hm:X.mg "reversed" = none)(ha:QA X [a] ta)(hs:starEach [a] X.env=[(false,eval a X.env)]:=by rfl):QI X tg (.Call (.Name "reversed" p) [a] [] pos) (Kx X.K ta):=by
 refine ⟨fun pins s σ H R I h=>?_⟩
 refine Call_ (C4 I hg hm Nd (Pw (Ae (ha.run pos pins s σ H _ I h) fun us s1 zq=>?_) hs rfl))
 obtain ⟨vs,H1,I1,r1,q1⟩:=zq
 obtain ⟨l,xs,e,hq,q⟩:=q1
 subst e
 cases r1 with
 | cons r rr =>
  cases rr
  cases r
  obtain ⟨its,rv,pl,hz⟩:=I1.list hq
  refine call_reversed_list pl.isList ?_
  have hl:=rv.length
  have st0:(s1.heap.push (S7 l (((its.toArray).size:Int) - 1))).IsRevIter s1.heap.objs.size l ((xs.length:Int) - 1 - ((0:Nat):Int)):=by
   refine ⟨_,O6 _ rfl,rfl,?_⟩
   have e:((its.toArray).size:Int) - 1=(xs.length:Int) - 1 - ((0:Nat):Int):=by simp [hl]
   rw [<- e]
   rfl
  refine Tk (it:=s1.heap.objs.size) (l:=l) (i:=(xs.length:Int) - 1 - ((0:Nat):Int)) st0 ?_
  refine ⟨s1.heap.objs.size,[s1.heap.objs.size],_,_,H1,rfl,I1.kept (t':=s1.toks) fun b o e=>Ov _ e,Zb2 l _ xs.length,⟨Pd _,st0⟩,fun b hb=>?_,q⟩
  have e:b=s1.heap.objs.size:=by simpa using hb
  subst e
  exact I1.fpOk (Oq _) (I1.hok.fresh (Oq _))
theorem Zcc {K:Oo}{a:Addr}{xs:List V}{g:TG}{tb:TS}{D:Cj}{σ:St}{H:Hp}(Pv:Nat->St->Hp->Prop)(h0:Pv 0 σ H)(hl:∀ i σ H,i<=xs.length->Pv i σ H->SqL K H a xs)
  (hs:∀ i x σ H,i < xs.length->xs[xs.length - 1 - i]?=some x->Pv i σ H->g x σ H fun σ2 H2=>tb { D with nx:=Pv (i+1),ct:=Pv (i+1),bk:=D.nx } σ2 H2) (hd:∀ σ H,Pv xs.length σ H->D.nx σ H) :
  ∃ W:Nat->Nat->St->Hp->Prop,(∃ m,W 0 m σ H)/\∀ i m σ H,W i m σ H ->
   ((Fh K a xs.length).stop i H/\D.nx σ H)\/((Fh K a xs.length).go i H/\∃ N:St->Hp->Prop,(∀ σ' H',N σ' H'->∃ m',m' < m/\W (i+1) m' σ' H')/\∀ x H',(Fh K a xs.length).yld i H x H'->g x σ H' fun σ2 H2=>tb { D with nx:=N,ct:=N,bk:=D.nx } σ2 H2):=by
 refine ⟨fun i m σ H=>m=xs.length - i/\i<=xs.length/\Pv i σ H,⟨xs.length,by simp,Pd _,h0⟩,?_⟩
 rintro i m σ H ⟨rfl,hi,p⟩
 have q:=hl i σ H hi p
 by_cases hlt:i < xs.length
 ·refine .inr ⟨⟨xs,q,rfl,hlt⟩,Pv (i+1),fun σ' H' p'=>⟨xs.length - (i+1),by omega,rfl,hlt,p'⟩,fun x H' y=>?_⟩
  obtain ⟨e,y⟩:=y
  subst e
  exact hs i x σ _ hlt (y xs q) p
 ·have e:i=xs.length:=by omega
  subst e
  exact .inl ⟨rfl,hd σ H p⟩
end
section
variable {prog:Program}{w:World}{A:Around}{E:Value->Shared->Prop}{s:Shared}
theorem Zgc {it t:Addr}{i:Nat}{items:Array Value}{x:Value}{Q:Value->Shared->Prop}(hit:s.heap.IsTupleIter it t i)(ht:s.heap.IsTuple t items)(hx:items[i]?=some x)
  (hQ:∀ h',h'.IsTupleIter it t (i+1)->Pc it s.heap h'->Q x { s with heap:=h' }):wpAny (model prog w) A (Qq (.ref it)) Q E s:=by
 obtain ⟨o,ho,hc,hd⟩:=id hit
 obtain ⟨ol,hol,_,nl,hdl⟩:=ht
 unfold Qq
 refine Op (Qs (name:=Qe "__next__") hit.typeIs Rz
  (Qy Rz hit.typeIs Uc ?_ (Ub _)))
 show wpAny _ _ (field (.ref it) 0 >>= _) _ _ s
 refine Op (Pf ho hd (x:=.ref t) rfl ?_)
 show wpAny _ _ (if (Value.ref t == Value.none)=true then _ else _) _ _ s
 rw [if_neg (show ¬ ((Value.ref t == Value.none)=true) from Oz)]
 show wpAny _ _ (field (.ref it) 1 >>= _) _ _ s
 refine Op (Pf ho hd (x:=.int i 0) rfl ?_)
 show wpAny _ _ (seqItems? (.ref t) >>= _) _ _ s
 refine Op (Q2 hol hdl ?_)
 simp only [Sj,hx]
 refine Op (wpAny_setField ho hd (by simp) (Ot ⟨x,rfl,Ot (hQ _ ?_ (Pc.update ..))⟩))
 exact ⟨_,P9 _ ho (Obj.isFreed_of_fields (Obj.data_mapFields hd _)),(Obj.cls_mapFields ..).trans hc,by
  rw [Obj.data_mapFields hd];simp [rawInt]⟩
theorem Zc3 {it t:Addr}{i:Nat}{items:Array Value}{Q:Value->Shared->Prop}(hh:A.handled=none)(hit:s.heap.IsTupleIter it t i)(ht:s.heap.IsTuple t items)(hx:items[i]?=none)
  (hE:∀ h' e,S9 it s.heap h'->(∃ o,h'.get? e=some o/\o.cls=.type "StopIteration")->E (.ref e) { s with heap:=h' }):wpAny (model prog w) A (Qq (.ref it)) Q E s:=by
 obtain ⟨o,ho,hc,hd⟩:=id hit
 obtain ⟨ol,hol,_,nl,hdl⟩:=ht
 unfold Qq
 refine Op (Qs (name:=Qe "__next__") hit.typeIs Rz
  (Qy Rz hit.typeIs Uc ?_ (Ub _)))
 show wpAny _ _ (field (.ref it) 0 >>= _) _ _ s
 refine Op (Pf ho hd (x:=.ref t) rfl ?_)
 show wpAny _ _ (if (Value.ref t == Value.none)=true then _ else _) _ _ s
 rw [if_neg (show ¬ ((Value.ref t == Value.none)=true) from Oz)]
 show wpAny _ _ (field (.ref it) 1 >>= _) _ _ s
 refine Op (Pf ho hd (x:=.int i 0) rfl ?_)
 show wpAny _ _ (seqItems? (.ref t) >>= _) _ _ s
 refine Op (Q2 hol hdl ?_)
 simp only [Sj,hx]
 refine Op (wpAny_rule (Op (wpAny_setField ho hd (by simp) ?_)))
 show wpAny _ _ (newExc (.type "StopIteration") [] >>= _) _ _ _
 refine Op ?_
 simp only [newExc,newTuple]
 refine Op (Qa ?_ (by size_fits))
 refine Op (m:=firstArgMember _ _) (wpAny_of_eq (a:=Value.none) (by first | rfl | (simp only [firstArgMember];rfl)) ?_)
 refine Qa ?_ (by size_fits)
 simp only [raiseNew]
 refine Op (wpAny_handled ?_)
 first | rw [show A.in1.handled=none from hh] | rw [hh]
 refine Op (Ot (wpAny_throw ?_))
 exact hE _ _ (((Pc.update ..).extBut.push _).push _) ⟨_,O6 _ rfl,rfl⟩
end
theorem L6 {prog:Program}{w:World}{A:Around}(hh:A.handled=none)(it l:Addr)(hne:l≠it)(items:Array Value) :
  Draws prog w A it [it,l] items.size (fun i v=>items[i]?=some v) (fun i h=>h.IsTupleIter it l i/\h.IsTuple l items) where
 live:=fun _ _ st=>let ⟨o,ho,_⟩:=st.1;⟨o,ho⟩
 frame:=fun _ _ _ st hk=>⟨st.1.at fun o e=>hk it (by simp) o e,let ⟨o,e,r⟩:=st.2;⟨o,hk l (by simp) o e,r⟩⟩
 item:=fun i s Q E hi st hQ=>by
  refine Zgc st.1 st.2 (x:=items[i]) (by simp [hi]) fun h' hit' hs'=>?_
  exact hQ _ h' s.toks (by simp [hi]) ⟨hit',st.2.extBut hs'.extBut hne⟩ hs'
 done:=fun s Q E st hE=>Zc3 hh st.1 st.2 (by simp) hE
theorem Zg9 (l:Addr)(items:Array Value)(n:Nat)(dct:Option Addr)(sl:Array (Option Value)) :
  Meets (Builtin.«enumerate.__new__» ⟨[.type "enumerate",.ref l],[]⟩) (fun _ R s=>s.heap.get? l=some { cls:=.type "tuple",dict:=dct,data:=.seq items n,slots:=sl } /\
   R (.ok (.ret (.ref (s.heap.push { cls:=.type "tuple_iterator",data:=.fields #[.ref l,.int 0 0] }).objs.size)))
    { s with heap:=(s.heap.push { cls:=.type "tuple_iterator",data:=.fields #[.ref l,.int 0 0] }).push { cls:=.type "enumerate",data:=.fields #[.none,.bool false,.ref s.heap.objs.size,rawInt 0,.none,.none] } }) :=
 .of_wp fun prog w A R s h=>by
  obtain ⟨hp,g,d,tk,os⟩:=s;obtain ⟨hl,h⟩:=h
  have hsub:=sub_enumerate
  have hL:Heap.IsTuple (Shared.heap ⟨hp,g,d,tk,os⟩) l items:=⟨_,hl,rfl,n,rfl⟩
  wp_walk using R0 hl
  refine wpAny_stack_any fun st=>Ot ?_
  split
  ·rename_i c _ _ _ _ _
   cases (c == Value.type "enumerate")
   ·wp_walk using R0 hl,Ri hL
    exact ⟨_,rfl,h⟩
   ·wp_walk using R0 hl,Ri hL
    exact ⟨_,rfl,h⟩
  ·wp_walk using R0 hl,Ri hL
   exact ⟨_,rfl,h⟩
section
variable {prog:Program}{w:World}{A:Around}{E:Value->Shared->Prop}{s:Shared}
theorem Zc2 {l:Addr}{items:Array Value}{Q:Value->Shared->Prop}(hL:s.heap.IsTuple l items)
  (h:∀ h',IsEnum h' (s.heap.objs.size+1) s.heap.objs.size 0 .none->h'.IsTupleIter s.heap.objs.size l 0->h'.objs.size=s.heap.objs.size+2 ->
   (∀ b o,s.heap.get? b=some o->h'.get? b=some o)->Q (.ref (s.heap.objs.size+1)) { s with heap:=h' }) :
  wpAny (model prog w) A (call (.type "enumerate") [.ref l]) Q E s:=by
 obtain ⟨⟨c,dct,dt,sl⟩,hl,hc,n,hd⟩:=hL
 replace hc:c=.type "tuple" := hc
 replace hd:dt=.seq items n:=hd
 subst hc hd
 refine callType_new PySem.F.called_enumerate (by decide) (PySem.F.typeCall_enumerate_1 _) (PySem.F.newCall_enumerate_1 _) (fun obj=>PySem.F.args_object_init_2 obj _) PySem.F.entry_enumerate_new
  (Zg9 l items n dct sl) ⟨hl,?_⟩
 have hz:(s.heap.push { cls:=.type "tuple_iterator",data:=.fields #[.ref l,.int 0 0] }).objs.size=s.heap.objs.size+1:=Po ..
 show _/\_
 rw [hz]
 have he:IsEnum ((s.heap.push { cls:=.type "tuple_iterator",data:=.fields #[.ref l,.int 0 0] }).push
   { cls:=.type "enumerate",data:=.fields #[.none,.bool false,.ref s.heap.objs.size,rawInt 0,.none,.none] }) (s.heap.objs.size+1) s.heap.objs.size 0 .none:=by
  unfold IsEnum
  rw [<- hz]
  exact O6 _ rfl
 refine ⟨⟨_,he,rfl⟩,h _ he ⟨_,Ov _ (O6 _ rfl),rfl,rfl⟩ (by rw [Po,hz]) fun b o e=>Ov _ (Ov _ e)⟩
noncomputable def Hc (h:Heap)(e it:Addr)(i:Int):Prop:=∃(a:Addr)(oa:Obj)(f1 old:Value),h.get? e=some { cls:=.type "enumerate",dict:=none,data:=.fields #[rawInt a,f1,.ref it,rawInt i,.none,old],slots:=#[] }/\h.get? a=some oa/\a≠e/\a≠it
theorem Zgo {a:Addr}{Q:Option Obj->Shared->Prop}(h:Q (s.heap.get? a) s):wpAny (model prog w) A (loadIfAlive a) Q E s:=by
 intro Γ p hΓ
 show Sem.wp _ Γ (.loadIfAlive a .pure) _ _ p s
 rw [Sem.wp_loadIfAlive]
 exact h
theorem Zf6 {e it:Addr}{fp:List Addr}{n i:Nat}{P:Nat->Value->Prop}{St:Nat->Heap->Prop}{Q:Value->Shared->Prop}
  (D:Draws prog w A it fp n P St) (he0:Hc s.heap e it i) (hst:St i s.heap) (hlt:i < n) (hne:e≠it) (hef:e ∉ fp)
  (hQ:∀ x h' tk,P i x->Hc h' e it ((i:Int)+1)->St (i+1) h' ->
   h'.get? s.heap.objs.size=some { cls:=.type "tuple",data:=.seq #[.int i tk,x] }->h'.objs.size=s.heap.objs.size+1 ->
   (∀ b o,b≠e->b≠it->s.heap.get? b=some o->h'.get? b=some o)->Q (.ref s.heap.objs.size) { s with heap:=h',toks:=tk+1 }) :
  wpAny (model prog w) A (Builtin.«enumerate.__next__» ⟨[.ref e],[]⟩) (fun fin s'=>∃ v,fin=.done (.ret v)/\Q v s') E s:=by
 obtain ⟨a,oa,f1,old,he,hoa,hae,hai⟩:=he0
 obtain ⟨hp,g,d,tk₀,os⟩:=s
 show wpAny _ _ (field (.ref e) 2 >>= _) _ _ _
 refine Op (Pf he rfl (x:=.ref it) rfl ?_)
 refine Op (D.item i _ _ _ hlt hst fun x h₁ tk hPx hit₁ hs₁=>?_)
 replace hs₁:Pc it hp h₁:=hs₁
 have he₁:=(hs₁.2 e hne).trans he
 have ha₁:=hs₁.extBut a oa hai hoa
 show wpAny _ _ (field (.ref e) 3 >>= _) _ _ ⟨h₁,g,d,tk,os⟩
 refine Op (Pf he₁ rfl (x:=rawInt i) rfl ?_)
 show wpAny _ _ (field (.ref e) 4 >>= _) _ _ ⟨h₁,g,d,tk,os⟩
 refine Op (Pf he₁ rfl (x:=.none) rfl ?_)
 show wpAny _ _ (mkInt i >>= _) _ _ ⟨h₁,g,d,tk,os⟩
 refine Op (wpAny_mkInt ?_)
 show wpAny _ _ (setField (.ref e) 3 (rawInt ((i:Int)+1)) >>= _) _ _ ⟨h₁,g,d,tk+1,os⟩
 refine Op (Qw he₁ (by simp) fun h₂ he₂ hs₂=>?_)
 replace hs₂:Pc e h₁ h₂:=hs₂
 have ha₂:=hs₂.extBut a oa hae ha₁
 replace he₂:h₂.get? e=some { cls:=.type "enumerate",dict:=none,data:=.fields #[rawInt a,f1,.ref it,rawInt ((i:Int)+1),.none,old],slots:=#[] }:=he₂
 show wpAny _ _ (setField (.ref e) 4 .none >>= _) _ _ ⟨h₂,g,d,tk+1,os⟩
 refine Op (Qw he₂ (by simp) fun h₃ he₃ hs₃=>?_)
 replace hs₃:Pc e h₂ h₃:=hs₃
 have ha₃:=hs₃.extBut a oa hae ha₂
 replace he₃:h₃.get? e=some { cls:=.type "enumerate",dict:=none,data:=.fields #[rawInt a,f1,.ref it,rawInt ((i:Int)+1),.none,old],slots:=#[] }:=he₃
 show wpAny _ _ (newTuple [.int i tk,x] >>= _) _ _ ⟨h₃,g,d,tk+1,os⟩
 refine Op (wpAny_newTuple ?_)
 have he₄:(h₃.push { cls:=.type "tuple",data:=.seq #[.int i tk,x] }).get? e=some { cls:=.type "enumerate",dict:=none,data:=.fields #[rawInt a,f1,.ref it,rawInt ((i:Int)+1),.none,old],slots:=#[] }:=Ov _ he₃
 have ha₄:(h₃.push { cls:=.type "tuple",data:=.seq #[.int i tk,x] }).get? a=some oa:=Ov _ ha₃
 generalize hh₄:h₃.push { cls:=.type "tuple",data:=.seq #[.int i tk,x] }=h₄ at he₄ ha₄
 have hsz:h₃.objs.size=hp.objs.size:=by rw [hs₃.1,hs₂.1,hs₁.1]
 have hel:e < hp.objs.size:=Ow he
 have ht₄:h₄.get? hp.objs.size=some { cls:=.type "tuple",data:=.seq #[.int i tk,x] }:=by rw [<- hh₄,<- hsz];exact O6 _ rfl
 have hz₄:h₄.objs.size=hp.objs.size+1:=by rw [<- hh₄,Po,hsz]
 have hk₄:∀ b o,b≠e->b≠it->hp.get? b=some o->h₄.get? b=some o:=fun b o hbe hbi hb=>by
  rw [<- hh₄];exact Ov _ (hs₃.extBut b o hbe (hs₂.extBut b o hbe (hs₁.extBut b o hbi hb)))
 have hit₄:St (i+1) h₄:=D.frame _ _ _ hit₁ fun b hb o y=>by
  have hbe:b≠e:=fun q=>hef (q ▸ hb)
  rw [<- hh₄];exact Ov _ (hs₃.extBut b o hbe (hs₂.extBut b o hbe y))
 show wpAny _ _ (Ry (.ref e) >>= _) _ _ ⟨h₄,g,d,tk+1,os⟩
 rw [hsz]
 clear hh₄ ha₃ ha₂ ha₁ he₃ hs₃ he₂ hs₂ he₁ hs₁ hit₁ hsz h₃ h₂ h₁
 refine Op ?_
 unfold Ry
 refine Op (Pf he₄ rfl (x:=rawInt a) rfl ?_)
 show wpAny _ _ (loadIfAlive ((a:Int).toNat) >>= _) _ _ ⟨h₄,g,d,tk+1,os⟩
 refine Op (Zgo ?_)
 rw [Sj]
 show wpAny _ _ (if (h₄.get? a).isNone=true then _ else _) _ _ ⟨h₄,g,d,tk+1,os⟩
 rw [ha₄]
 rw [if_neg (by simp)]
 refine Op (Pf he₄ rfl (x:=f1) rfl ?_)
 have fin:∀ h₅,Hc h₅ e it ((i:Int)+1)->Pc e h₄ h₅->Q (.ref hp.objs.size) ⟨h₅,g,d,tk+1,os⟩:=fun h₅ hl hs₅ =>
  hQ x h₅ tk hPx hl (D.frame _ _ _ hit₄ fun b hb o y=>hs₅.extBut b o (fun q=>hef (q ▸ hb)) y) (hs₅.extBut _ _ (Ql hel) ht₄) (by rw [hs₅.1,hz₄]) fun b o hbe hbi hb=>hs₅.extBut b o hbe (hk₄ b o hbe hbi hb)
 by_cases hf:(f1 != Value.bool true)=true
 ·simp only [hf,if_true]
  refine Op (Qw he₄ (by simp) fun h₅ he₅ hs₅=>?_)
  replace hs₅:Pc e h₄ h₅:=hs₅
  refine Ot ?_
  simp only [Ts,if_false]
  refine Ot ⟨_,rfl,fin h₅ ⟨a,oa,.bool true,old,he₅,hs₅.extBut a oa hae ha₄,hae,hai⟩ hs₅⟩
 ·simp only [hf]
  refine Ot ?_
  simp only [Ts,if_false]
  exact Ot ⟨_,rfl,fin h₄ ⟨a,oa,f1,old,he₄,ha₄,hae,hai⟩ (Pc.refl ..)⟩
noncomputable def EnSt (h:Heap)(e it:Addr)(i:Nat):Prop:=(i=0/\∃ old,IsEnum h e it 0 old)\/(0 < i/\Hc h e it i)
theorem EnSt.obj {h:Heap}{e it:Addr}{i:Nat}(x:EnSt h e it i):∃ vs,h.get? e=some { cls:=.type "enumerate",dict:=none,data:=.fields vs,slots:=#[] }:=by
 rcases x with ⟨_,old,x⟩ | ⟨_,_,_,_,_,x,_⟩
 ·exact ⟨_,x⟩
 ·exact ⟨_,x⟩
theorem Zjv {e it:Addr}{fp:List Addr}{n i:Nat}{P:Nat->Value->Prop}{St:Nat->Heap->Prop}{Q:Option Value->Shared->Prop}
  (D:Draws prog w A.in1 it fp n P St) (he:EnSt s.heap e it i) (hst:St i s.heap) (hlt:i < n) (hne:e≠it) (hef:e ∉ fp)
  (hQ:∀ x h' tk,P i x->EnSt h' e it (i+1)->St (i+1) h' ->
   h'.get? s.heap.objs.size=some { cls:=.type "tuple",data:=.seq #[.int i tk,x] }->h'.objs.size=s.heap.objs.size+1 ->
   (∀ b o,b≠e->b≠it->s.heap.get? b=some o->h'.get? b=some o)->Q (some (.ref s.heap.objs.size)) { s with heap:=h',toks:=tk+1 }) :
  wpAny (model prog w) A (pyNext (.ref e)) Q E s:=by
 obtain ⟨vs,ho⟩:=he.obj
 have hT:s.TypeIs (.ref e) "enumerate" := ⟨_,ho,rfl⟩
 have hel:e < s.heap.objs.size:=Ow ho
 have hil:it < s.heap.objs.size:=by obtain ⟨_,y⟩:=D.live _ _ hst;exact Ow y
 rcases he with ⟨rfl,old,he⟩ | ⟨_,he⟩
 ·refine wpAny_pyNext_enum_itemD D he hst hlt hne hef fun x h' tk a b c z k q=>?_
  exact hQ x h' tk a (.inr ⟨Nat.succ_pos _,_,_,_,_,b,z,Ql hel,Ql hil⟩) c z k q
 ·unfold pyNext
  exact Op (wpAny_attempt (Qs (name:=Qe "__next__") hT R3
   (Qy R3 hT Ue
    (Zf6 D he hst hlt hne hef fun x h' tk a b c z k q=>Ot (hQ x h' tk a (.inr ⟨Nat.succ_pos _,b⟩) c z k q)) (Ud _))))
theorem Zj5 {e it:Addr}{fp:List Addr}{n:Nat}{P:Nat->Value->Prop}{St:Nat->Heap->Prop}{Q:Option Value->Shared->Prop}
  (D:Draws prog w A.in1 it fp n P St) (he:EnSt s.heap e it n) (hst:St n s.heap)
  (hQ:∀ h',S9 it s.heap h'->Q none { s with heap:=h' }):wpAny (model prog w) A (pyNext (.ref e)) Q E s:=by
 obtain ⟨vs,ho⟩:=he.obj
 have hT:s.TypeIs (.ref e) "enumerate" := ⟨_,ho,rfl⟩
 have h2:vs[2]?=some (.ref it):=by
  rcases he with ⟨rfl,old,he⟩ | ⟨_,a,oa,f1,old,he,_⟩
  ·unfold IsEnum at he
   rw [ho] at he
   injection he with he
   injection he with _ _ he _
   injection he with he
   rw [he];rfl
  ·rw [ho] at he
   injection he with he
   injection he with _ _ he _
   injection he with he
   rw [he];rfl
 unfold pyNext
 refine Op (wpAny_attempt (Qs (name:=Qe "__next__") hT R3
  (Qy R3 hT Ue ?_ (Ud _))))
 show wpAny _ _ (field (.ref e) 2 >>= _) _ _ _
 refine Op (Pf ho rfl (x:=.ref it) h2 ?_)
 refine Op (D.done _ _ _ hst fun h' x he' hx'=>?_)
 obtain ⟨o,ho',hc⟩:=hx'
 refine Op (T0 (T := "StopIteration") (b:=true) ⟨o,ho',hc⟩ isSubtype_stop ?_)
 exact Ot (hQ _ he')
end
structure Src (X:Cx)(pins:List (Addr×Obj))(σ:St)(it:Addr)(T:String)(n:Nat)(H0:Hp)(J:Nat->List V->Hp->Heap->Prop):Prop where
 ty:∀ i ys H h,J i ys H h->∃ o,h.get? it=some o/\o.cls=.type T
 nl:(Value.type T == Value.type "list")=false/\(Value.type T == Value.type "tuple")=false
 nolen:typeLookup (.type T) "__len__" = pure none
 nohint:typeLookup (.type T) "__length_hint__" = pure none
 self:∀(A:Around)(s:Shared)(ys:List V)(H:Hp)(Q:Value->Shared->Prop)(E:Value->Shared->Prop),J 0 ys H s.heap->Q (.ref it) s->wpAny (model X.prog X.w) A (pyIter (.ref it)) Q E s
 keep:∀ i ys H h h' S zs zs',H0 S=none->H S=some (.lst zs)->J i ys H h->(∀ b o,b≠S->h.get? b=some o->h'.get? b=some o)->(∃ o,h'.get? S=some o)->J i ys (upd H S (.lst zs')) h'
 fresh:∀ i ys H h,J i ys H h->H it=none
 item:∀(A:Around)(i:Nat)(s:Shared)(H:Hp)(ys:List V)(E:Value->Shared->Prop),A.handled=none->i < n->Inv X pins σ H s->J i ys H s.heap ->
  wpAny (model X.prog X.w) A (pyNext (.ref it)) (fun r s'=>∃ u x H',r=some u/\RelV x u/\Inv X pins σ H' s'/\J (i+1) (ys++[x]) H' s'.heap/\∀ S zs,H S=some (.lst zs)->H' S=some (.lst zs)) E s
 done:∀(A:Around)(s:Shared)(H:Hp)(ys:List V)(E:Value->Shared->Prop),A.handled=none->Inv X pins σ H s->J n ys H s.heap ->
  wpAny (model X.prog X.w) A (pyNext (.ref it)) (fun r s'=>r=none/\Inv X pins σ H s') E s
section
variable {X:Cx}{pins:List (Addr×Obj)}{σ:St}{it:Addr}{T:String}{n:Nat}{H0:Hp}{J:Nat->List V->Hp->Heap->Prop}
theorem Zib (C:Src X pins σ it T n H0 J)(hn:n<=sizeLine){A:Around}(hh:A.handled=none){R:Result->Shared->Prop}(S:Addr)(hS0:H0 S=none)(res:Value)
  (fin:∀ s' H' ys',Inv X pins σ H' s'->H' S=some (.lst ys')->ys'.length=n->(∃ h,J n ys' H' h)->R (.ok (.ret res)) s') :
  ∀(k i:Nat)(s:Shared)(H:Hp)(ys:List V),n - i=k->i<=n->Inv X pins σ H s->J i ys H s.heap->H S=some (.lst ys)->ys.length=i ->
  codeAny (model X.prog X.w) A (.builtin "list.extend.loop" ⟨[.ref S,.ref it,res],[]⟩) R s:=by
 intro k
 induction k with
 | zero =>
  intro i s H ys hk hi I j hS hl
  have hin:i=n:=by omega
  subst hin
  refine Q0 R6 ?_
  rw [Qu P4 _]
  show wpAny _ A.in1 (pyNext (.ref it) >>= _) _ _ s
  refine Op (Ae (C.done A.in1 s H ys _ hh I j) fun r s' zq=>?_)
  obtain ⟨hr,I'⟩:=zq
  subst hr
  exact Ot (fin s' H ys I' hS hl ⟨_,j⟩)
 | succ k ih =>
  intro i s H ys hk hi I j hS hl
  have hlt:i < n:=by omega
  refine Q0 R6 ?_
  rw [Qu P4 _]
  show wpAny _ A.in1 (pyNext (.ref it) >>= _) _ _ s
  refine Op (Ae (C.item A.in1 i s H ys _ hh hlt I j) fun r s' zq=>?_)
  obtain ⟨u,x,H',hr,rx,I',j',kS⟩:=zq
  subst hr
  have hS':=kS S ys hS
  obtain ⟨z,its,m,rv,hl',e⟩:=I'.lstM hS'
  show wpAny _ A.in1 (updateSeq S (·.push u) >>= _) _ _ _
  refine Op ?_
  have hu:(its.toArray.push u)=(its++[u]).toArray:=by simp
  have I2:=I'.lset (f:=(·.push u)) (its':=its++[u]) (ys:=ys++[x]) (t':=s'.toks) hS' e hu (rv.append (.cons rx .nil)) (by rw [O3,Pq];omega)
  refine Qk e rfl (Ot ⟨Q4 P4 _,ih (i+1) _ _ (ys++[x]) (by omega) hlt I2 ?_ Ac (by simp [hl])⟩)
   (by rw [Ou];omega) (by show (its.toArray.push u).size<=sizeLine+1;rw [Array.size_push,Ou];omega)
  exact C.keep _ _ _ _ _ S ys (ys++[x]) hS0 hS' j' (fun b o hb eb=>(P8 _ _ (O9 hb)).trans eb) ⟨_,P9 _ e rfl⟩
theorem Zi8 {H:Hp}(C:Src X pins σ it T n H J)(hn:n<=sizeLine){A:Around}(hh:A.handled=none){s:Shared}{Q:VK}{E:Value->Shared->Prop}(I:Inv X pins σ H s)(j:J 0 [] H s.heap)
  (jn:∀ S,s.heap.objs.size<=S->H S=none->∀ h',(∀ b o,s.heap.get? b=some o->h'.get? b=some o)->J 0 [] (upd H S (.lst [])) h')
  (q:∀ S H' ys,H S=none->H' S=some (.lst ys)->ys.length=n->(∃ h,J n ys H' h)->Q (.ref S) H') :
  wpAny (model X.prog X.w) A (call (.type "list") [.ref it]) (EP X pins σ Q) E s:=by
 have hf:H s.heap.objs.size=none:=I.hok.fresh (Oq _)
 have hne:s.heap.objs.size≠it:=by
  obtain ⟨o,e,_⟩:=C.ty _ _ _ _ j
  exact Ql (Ow e)
 refine callType_codes (Q₁:=fun obj s₁=>obj=.ref s.heap.objs.size/\s₁={ s with heap:=s.heap.push { cls:=.type "list",data:=.seq #[] } }) PySem.F.called_list (PySem.F.typeCall_list_1 _) PySem.F.entry_list_init
  (code_list_new _ ⟨rfl,rfl⟩) fun obj s₁ h₁=>?_
 obtain ⟨rfl,rfl⟩:=h₁
 have hS:(s.heap.push { cls:=.type "list",data:=.seq #[] }).get? s.heap.objs.size=some { cls:=.type "list",data:=.seq #[] }:=O6 _ rfl
 have I1:Inv X pins σ (upd H s.heap.objs.size (.lst [])) { s with heap:=s.heap.push { cls:=.type "list",data:=.seq ([]:List Value).toArray } }:=I.lnew (ys:=[]) (its:=[]) (t':=s.toks) .nil (by simp)
 have j1:J 0 [] (upd H s.heap.objs.size (.lst [])) (s.heap.push { cls:=.type "list",data:=.seq ([]:List Value).toArray })   := jn _ (Oq _) hf _ fun b o e=>Ov _ e
 refine ⟨⟨_,hS,rfl⟩,PySem.F.args_list_init_2 _ _,?_⟩
 generalize hs1:({ s with heap:=s.heap.push { cls:=.type "list",data:=.seq ([]:List Value).toArray } }:Shared)=s1 at I1
 have hS1:s1.heap.get? s.heap.objs.size=some { cls:=.type "list",data:=.seq ([]:List Value).toArray }:=by rw [<- hs1];exact hS
 replace j1:J 0 [] (upd H s.heap.objs.size (.lst [])) s1.heap:=by rw [<- hs1];exact j1
 have hs1':({ s with heap:=s.heap.push { cls:=.type "list",data:=.seq #[] } }:Shared)=s1:=hs1
 first | rw [hs1'] | skip
 show wpAny _ A.in1.in1 (do let old <- Se (.ref s.heap.objs.size);Builtin.List.listUpdate (.ref s.heap.objs.size) (fun _=>#[]);letGo old.toList.reverse;Qo (.ref s.heap.objs.size) (.ref it) .none) _ _ s1
 generalize s.heap.objs.size=S at *
 refine Op ?_
 unfold Se
 refine Op (Q2 hS1 rfl (Ot ?_))
 show wpAny _ A.in1.in1 (updateSeq S (fun _=>#[]) >>= fun _=>letGo (#[]:Array Value).toList.reverse >>= fun _=>Qo (.ref S) (.ref it) .none) _ _ s1
 refine Op (Qk hS1 rfl ?_)
 have I2:=I1.lset (f:=fun _=>#[]) (its':=[]) (ys:=[]) (t':=s1.toks) Ac hS1 rfl .nil (by simp)
 have hS2:=P9 (Pb (fun _=>(#[]:Array Value))) hS1 rfl
 have j2:=C.keep _ _ _ _ (s1.heap.update S (Pb fun _=>#[])) S [] [] hf Ac j1 (fun b o hb eb=>(P8 _ _ (O9 hb)).trans eb) ⟨_,hS2⟩
 rw [Io] at I2 j2
 generalize hs2:({ s1 with heap:=s1.heap.update S (Pb fun _=>#[]),toks:=s1.toks }:Shared)=s2 at I2
 replace j2:J 0 [] (upd H S (.lst [])) s2.heap:=by rw [<- hs2];exact j2
 have hs2':({ s1 with heap:=s1.heap.update S (Pb fun _=>#[]) }:Shared)=s2:=hs2
 first | rw [hs2'] | skip
 refine Op (wpAny_letGo ?_)
 obtain ⟨oi,ei,ci⟩:=C.ty _ _ _ _ j2
 have hT:s2.TypeIs (.ref it) T:=⟨oi,ei,ci⟩
 unfold Qo
 refine Op (wpAny_typeOf hT ?_)
 have h1:R9 (.ref S) (.ref it)=false:=by simp [R9,hne]
 have h2:=C.nl.1
 have h3:=C.nl.2
 simp only [h1,h2,h3,Bool.or_false,Ts,if_false]
 refine Op (C.self _ s2 _ _ _ _ j2 ?_)
 refine Op (Qc ?_)
 unfold Tc
 refine Op (Ro hT C.nolen ?_)
 show wpAny _ A.in1.in1 (specialOf (Value.ref it) (Qe "__length_hint__") >>= _) _ _ _
 refine Op (Ro hT C.nohint ?_)
 refine Ot ?_
 show wpAny _ A.in1.in1 (rule "list.extend.makes-room" >>= fun _=>Builtin.List.listTouch (.ref S) >>= fun _ =>
  again (.builtin "list.extend.loop" ⟨[.ref S,.ref it,.none],[]⟩)) _ _ _
 refine Op (wpAny_rule ?_)
 refine Op ?_
 show wpAny _ A.in1.in1 (updateSeq S (·.push .none) >>= fun _=>updateSeq S (·.pop)) _ _ _
 obtain ⟨_,its2,m2,rv2,_,e2⟩:=I2.lstM Ac
 cases rv2
 refine Op (Qk e2 rfl ?_)
 have I3:=I2.lset (f:=(·.push Value.none)) (its':=[.none]) (ys:=[.non]) (t':=s2.toks) Ac e2 (by simp) (.cons rfl .nil) (by show 1<=sizeLine;decide)
 have hS3:=P9 (Pb (·.push Value.none)) e2 rfl
 have j3:=C.keep _ _ _ _ (s2.heap.update S (Pb (·.push Value.none))) S [] [.non] hf Ac j2 (fun b o hb eb=>(P8 _ _ (O9 hb)).trans eb) ⟨_,hS3⟩
 rw [Io] at I3 j3
 generalize hs3:({ s2 with heap:=s2.heap.update S (Pb (·.push Value.none)),toks:=s2.toks }:Shared)=s3 at I3
 replace j3:J 0 [] (upd H S (.lst [.non])) s3.heap:=by rw [<- hs3];exact j3
 have hs3':({ s2 with heap:=s2.heap.update S (Pb (·.push Value.none)) }:Shared)=s3:=hs3
 first | rw [hs3'] | skip
 obtain ⟨_,its3,m3,rv3,hl3,e3⟩:=I3.lstM Ac
 have hl3':its3.length=1:=hl3.symm
 refine Qk e3 rfl ?_ (by rw [Ou,hl3'];decide) (by show its3.toArray.pop.size<=sizeLine+1;rw [Array.size_pop,Ou,hl3'];decide)
 have I4:=I3.lset (f:=(·.pop)) (its':=[]) (ys:=[]) (t':=s3.toks) Ac e3 (by
  cases its3 with
  | nil=>simp at hl3'
  | cons a r=>cases r with
   | nil=>simp
   | cons b r'=>simp at hl3') .nil (by simp)
 have hS4:=P9 (Pb (·.pop)) e3 rfl
 have j4:=C.keep _ _ _ _ (s3.heap.update S (Pb (·.pop))) S [.non] [] hf Ac j3 (fun b o hb eb=>(P8 _ _ (O9 hb)).trans eb) ⟨_,hS4⟩
 rw [Io] at I4 j4
 refine Ot ⟨Q4 P4 _,Zib C hn (A:=A.in1) hh S hf .none ?_ n 0 _ _ [] rfl (Pd _) I4 j4 Ac rfl⟩
 intro s' H' ys' I' hS' hl' hj'
 exact ⟨rfl,.ref S,H',I',rfl,q S H' ys' hf hS' hl' hj'⟩
end
section
variable {X:Cx}{pins:List (Addr×Obj)}{σ:St}{H:Hp}{s:Shared}{h':Heap}
theorem Inv.turned2 {t':Nat}{i1 i2:Addr}(I:Inv X pins σ H s)(k:∀ b o,b≠i1->b≠i2->s.heap.get? b=some o->h'.get? b=some o)(f1:FpOk X pins H i1)(f2:FpOk X pins H i2):Inv X pins σ H { s with heap:=h',toks:=t' }:=by
 obtain ⟨n1,l1,_,e1,c1,p1⟩:=f1
 obtain ⟨n2,l2,_,e2,c2,p2⟩:=f2
 have nit:∀ b u,H b=some u->b≠i1/\b≠i2:=fun b u e=>⟨(fun z=>by rw [z,n1] at e;exact nomatch e),(fun z=>by rw [z,n2] at e;exact nomatch e)⟩
 refine I.step (g':=s.gens) (d':=s.drawn) (ch:=[i1,i2]) (fun b hb=>?_) (fun b o _ _ hc e _=>k b o (fun z=>hc (by simp [z])) (fun z=>hc (by simp [z])) e) (fun b o _ _ hc e _=>⟨o.slots,k b o (fun z=>hc (by simp [z])) (fun z=>hc (by simp [z])) e⟩) (fun _ _ _ _ n=>n)
  (fun b o hc e=>⟨o,k b o (fun z=>hc (by simp [z])) (fun z=>hc (by simp [z])) e⟩) (fun _ _ e=>e) (fun _ _ _ e=>e) (fun b ps e=>⟨#[],by rw [e];simp⟩) (fun m hm=>?_) (fun b u e=>?_) I.bare
 ·rcases Oy.mp hb with rfl | hb
  ·exact ⟨e1,l1,c1,p1⟩
  ·rw [Py.mp hb]
   exact ⟨e2,l2,c2,p2⟩
 ·obtain ⟨o,es,ep,ho,r⟩:=hm
  exact ⟨o,es,ep,k _ o (O9 l1) (O9 l2) ho,r⟩
 ·refine (I.hok b u e).stay (fun c v hc q=>k c v ?_ ?_ q) (fun _ q=>q) fun _ _ q=>q
  ·rcases hc with z | z
   ·rw [z];exact (nit b u e).1
   ·exact (nit c _ z).1
  ·rcases hc with z | z
   ·rw [z];exact (nit b u e).2
   ·exact (nit c _ z).2
end
theorem FpOk.of {X:Cx}{pins:List (Addr×Obj)}{H H':Hp}{b:Addr}(f:FpOk X pins H b)(h:H' b=none):FpOk X pins H' b:=⟨h,f.2⟩
theorem SqT.kept {K:Oo}{H:Hp}{S a:Addr}{zs zs' xs:List V}(hS:H S=some (.lst zs))(h:SqT K H a xs):SqT K (upd H S (.lst zs')) a xs:=by
 rcases h with (h | ⟨o,h⟩) | h
 ·exact .inl (.inl (by rw [Af (Dl h hS (by intro z;cases z))];exact h))
 ·exact .inl (.inr ⟨o,by rw [Af (Dl h hS (by intro z;cases z))];exact h⟩)
 ·exact .inr h
theorem SqT.same {K:Oo}{H H':Hp}{a:Addr}{xs:List V}(h:SqT K H a xs)(e:Same H H'):SqT K H' a xs:=e.tup h
noncomputable def Ky (H:Hp)(xs:List V)(ys:List V):Prop:=∀(j:Nat)(y:V),ys[j]?=some y->∃(t:Addr)(x:V),y=V.ref t/\xs[j]?=some x/\H t=some (.tup [.int j,x])
noncomputable def JEn (K:Oo)(H0:Hp)(en it a:Addr)(xs:List V):Nat->List V->Hp->Heap->Prop:=fun i ys H h =>
 EnSt h en it i/\h.IsTupleIter it a i/\(H en=none/\H it=none)/\SqT K H a xs/\ys.length=i/\Ky H xs ys/\Same H0 H
theorem Zhy:typeLookup (.type "enumerate") "__len__" = pure none:=by rw [Ss,Sg];kernel_rfl
theorem Zds:typeLookup (.type "enumerate") "__length_hint__" = pure none:=by rw [Ss,Sg];kernel_rfl
theorem Ze6 {X:Cx}{pins:List (Addr×Obj)}{σ:St}{H0:Hp}{en it a:Addr}{xs:List V}(fe:FpOk X pins H0 en)(fi:FpOk X pins H0 it)(hne:en≠it)(hae:a≠en)(hai:a≠it):Src X pins σ en "enumerate" xs.length H0 (JEn X.K H0 en it a xs) where
 ty:=fun i ys H h j=>by
  obtain ⟨vs,e⟩:=j.1.obj
  exact ⟨_,e,rfl⟩
 nl:=by decide
 nolen:=Zhy
 nohint:=Zds
 self:=fun A s ys H Q E j q=>by
  rcases j.1 with ⟨_,old,e⟩ | ⟨z,_⟩
  ·exact Tx e q
  ·exact absurd z (Pp _)
 keep:=fun i ys H h h' S zs zs' h0 hS j k al=>by
  obtain ⟨j1,j2,⟨j3,j4⟩,j5,j6,j7,j8⟩:=j
  have ne1:en≠S:=fun z=>by rw [z,hS] at j3;cases j3
  have ne2:it≠S:=fun z=>by rw [z,hS] at j4;cases j4
  refine ⟨?_,?_,⟨by rw [Af ne1];exact j3,by rw [Af ne2];exact j4⟩,j5.kept hS,j6,fun m y hy=>?_,fun b o e=>?_⟩
  ·rcases j1 with ⟨z,old,e⟩ | ⟨z,a0,oa,f1,old,e,ea,x1,x2⟩
   ·exact .inl ⟨z,old,k _ _ ne1 e⟩
   ·by_cases hs:a0=S
    ·subst hs
     obtain ⟨o,eo⟩:=al
     exact .inr ⟨z,a0,o,f1,old,k _ _ ne1 e,eo,x1,x2⟩
    ·exact .inr ⟨z,a0,oa,f1,old,k _ _ ne1 e,k _ _ hs ea,x1,x2⟩
  ·exact j2.at fun o e=>k _ _ ne2 e
  ·obtain ⟨t,x,e1,e2,e3⟩:=j7 m y hy
   exact ⟨t,x,e1,e2,by rw [Af (Dl e3 hS (by intro z;cases z))];exact e3⟩
  ·have:b≠S:=fun z=>by rw [z,h0] at e;cases e
   rw [Af this]
   exact j8 b o e
 fresh:=fun i ys H h j=>j.2.2.1.1
 item:=fun A i s H ys E hh hi I j=>by
  obtain ⟨j1,j2,⟨j3,j4⟩,j5,j6,j7,j8⟩:=j
  obtain ⟨its,rv,p,hz⟩:=I.tuple j5
  have hl:=rv.length
  have D:=L6 (prog:=X.prog) (w:=X.w) (A:=A.in1) hh it a hai its.toArray
  refine Zjv D j1 ⟨j2,p⟩ (by rw [Ou];omega) hne (by simp [hne,O9 hae]) fun x h' tk hx st' it' ht hsz kk=>?_
  have I1:Inv X pins σ H { s with heap:=h',toks:=tk+1 }:=I.turned2 (fun b o h1 h2 e=>kk b o h1 h2 e) (fe.of j3) (fi.of j4)
  have hx':its[i]?=some x:=by simpa using hx
  have hxs:i < xs.length:=hi
  obtain ⟨u,hu,ru⟩:=rv.get (Os hxs)
  rw [hx'] at hu
  cases hu
  have hf:H s.heap.objs.size=none:=I.hok.fresh (Oq _)
  have I2:Inv X pins σ (upd H s.heap.objs.size (.tup [.int i,xs[i]])) { s with heap:=h',toks:=tk+1 }:=by
   have hokN:HOk X.prog X.w (upd H s.heap.objs.size (.tup [.int i,xs[i]])) h':=fun b o e=>by
    by_cases hb:b=s.heap.objs.size
    ·subst hb
     rw [Ac] at e
     cases e
     exact ⟨by show 2<=sizeLine;decide,[.int i tk,x],.cons ⟨tk,rfl⟩ (.cons ru .nil),⟨_,ht,rfl,_,rfl⟩⟩
    ·rw [Af hb] at e
     refine (I1.hok b o e).stay (fun c v _ q=>q) (fun c q=>?_) fun c zs q=>?_
     ·rw [Af (An q hf)];exact q
     ·rw [Af (An q hf)];exact q
   have u:Un (Cb X.stack) [en,it] H (upd H s.heap.objs.size (.tup [.int i,xs[i]])) s.heap h':={
    keep:=fun b o e n _ hx=>kk b o (fun z=>hx (by simp [z])) (fun z=>hx (by simp [z])) e
    slot:=fun b o e n _ hx=>⟨o.slots,kk b o (fun z=>hx (by simp [z])) (fun z=>hx (by simp [z])) e⟩
    free:=fun b o e n _=>by rw [Af (O1 (Ow e))];exact n
    there:=fun b o e hx=>⟨o,kk b o (fun z=>hx (by simp [z])) (fun z=>hx (by simp [z])) e⟩
    tups:=fun b zs e=>by rw [Af (An e hf)];exact e
    frzs:=fun b o u e=>by rw [Af (An e hf)];exact e
    tbls:=fun b ps e=>⟨#[],by rw [Af (An e hf),e];simp⟩ }
   refine I.call (g':=s.gens) (d':=s.drawn) (t':=tk+1) u hokN I.bare fun b hb=>?_
   rcases Oy.mp hb with rfl | hb
   ·exact ⟨fe.2.2.2.1,fe.2.1,fe.2.2.2.2.1,fe.2.2.2.2.2⟩
   ·rw [Py.mp hb]
    exact ⟨fi.2.2.2.1,fi.2.1,fi.2.2.2.2.1,fi.2.2.2.2.2⟩
  have sm:Same H (upd H s.heap.objs.size (.tup [.int i,xs[i]])):=Same.upd hf
  have ne1:en≠s.heap.objs.size:=by obtain ⟨_,e⟩:=j1.obj;exact O1 (Ow e)
  have ne2:it≠s.heap.objs.size:=by obtain ⟨_,e,_⟩:=j2;exact O1 (Ow e)
  refine ⟨_,.ref s.heap.objs.size,_,rfl,rfl,I2,⟨st',it'.1,⟨by rw [Af ne1];exact j3,by rw [Af ne2];exact j4⟩,j5.same sm,by simp [j6],fun m y hy=>?_,j8.trans sm⟩,fun S zs e=>sm S _ e⟩
  by_cases hm:m < i
  ·rw [Qf (by omega)] at hy
   obtain ⟨t,z,e1,e2,e3⟩:=j7 m y hy
   exact ⟨t,z,e1,e2,sm _ _ e3⟩
  ·have hlen:=(O7.mp hy).1
   rw [O3,Pq] at hlen
   have:m=i:=by omega
   subst this
   rw [Qp (by omega),j6,Q5] at hy
   have hy:V.ref s.heap.objs.size=y:=by simpa using hy
   exact ⟨_,xs[m],hy.symm,Os hxs,Ac⟩
 done:=fun A s H ys E hh I j=>by
  obtain ⟨j1,j2,⟨j3,j4⟩,j5,j6,j7,j8⟩:=j
  obtain ⟨its,rv,p,hz⟩:=I.tuple j5
  have hl:=rv.length
  have D:=L6 (prog:=X.prog) (w:=X.w) (A:=A.in1) hh it a hai its.toArray
  have e:xs.length=its.toArray.size:=by rw [Ou];omega
  rw [e] at j1 j2
  refine Zj5 D j1 ⟨j2,p⟩ fun h' eb=>⟨rfl,?_⟩
  obtain ⟨g0,g1,g2,g3,g4,g5⟩:=fi.of j4
  exact I.turned (t':=s.toks) (fun b o hb e=>eb b o hb e) g0 g1 g3 g4 g5
section
variable {X:Cx}
theorem Mr:bootBuiltins "list" = some (.type "list"):=by decide +kernel
noncomputable def J7 (K:Oo)(ta:TA):TE:=fun σ H Q=>ta σ H fun vs H1=>∃ a xs,vs=[.ref a]/\SqT K H1 a xs /\
 ∀(S:Addr)(ys:List V)(H2:Hp),H1 S=none->Same H1 H2->ys.length=xs.length->Ky H2 xs ys->H2 S=some (.lst ys)->Q (.ref S) H2
theorem Zgu {e:Expr}{ta:TA}{p p2 pos pos2:Pos}(hg:Gl X "list")(hm:X.mg "list" = none)(hg2:Gl X "enumerate")(hm2:X.mg "enumerate" = none)(ha:QA X [e] ta)(hc:X.calm=true:=by rfl)
  (hs:starEach [.Call (.Name "enumerate" p2) [e] [] pos2] X.env=[(false,eval (.Call (.Name "enumerate" p2) [e] [] pos2) X.env)]:=by rfl) (hs2:starEach [e] X.env=[(false,eval e X.env)]:=by rfl) :
  QE X (.Call (.Name "list" p) [.Call (.Name "enumerate" p2) [e] [] pos2] [] pos) (J7 X.K ta):=by
 refine ⟨fun pins s σ H Q I h=>?_⟩
 refine Call_ (C4 I hg hm Mr (Pw ?_ hs rfl))
 rw [hs]
 show wpAny _ _ (spliced ((false,eval (.Call (.Name "enumerate" p2) [e] [] pos2) X.env)::[])) _ _ s
 refine Rh ?_
 refine Call_ (C4 I hg2 hm2 Ug (Pw (Ae (ha.run pos2 pins s σ H _ I h) fun us s1 zq=>?_) hs2 rfl))
 obtain ⟨vs,H1,I1,r1,q1⟩:=zq
 obtain ⟨a,xs,e1,hq,q⟩:=q1
 subst e1
 cases r1 with
 | cons r rr =>
  cases rr
  cases r
  obtain ⟨its,rv,pt,hz⟩:=I1.tuple hq
  have hlt:a < s1.heap.objs.size:=by obtain ⟨o,e,_⟩:=id pt;exact Ow e
  refine Zc2 (show s1.heap.IsTuple a its.toArray from pt) fun h' hen hit hsz hk=>?_
  refine Si ?_
  have I2:Inv X pins σ H1 { s1 with heap:=h' }:=I1.kept (t':=s1.toks) hk
  have fe:=I1.fpOk (b:=s1.heap.objs.size+1) (Ru _) (I1.hok.fresh (Ru _))
  have fi:=I1.fpOk (b:=s1.heap.objs.size) (Oq _) (I1.hok.fresh (Oq _))
  have C:=Ze6 (X:=X) (pins:=pins) (σ:=σ) (H0:=H1) (en:=s1.heap.objs.size+1) (it:=s1.heap.objs.size) (a:=a) (xs:=xs) fe fi (Nat.succ_ne_self _) (O1 (Tv hlt)) (O1 hlt)
  refine Zi8 C (by omega) (I1.ok.hd hc) I2 ⟨.inl ⟨rfl,_,hen⟩,hit,⟨fe.1,fi.1⟩,hq,rfl,fun j y hy=>by simp at hy,Same.refl _⟩ (fun S hge hS h2 k2=>?_) fun S H' ys hS hS' hl' hj=>?_
  ·have sm:Same H1 (upd H1 S (.lst [])):=Same.upd hS
   refine ⟨.inl ⟨rfl,_,k2 _ _ hen⟩,hit.at fun o e=>k2 _ _ e,⟨?_,?_⟩,hq.same sm,rfl,fun j y hy=>by simp at hy,sm⟩
   ·rw [Af (show s1.heap.objs.size+1≠S from fun z=>?_)]
    ·exact fe.1
    ·have hge:h'.objs.size<=S:=hge
     omega
   ·rw [Af (show s1.heap.objs.size≠S from fun z=>?_)]
    ·exact fi.1
    ·have hge:h'.objs.size<=S:=hge
     omega
  ·obtain ⟨h,j⟩:=hj
   exact q S ys H' hS j.2.2.2.2.2.2 hl' j.2.2.2.2.2.1 hS'
end
noncomputable def Ff (K:Oo)(a:Addr)(n:Nat):It :=
 ⟨fun i H=>∃ xs,SqL K H a xs/\xs.length=n/\i < n,fun i H x H'=>∃(t:Addr)(y:V),H t=none/\(∀ xs,SqL K H a xs->xs[i]?=some y)/\x=.ref t/\H'=upd H t (.tup [.int i,y]),fun i H=>i=n/\∃ xs,SqL K H a xs/\xs.length=n⟩
theorem Inv.pair {X:Cx}{pins:List (Addr×Obj)}{σ:St}{H:Hp}{s:Shared}{h':Heap}{tk:Nat}{i1 i2 T:Addr}{xs:List V}{its:List Value}(I:Inv X pins σ H s)(f1:FpOk X pins H i1)(f2:FpOk X pins H i2)
  (kk:∀ b o,b≠i1->b≠i2->s.heap.get? b=some o->h'.get? b=some o) (hT:s.heap.objs.size<=T) (rv:Vals xs its) (hz:xs.length<=sizeLine) (ht:h'.IsTuple T its.toArray):Inv X pins σ (upd H T (.tup xs)) { s with heap:=h',toks:=tk }:=by
 have hf:H T=none:=I.hok.fresh hT
 have I1:Inv X pins σ H { s with heap:=h',toks:=tk }:=I.turned2 kk f1 f2
 have hokN:HOk X.prog X.w (upd H T (.tup xs)) h':=fun b o e=>by
  by_cases hb:b=T
  ·subst hb
   rw [Ac] at e
   cases e
   exact ⟨hz,its,rv,ht⟩
  ·rw [Af hb] at e
   refine (I1.hok b o e).stay (fun c v _ q=>q) (fun c q=>?_) fun c zs q=>?_
   ·rw [Af (An q hf)];exact q
   ·rw [Af (An q hf)];exact q
 have u:Un (Cb X.stack) [i1,i2] H (upd H T (.tup xs)) s.heap h':={
  keep:=fun b o e n _ hx=>kk b o (fun z=>hx (by simp [z])) (fun z=>hx (by simp [z])) e
  slot:=fun b o e n _ hx=>⟨o.slots,kk b o (fun z=>hx (by simp [z])) (fun z=>hx (by simp [z])) e⟩
  free:=fun b o e n _=>by rw [Af (O1 (O5 (Ow e) hT))];exact n
  there:=fun b o e hx=>⟨o,kk b o (fun z=>hx (by simp [z])) (fun z=>hx (by simp [z])) e⟩
  tups:=fun b zs e=>by rw [Af (An e hf)];exact e
  frzs:=fun b o u e=>by rw [Af (An e hf)];exact e
  tbls:=fun b ps e=>⟨#[],by rw [Af (An e hf),e];simp⟩ }
 refine I.call (g':=s.gens) (d':=s.drawn) (t':=tk) u hokN I.bare fun b hb=>?_
 rcases Oy.mp hb with rfl | hb
 ·exact ⟨f1.2.2.2.1,f1.2.1,f1.2.2.2.2.1,f1.2.2.2.2.2⟩
 ·rw [Py.mp hb]
  exact ⟨f2.2.2.2.1,f2.2.1,f2.2.2.2.2.1,f2.2.2.2.2.2⟩
theorem Ze1 {P:Program}{w:World}{K:Oo}{elts:List Expr}{kt:Nat}{pt:Pos}(a en it:Addr)(n:Nat)(hne:en≠it)(hae:a≠en)(hai:a≠it):Dm P w K (.Tuple elts kt pt) (Ff K a n) [en,it] en (fun i h=>(∃ old,IsEnum h en it i old)/\h.IsListIter it a i) where
 mem:=by simp
 obj:=fun i h st b hb=>by
  rcases Oy.mp hb with rfl | hb
  ·obtain ⟨old,e⟩:=st.1
   exact ⟨_,e,fun v z=>by
    have z':Data.fields _=Data.cell v:=z
    cases z'⟩
  ·rw [Py.mp hb]
   obtain ⟨o,e,c,d⟩:=st.2
   exact ⟨o,e,fun v z=>by rw [d] at z;cases z⟩
 keep:=fun i h h' st k=>⟨let ⟨old,e⟩:=st.1;⟨old,k en (by simp) _ e⟩,st.2.at fun o e=>k it (by simp) o e⟩
 item:=by
  intro X hP hw hK hc i pins s σ H E I hf st hg
  subst hP hw hK
  obtain ⟨xs,hq,hl,hi⟩:=hg
  obtain ⟨its,rv,p,hz⟩:=I.list hq
  have hlen:=rv.length
  have fe:=hf en (by simp)
  have fi:=hf it (by simp)
  have W:=WalksT.enumerateD (prog:=X.prog) (w:=X.w) (A:=X.A) (Draws.list (A:=X.A.in1) (I.ok.hd hc) it a hai its.toArray) en hne (by simp [hne,O9 hae]) (by simp)
  refine W.item i s _ _ (by rw [Ou];omega) ⟨st.1,st.2,p.isList⟩ fun T vals h1 tk hP hT ht mid k1=>?_
  obtain ⟨t,x,hx,rfl⟩:=hP
  refine ⟨_,rfl,W.go elts kt pt i T _ _ _ mid fun h2 st2 k2=>?_⟩
  have hx':its[i]?=some x:=by simpa using hx
  have hxs:i < xs.length:=by omega
  obtain ⟨u,hu,ru⟩:=rv.get (Os hxs)
  rw [hx'] at hu
  cases hu
  have hTw:T ∉ [en,it]:=W.apart i T _ mid
  have ht2:h2.IsTuple T ([.int i t,x]:List Value).toArray:=by
   obtain ⟨o,eo,r⟩:=ht
   exact ⟨o,k2 T o hTw eo,r⟩
  have kk:∀ b o,b≠en->b≠it->s.heap.get? b=some o->h2.get? b=some o:=fun b o h1 h3 e=>k2 b o (by simp [h1,h3]) (k1 b o (by simp [h1,h3]) e)
  have I2:=I.pair (tk:=tk) (T:=T) (xs:=[.int i,xs[i]]) fe fi kk hT (.cons ⟨t,rfl⟩ (.cons ru .nil)) (by show 2<=sizeLine;decide) ht2
  refine ⟨.ref T,_,I2,rfl,⟨T,xs[i],I.hok.fresh hT,fun ys hy=>by rw [I.list_inj hy hq];exact Os hxs,rfl,rfl⟩,⟨st2.1,st2.2.1⟩,fun b hb=>?_⟩
  have hb':b≠T:=fun z=>hTw (z ▸ hb)
  rw [Af hb']
  exact (hf b hb).1
 done:=by
  intro X hP hw hK hc i pins s σ H E I hf st hg
  subst hP hw hK
  obtain ⟨rfl,xs,hq,hl⟩:=hg
  obtain ⟨its,rv,p,hz⟩:=I.list hq
  have hlen:=rv.length
  have fe:=hf en (by simp)
  have fi:=hf it (by simp)
  have W:=WalksT.enumerateD (prog:=X.prog) (w:=X.w) (A:=X.A) (Draws.list (A:=X.A.in1) (I.ok.hd hc) it a hai its.toArray) en hne (by simp [hne,O9 hae]) (by simp)
  have e:i=its.toArray.size:=by rw [Ou];omega
  rw [e] at st
  exact W.done s _ _ ⟨st.1,st.2,p.isList⟩ fun h' tk kk=>⟨rfl,I.turned2 (fun b o h1 h2 e=>kk b o (by simp [h1,h2]) e) fe fi⟩
 self:=fun A i s Q E st h=>by
  obtain ⟨old,e⟩:=st.1
  exact Tx e h
section
variable {X:Cx}
noncomputable def Lg (K:Oo)(ta:TA):TI:=fun σ H R=>ta σ H fun vs H1=>∃ a xs,vs=[.ref a]/\SqL K H1 a xs/\R (Ff K a xs.length) H1
theorem Ziz {elts:List Expr}{kt:Nat}{pt:Pos}{e:Expr}{ta:TA}{p pos:Pos}(hg:Gl X "enumerate")(hm:X.mg "enumerate" = none)(ha:QA X [e] ta)(hs:starEach [e] X.env=[(false,eval e X.env)]:=by rfl):QI X (.Tuple elts kt pt) (.Call (.Name "enumerate" p) [e] [] pos) (Lg X.K ta):=by
 refine ⟨fun pins s σ H R I h=>?_⟩
 refine Call_ (C4 I hg hm Ug (Pw (Ae (ha.run pos pins s σ H _ I h) fun us s1 zq=>?_) hs rfl))
 obtain ⟨vs,H1,I1,r1,q1⟩:=zq
 obtain ⟨l,xs,e1,hq,q⟩:=q1
 subst e1
 cases r1 with
 | cons r rr =>
  cases rr
  cases r
  obtain ⟨its,rv,pl,hz⟩:=I1.list hq
  have hlt:l < s1.heap.objs.size:=by obtain ⟨o,e,_⟩:=pl.isList;exact Ow e
  refine call_enumerate_list pl.isList fun h' hen hit hsz hk=>?_
  refine Tx hen ?_
  have fe:=I1.fpOk (b:=s1.heap.objs.size+1) (Ru _) (I1.hok.fresh (Ru _))
  have fi:=I1.fpOk (b:=s1.heap.objs.size) (Oq _) (I1.hok.fresh (Oq _))
  refine ⟨s1.heap.objs.size+1,[s1.heap.objs.size+1,s1.heap.objs.size],_,_,H1,rfl,I1.kept (t':=s1.toks) hk,Ze1 l _ _ xs.length (Nat.succ_ne_self _) (O1 (Tv hlt)) (O1 hlt),⟨⟨_,hen⟩,hit⟩,fun b hb=>?_,q⟩
  rcases Oy.mp hb with rfl | hb
  ·exact fe
  ·rw [Py.mp hb]
   exact fi
theorem Mw {K:Oo}{a:Addr}{xs:List V}{g:TG}{tb:TS}{D:Cj}{σ:St}{H:Hp}(Pv:Nat->St->Hp->Prop)(h0:Pv 0 σ H)(hl:∀ i σ H,i<=xs.length->Pv i σ H->SqL K H a xs)
  (hs:∀ i x t σ H,xs[i]?=some x->H t=none->Pv i σ H->g (.ref t) σ (upd H t (.tup [.int i,x])) fun σ2 H2=>tb { D with nx:=Pv (i+1),ct:=Pv (i+1),bk:=D.nx } σ2 H2) (hd:∀ σ H,Pv xs.length σ H->D.nx σ H) :
  ∃ W:Nat->Nat->St->Hp->Prop,(∃ m,W 0 m σ H)/\∀ i m σ H,W i m σ H ->
   ((Ff K a xs.length).stop i H/\D.nx σ H)\/((Ff K a xs.length).go i H/\∃ N:St->Hp->Prop,(∀ σ' H',N σ' H'->∃ m',m' < m/\W (i+1) m' σ' H')/\∀ x H',(Ff K a xs.length).yld i H x H'->g x σ H' fun σ2 H2=>tb { D with nx:=N,ct:=N,bk:=D.nx } σ2 H2):=by
 refine ⟨fun i m σ H=>m=xs.length - i/\i<=xs.length/\Pv i σ H,⟨xs.length,by simp,Pd _,h0⟩,?_⟩
 rintro i m σ H ⟨rfl,hi,p⟩
 have q:=hl i σ H hi p
 by_cases hlt:i < xs.length
 ·refine .inr ⟨⟨xs,q,rfl,hlt⟩,Pv (i+1),fun σ' H' p'=>⟨xs.length - (i+1),by omega,rfl,hlt,p'⟩,fun x H' y=>?_⟩
  obtain ⟨t,y,ht,hy,rfl,rfl⟩:=y
  exact hs i y t σ _ (hy xs q) ht p
 ·have e:i=xs.length:=by omega
  subst e
  exact .inl ⟨⟨rfl,xs,q,rfl⟩,hd σ H p⟩
end
end L2
namespace L2
open PySem PySem.SeqAt
open PySem.AutoSeq1 (wpAny_loadPart')
open PySem.MeetsSeq PySem.MeetsSeq2 PySem.MeetsSeq3 PySem.SeqRoads2
theorem Zbv (l b:Addr)(items items2:Array Value)(n n2:Nat)(dd dd2:Option Addr)(sl sl2:Array (Option Value))(hsz:items.size=items2.size)(e:Nat->Bool)(k:Nat) :
  ∀ i:Nat,items.size - i=k->Meets (Builtin.«list.__eq__.loop» ⟨[.ref l,.ref b,rawInt i,rawInt 3],[]⟩)
   (fun A R s=>s.heap.get? l=some { cls:=.type "list",dict:=dd,data:=.seq items n,slots:=sl }/\s.heap.get? b=some { cls:=.type "list",dict:=dd2,data:=.seq items2 n2,slots:=sl2 } /\
    (∀ j (h1:j < items.size) (h2:j < items2.size),EqAt A.in1 s items[j] items2[j] (e j)) /\
    R (.ok (.ret (.bool (!((O2 items.size).drop i).all e)))) s):=by
 induction k with
 | zero =>
  intro i hk prog w A R s h
  obtain ⟨hp,g,d,tk,os⟩:=s;obtain ⟨hl,hb,he,h⟩:=h
  wp_walk using wpAny_loadPart' hl,wpAny_loadPart' hb
  have hi1:items[((i:Nat):Int).toNat]?=none:=by simp;omega
  have hi2:items2[((i:Nat):Int).toNat]?=none:=by simp;omega
  have hd:(O2 items.size).drop i=[]:=by simp;omega
  rw [hd] at h
  rw [hi1,hi2]
  wp_walk using wpAny_loadPart' hl,wpAny_loadPart' hb
  show R (.ok (.ret (.bool (items.size != items2.size)))) _
  rw [hsz]
  simpa using h
 | succ k ih =>
  intro i hk prog w A R s h
  obtain ⟨hp,g,d,tk,os⟩:=s;obtain ⟨hl,hb,he,h⟩:=h
  wp_walk using wpAny_loadPart' hl,wpAny_loadPart' hb
  have hlt:i < items.size:=by omega
  have hlt2:i < items2.size:=by omega
  have hi1:items[((i:Nat):Int).toNat]?=some items[i]:=by simp [hlt]
  have hi2:items2[((i:Nat):Int).toNat]?=some items2[i]:=by simp [hlt2]
  have hd:(O2 items.size).drop i=i::(O2 items.size).drop (i+1):=by simp [P5,hlt]
  have hc:((i:Int)+1)=((i+1:Nat):Int):=by push_cast;rfl
  rw [hd,Sx] at h
  rw [hi1,hi2]
  refine Op (he i hlt hlt2 prog w _ _ ?_)
  cases hb':e i with
  | true =>
   rw [hb'] at h
   wp_walk
   rw [hc]
   exact ⟨Q4 plain_eq_loop _,Q0 entry_eq_loop (by
    rw [Qu plain_eq_loop _]
    exact ih (i+1) (by omega) prog w A R _ ⟨hl,hb,he,by simpa using h⟩)⟩
  | false =>
   rw [hb'] at h
   wp_walk using wpAny_loadPart' hl,wpAny_loadPart' hb
   rw [hi1,hi2]
   wp_walk
   simpa using h
theorem Zfy (l b:Addr)(items items2:Array Value)(n n2:Nat)(dd dd2:Option Addr)(sl sl2:Array (Option Value))(hsz:items.size=items2.size)(e:Nat->Bool) :
  Meets (Builtin.«list.__ne__» ⟨[.ref l,.ref b],[]⟩)
   (fun A R s=>s.heap.get? l=some { cls:=.type "list",dict:=dd,data:=.seq items n,slots:=sl }/\s.heap.get? b=some { cls:=.type "list",dict:=dd2,data:=.seq items2 n2,slots:=sl2 } /\
    (∀ j (h1:j < items.size) (h2:j < items2.size),EqAt A.in1 s items[j] items2[j] (e j)) /\
    R (.ok (.ret (.bool (!(O2 items.size).all e)))) s):=by
 intro prog w A R s h
 obtain ⟨hp,g,d,tk,os⟩:=s;obtain ⟨hl,hb,he,h⟩:=h
 have f3:=PySem.AutoSeq1.sub_list_list
 have hne:¬ (items.size != items2.size)=true:=by simp [hsz]
 wp_walk using wpAny_loadPart' hl,wpAny_loadPart' hb
 exact ⟨Q4 plain_eq_loop _,Q0 entry_eq_loop (by
  rw [Qu plain_eq_loop _]
  exact Zbv l b items items2 n n2 dd dd2 sl sl2 hsz e _ 0 rfl prog w A R _ ⟨hl,hb,he,by simpa using h⟩)⟩
theorem Zge (l b:Addr)(items items2:Array Value)(n n2:Nat)(dd dd2:Option Addr)(sl sl2:Array (Option Value))(e:Nat->Bool) :
  Meets (Builtin.«tuple.__ne__» ⟨[.ref l,.ref b],[]⟩)
   (fun A R s=>s.heap.get? l=some { cls:=.type "tuple",dict:=dd,data:=.seq items n,slots:=sl }/\s.heap.get? b=some { cls:=.type "tuple",dict:=dd2,data:=.seq items2 n2,slots:=sl2 } /\
    (∀ j (h1:j < items.size) (h2:j < items2.size),EqAt A.in1 s items[j] items2[j] (e j)) /\
    R (.ok (.ret (.bool (!((O2 (min items.size items2.size)).all e && items.size == items2.size))))) s) :=
 .of_wp fun prog w A R s h=>by
  obtain ⟨hp,g,d,tk,os⟩:=s;obtain ⟨hl,hb,he,h⟩:=h
  have f2:=PySem.AutoSeq1.sub_tuple_tuple
  have hZ:(items.toList.zip items2.toList).length=min items.size items2.size:=by simp
  wp_walk using wpAny_loadPart' hl,wpAny_loadPart' hb,wpAny_forIn_list _ (fun rest b s'=>b.1=none/\s'=⟨hp,g,d,tk,os⟩/\∃ i,rest=(items.toList.zip items2.toList).drop i /\
   R (.ok (.ret (.bool (!(((O2 (min items.size items2.size)).drop i).all e && items.size == items2.size))))) ⟨hp,g,d,tk,os⟩) _
  case turn =>
   rintro ⟨y,x⟩ rest b s' ⟨hb',rfl,i,hz,hR⟩
   have hlt:i < (items.toList.zip items2.toList).length:=by
    rcases Nat.lt_or_ge i (items.toList.zip items2.toList).length with h' | h'
    ·exact h'
    ·rw [Sf h'] at hz;cases hz
   have hm:i < min items.size items2.size:=hZ ▸ hlt
   have h1:i < items.size:=O5 hm (Nat.min_le_left _ _)
   have h2:i < items2.size:=O5 hm (Nat.min_le_right _ _)
   rw [P5 hlt] at hz
   injection hz with hyx hrest
   have hy:y=items[i]:=by have:=congrArg Prod.fst hyx;simpa using this
   have hx:x=items2[i]:=by have:=congrArg Prod.snd hyx;simpa using this
   subst hy hx
   have hd:(O2 (min items.size items2.size)).drop i=i::(O2 (min items.size items2.size)).drop (i+1):=by simp [P5,hm]
   rw [hd,Sx] at hR
   refine Op (he i h1 h2 prog w _ _ ?_)
   cases hy:e i with
   | true =>
    rw [hy] at hR
    wp_walk
    exact ⟨rfl,rfl,i+1,hrest,by simpa using hR⟩
   | false =>
    rw [hy] at hR
    wp_walk
    exact ⟨_,rfl,by simpa using hR⟩
  case fin =>
   rintro ⟨b1,b2⟩ s' ⟨hb',rfl,i,hz,hR⟩
   simp only at hb'
   subst hb'
   have hge:min items.size items2.size<=i:=by
    rcases Nat.lt_or_ge i (items.toList.zip items2.toList).length with h' | h'
    ·rw [P5 h'] at hz;cases hz
    ·exact hZ ▸ h'
   rw [Sf (by simpa using hge)] at hR
   wp_walk
   exact ⟨_,rfl,by simpa [Builtin.Tuple.tupleCompareSizes,bne] using hR⟩
  case h =>
   exact ⟨rfl,rfl,0,rfl,by simpa using h⟩
section
variable {prog:Program}{w:World}{A:Around}{E:Value->Shared->Prop}{s:Shared}
theorem Zj8 {l b:Addr}{items items2:Array Value}{e:Nat->Bool}{Q:Value->Shared->Prop}(hl:s.heap.IsList l items)(hb:s.heap.IsList b items2)(hsz:items.size=items2.size)(hu:A.units < cLine)
  (he:∀ j (h1:j < items.size) (h2:j < items2.size),EqAt A.in1 s items[j] items2[j] (e j)) (h:Q (.bool (!(O2 items.size).all e)) s):wpAny (model prog w) A (compareOp .NotEq (.ref l) (.ref b)) Q E s:=by
 obtain ⟨⟨cls,dd,data,sl⟩,ho,hc,n,hd⟩:=id hl
 obtain ⟨⟨cls2,dd2,data2,sl2⟩,ho2,hc2,n2,hd2⟩:=id hb
 simp only at hc hd hc2 hd2
 subst hc hd hc2 hd2
 exact richCompare_meets_room (op:=.NotEq) ⟨_,ho,rfl⟩ ⟨_,ho2,rfl⟩ F.slot_list_ne F.entry_list_ne (F.args_list_ne_2 _ _) (Zfy l b items items2 n n2 dd dd2 sl sl2 hsz e)
  ⟨ho,ho2,he,show Value.bool (!(O2 items.size).all e)≠Value.notImplemented/\Q (.bool (!(O2 items.size).all e)) s from ⟨(fun x=>nomatch x),h⟩⟩ hu
theorem Zi3 {l b:Addr}{items items2:Array Value}{e:Nat->Bool}{Q:Value->Shared->Prop}(hl:s.heap.IsTuple l items)(hb:s.heap.IsTuple b items2)(hu:A.units < cLine)
  (he:∀ j (h1:j < items.size) (h2:j < items2.size),EqAt A.in1 s items[j] items2[j] (e j)) (h:Q (.bool (!((O2 (min items.size items2.size)).all e && items.size == items2.size))) s):wpAny (model prog w) A (compareOp .NotEq (.ref l) (.ref b)) Q E s:=by
 obtain ⟨⟨cls,dd,data,sl⟩,ho,hc,n,hd⟩:=id hl
 obtain ⟨⟨cls2,dd2,data2,sl2⟩,ho2,hc2,n2,hd2⟩:=id hb
 simp only at hc hd hc2 hd2
 subst hc hd hc2 hd2
 exact richCompare_meets_room (op:=.NotEq) ⟨_,ho,rfl⟩ ⟨_,ho2,rfl⟩ F.slot_tuple_ne F.entry_tuple_ne (F.args_tuple_ne_2 _ _) (Zge l b items items2 n n2 dd dd2 sl sl2 e)
  ⟨ho,ho2,he,show Value.bool (!((O2 (min items.size items2.size)).all e && items.size == items2.size))≠Value.notImplemented/\Q (.bool (!((O2 (min items.size items2.size)).all e && items.size == items2.size))) s from ⟨(fun x=>nomatch x),h⟩⟩ hu
end
end L2
namespace L2
open PySem PySem.Spec PyProof.Rows
inductive Dt where
 | flat (v:V)
 | tup (ds:List Dt)
 | lst (ds:List Dt)
inductive IsD (K:Oo)(H:Hp):Nat->V->Dt->Prop where
 | flat {n:Nat} {v:V} (h:B6 v=true):IsD K H n v (.flat v)
 | tup {n:Nat} {a:Addr} {vs:List V} {ds:List Dt} (q:SqT K H a vs) (l:vs.length=ds.length) (h:∀(j:Nat)(v:V)(d:Dt),vs[j]?=some v->ds[j]?=some d->IsD K H n v d):IsD K H (n+1) (.ref a) (.tup ds)
 | lst {n:Nat} {a:Addr} {vs:List V} {ds:List Dt} (q:SqL K H a vs) (l:vs.length=ds.length) (h:∀(j:Nat)(v:V)(d:Dt),vs[j]?=some v->ds[j]?=some d->IsD K H n v d):IsD K H (n+1) (.ref a) (.lst ds)
theorem IsD.same {K:Oo}{H H':Hp}{n:Nat}{v:V}{d:Dt}(h:IsD K H n v d)(e:Same H H'):IsD K H' n v d:=by
 induction h with
 | flat h=>exact .flat h
 | tup q l _ ih=>exact .tup (e.tup q) l ih
 | lst q l _ ih=>exact .lst (e.seq q) l ih
theorem Zbj {v:V}(h:B6 v=true):Cr v v=true:=by
 cases v with
 | non=>rfl
 | bl b=>simp [Cr]
 | int i=>simp [Cr]
 | str x=>simp [Cr]
 | byt _=>cases h
 | flt _=>cases h
 | ref _=>cases h
 | ty _=>cases h
section
variable {X:Cx}{pins:List (Addr×Obj)}{σ:St}{H:Hp}{s:Shared}
theorem Zc5 (I:Inv X pins σ H s):∀{n:Nat}{x y:V}{d:Dt},IsD X.K H n x d->IsD X.K H n y d->∀{A:Around}{u v:Value},RelV x u->RelV y v->A.units+n < cLine->O0 A s u v true:=by
 intro n
 induction n with
 | zero =>
  intro x y d hx hy A u v rx ry hu
  cases hx with
  | flat fx =>
   cases hy with
   | flat fy =>
    have:=Kn (A:=A) (s:=s) rx ry fx fy
    rw [Zbj fx] at this
    exact this
 | succ n ih =>
  intro x y d hx hy A u v rx ry hu
  cases hx with
  | flat fx =>
   cases hy with
   | flat fy =>
    have:=Kn (A:=A) (s:=s) rx ry fx fy
    rw [Zbj fx] at this
    exact this
  | @tup _ a vs ds q l h =>
   cases hy with
   | @tup _ b ws _ q' l' h' =>
    cases rx
    cases ry
    by_cases hab:a=b
    ·subst hab
     exact T8 _
    obtain ⟨its,r1,p1,_⟩:=I.tuple q
    obtain ⟨its2,r2,p2,_⟩:=I.tuple q'
    have l1:=r1.length
    have l2:=r2.length
    have:=SeqAt.RcAt.tuples (A:=A) (e:=fun _=>true) (show s.heap.IsTuple a its.toArray from p1) (show s.heap.IsTuple b its2.toArray from p2) (by omega) fun j h1 h2=>by
     have h1':j < vs.length:=by simp only [Ou] at h1;omega
     have h2':j < ws.length:=by simp only [Ou] at h2;omega
     obtain ⟨u1,g1,k1⟩:=r1.get (Os h1')
     obtain ⟨u2,g2,k2⟩:=r2.get (Os h2')
     have e1:its.toArray[j]=u1:=by
      have:its[j]?=some its[j]:=by simp
      rw [this] at g1
      simpa using g1
     have e2:its2.toArray[j]=u2:=by
      have:its2[j]?=some its2[j]:=by simp
      rw [this] at g2
      simpa using g2
     rw [e1,e2]
     have hd:j < ds.length:=by omega
     exact ih (h j _ _ (Os h1') (Os hd)) (h' j _ _ (Os h2') (Os hd)) k1 k2 (by show A.units+1+n < cLine;omega)
    have e:((O2 (min its.toArray.size its2.toArray.size)).all (fun _=>true) && its.toArray.size == its2.toArray.size)=true:=by
     have:its.toArray.size=its2.toArray.size:=by simp only [Ou];omega
     rw [this]
     simp
    rw [e] at this
    exact O0.of_refs hab this
  | @lst _ a vs ds q l h =>
   cases hy with
   | @lst _ b ws _ q' l' h' =>
    cases rx
    cases ry
    by_cases hab:a=b
    ·subst hab
     exact T8 _
    obtain ⟨its,r1,p1,_⟩:=I.list q
    obtain ⟨its2,r2,p2,_⟩:=I.list q'
    have l1:=r1.length
    have l2:=r2.length
    have:=SeqAt.RcAt.lists (A:=A) (e:=fun _=>true) p1.isList p2.isList (by simp only [Ou];omega) (by omega) fun j h1 h2=>by
     have h1':j < vs.length:=by simp only [Ou] at h1;omega
     have h2':j < ws.length:=by simp only [Ou] at h2;omega
     obtain ⟨u1,g1,k1⟩:=r1.get (Os h1')
     obtain ⟨u2,g2,k2⟩:=r2.get (Os h2')
     have e1:its.toArray[j]=u1:=by
      have:its[j]?=some its[j]:=by simp
      rw [this] at g1
      simpa using g1
     have e2:its2.toArray[j]=u2:=by
      have:its2[j]?=some its2[j]:=by simp
      rw [this] at g2
      simpa using g2
     rw [e1,e2]
     have hd:j < ds.length:=by omega
     exact ih (h j _ _ (Os h1') (Os hd)) (h' j _ _ (Os h2') (Os hd)) k1 k2 (by show A.units+1+n < cLine;omega)
    have e:(O2 its.toArray.size).all (fun _=>true)=true:=by simp
    rw [e] at this
    exact O0.of_refs hab this
theorem Hz (I:Inv X pins σ H s){n:Nat}{A:Around}{vs ws:List V}{its its2:List Value}{ds:List Dt}(r1:Vals vs its)(r2:Vals ws its2)(l:vs.length=ds.length)(l':ws.length=ds.length)
  (h:∀(j:Nat)(v:V)(d:Dt),vs[j]?=some v->ds[j]?=some d->IsD X.K H n v d) (h':∀(j:Nat)(v:V)(d:Dt),ws[j]?=some v->ds[j]?=some d->IsD X.K H n v d) (hu:A.units+n < cLine) :
  ∀ j (h1:j < its.toArray.size) (h2:j < its2.toArray.size),O0 A s its.toArray[j] its2.toArray[j] ((fun _=>true) j):=fun j h1 h2=>by
 have l1:=r1.length
 have l2:=r2.length
 have h1':j < vs.length:=by simp only [Ou] at h1;omega
 have h2':j < ws.length:=by simp only [Ou] at h2;omega
 obtain ⟨u1,g1,k1⟩:=r1.get (Os h1')
 obtain ⟨u2,g2,k2⟩:=r2.get (Os h2')
 have e1:its.toArray[j]=u1:=by
  have:its[j]?=some its[j]:=by simp
  rw [this] at g1
  simpa using g1
 have e2:its2.toArray[j]=u2:=by
  have:its2[j]?=some its2[j]:=by simp
  rw [this] at g2
  simpa using g2
 rw [e1,e2]
 have hd:j < ds.length:=by omega
 exact Zc5 I (h j _ _ (Os h1') (Os hd)) (h' j _ _ (Os h2') (Os hd)) k1 k2 hu
end
section
variable {X:Cx}
noncomputable def Ik (K:Oo)(b:Bool):R2:=fun x y H Q=>∃(a c:Addr)(n:Nat)(d:Dt),x=.ref a/\y=.ref c/\n<=190/\IsD K H n x d/\IsD K H n y d/\Q (.bl b) H
theorem Zgs (hu:X.A.units+200 < cLine):OpR X (compareOp .Eq) (Ik X.K true):=by
 intro pins s σ H x y v u Q I rx ry h
 obtain ⟨a,c,n,d,rfl,rfl,hn,hx,hy,q⟩:=h
 cases rx
 cases ry
 cases hx with
 | flat fx=>cases fx
 | @tup n _ vs ds qx l hd =>
  cases hy with
  | @tup _ _ ws _ qy l' hd' =>
   obtain ⟨its,r1,p1,_⟩:=I.tuple qx
   obtain ⟨its2,r2,p2,_⟩:=I.tuple qy
   have l1:=r1.length
   have l2:=r2.length
   refine T1 (e:=fun _=>true) (show s.heap.IsTuple a its.toArray from p1) (show s.heap.IsTuple c its2.toArray from p2) (by omega) (Hz I r1 r2 l l' hd hd' (by show X.A.units+1+n < cLine;omega)) ?_
   have e:((O2 (min its.toArray.size its2.toArray.size)).all (fun _=>true) && its.toArray.size == its2.toArray.size)=true:=by
    have:its.toArray.size=its2.toArray.size:=by simp only [Ou];omega
    rw [this]
    simp
   rw [e]
   exact ⟨.bl true,H,I,rfl,q⟩
 | @lst n _ vs ds qx l hd =>
  cases hy with
  | @lst _ _ ws _ qy l' hd' =>
   obtain ⟨its,r1,p1,_⟩:=I.list qx
   obtain ⟨its2,r2,p2,_⟩:=I.list qy
   have l1:=r1.length
   have l2:=r2.length
   refine SeqAt.eq_listAt (e:=fun _=>true) p1.isList p2.isList (by simp only [Ou];omega) (by omega) (Hz I r1 r2 l l' hd hd' (by show X.A.units+1+n < cLine;omega)) ?_
   have e:(O2 its.toArray.size).all (fun _=>true)=true:=by simp
   rw [e]
   exact ⟨.bl true,H,I,rfl,q⟩
theorem Zji (hu:X.A.units+200 < cLine):OpR X (compareOp .NotEq) (Ik X.K false):=by
 intro pins s σ H x y v u Q I rx ry h
 obtain ⟨a,c,n,d,rfl,rfl,hn,hx,hy,q⟩:=h
 cases rx
 cases ry
 cases hx with
 | flat fx=>cases fx
 | @tup n _ vs ds qx l hd =>
  cases hy with
  | @tup _ _ ws _ qy l' hd' =>
   obtain ⟨its,r1,p1,_⟩:=I.tuple qx
   obtain ⟨its2,r2,p2,_⟩:=I.tuple qy
   have l1:=r1.length
   have l2:=r2.length
   refine Zi3 (e:=fun _=>true) (show s.heap.IsTuple a its.toArray from p1) (show s.heap.IsTuple c its2.toArray from p2) (by omega) (Hz I r1 r2 l l' hd hd' (by show X.A.units+1+n < cLine;omega)) ?_
   have e:(!((O2 (min its.toArray.size its2.toArray.size)).all (fun _=>true) && its.toArray.size == its2.toArray.size))=false:=by
    have:its.toArray.size=its2.toArray.size:=by simp only [Ou];omega
    rw [this]
    simp
   rw [e]
   exact ⟨.bl false,H,I,rfl,q⟩
 | @lst n _ vs ds qx l hd =>
  cases hy with
  | @lst _ _ ws _ qy l' hd' =>
   obtain ⟨its,r1,p1,_⟩:=I.list qx
   obtain ⟨its2,r2,p2,_⟩:=I.list qy
   have l1:=r1.length
   have l2:=r2.length
   refine Zj8 (e:=fun _=>true) p1.isList p2.isList (by simp only [Ou];omega) (by omega) (Hz I r1 r2 l l' hd hd' (by show X.A.units+1+n < cLine;omega)) ?_
   have e:(!(O2 its.toArray.size).all (fun _=>true))=false:=by simp
   rw [e]
   exact ⟨.bl false,H,I,rfl,q⟩
noncomputable def Ih (K:Oo):R2:=fun x y H Q=>rEq x y H Q\/Ik K true x y H Q
noncomputable def Kk (K:Oo):R2:=fun x y H Q=>rNe x y H Q\/Ik K false x y H Q
theorem Zbb (hu:X.A.units+200 < cLine):OpR X (compareOp .Eq) (Ih X.K):=op_eq.or (Zgs hu)
theorem Zig (hu:X.A.units+200 < cLine):OpR X (compareOp .NotEq) (Kk X.K):=op_ne.or (Zji hu)
theorem s_eq {K:Oo}{x y:V}{H:Hp}{Q:VK}(hs:E4 x y=true)(h:Q (.bl (decide (x=y))) H):Ih K x y H Q:=.inl ⟨hs,h⟩
theorem s_ne {K:Oo}{x y:V}{H:Hp}{Q:VK}(hs:E4 x y=true)(h:Q (.bl (!decide (x=y))) H):Kk K x y H Q:=.inl ⟨hs,h⟩
theorem Room.u200 {k:Nat}{A:Around}(r:Room k A):A.units+200 < cLine:=by have:=r.un;omega
end
section
variable {t u:TS}{c d:TT}{te ta tb tc:TE}{g:TG}{gs:Co}{ts:TA}{D:Cj}{σ:St}{H:Hp}{Q:VK}{QB:Bool->Hp->Prop}{QA':List V->Hp->Prop}
theorem s_seq (h:t { D with nx:=u D } σ H):Jy t u D σ H:=h
theorem s_asg (h:te σ H fun x H1=>g x σ H1 D.nx):D6 te g D σ H:=h
theorem s_ret (h:te σ H D.rt):Lf te D σ H:=h
theorem s_drop (h:te σ H fun _ H1=>D.nx σ H1):Km te D σ H:=h
theorem s_next (h:D.nx σ H):Jh D σ H:=h
theorem s_ifS (h:c σ H fun b H1=>if b=true then t D σ H1 else u D σ H1):K1 c t u D σ H:=h
theorem s_var {i:Nat}{v:V}(e:σ[i]?=some (some v))(h:Q v H):Lx i σ H Q:=⟨v,e,h⟩
theorem s_c {v:V}(h:Q v H):tC v σ H Q:=h
theorem s_op {r:R2}(h:ta σ H fun x H1=>tb σ H1 fun y H2=>r x y H2 Q):Dd r ta tb σ H Q:=h
theorem s_un {r:V->Hp->VK->Prop}(h:ta σ H fun x H1=>r x H1 Q):tUn r ta σ H Q:=h
theorem s_test (h:te σ H fun x H'=>∃ k,x=.bl k/\QB k H'):Jx te σ H QB:=h
theorem s_tB (h:te σ H fun x H'=>∃ k,x=.bl k/\QB k H'):tB te σ H QB:=h
theorem s_ex {b:Bool}{P:Bool->Prop}(h:P b):∃ k,V.bl b=V.bl k/\P k:=⟨b,rfl,h⟩
theorem s_exi {i:Int}{P:Int->Prop}(h:P i):∃ k,V.int i=V.int k/\P k:=⟨i,rfl,h⟩
theorem s_not (h:c σ H fun b H1=>QB (!b) H1):Jv c σ H QB:=h
theorem s_and (h:c σ H fun b H1=>if b=true then d σ H1 QB else QB false H1):Jw c d σ H QB:=h
theorem s_or (h:c σ H fun b H1=>if b=true then QB true H1 else d σ H1 QB):tOr c d σ H QB:=h
theorem s_andV (h:ta σ H fun x H1=>∃ k,x=.bl k/\if k=true then tb σ H1 Q else Q (.bl false) H1):Jz ta tb σ H Q:=h
theorem s_notV (h:ta σ H fun x H1=>∃ k,x=.bl k/\Q (.bl (!k)) H1):Ke ta σ H Q:=h
theorem s_nil (h:QA' [] H):Kw σ H QA':=h
theorem s_cons (h:te σ H fun x H1=>ts σ H1 fun xs H2=>QA' (x::xs) H2):Jm te ts σ H QA':=h
theorem s_vals {xs:List V}(h:QA' xs H):Lh xs σ H QA':=h
theorem s_tup (h:ts σ H fun xs H1=>xs.length<=sizeLine/\∀ p,H1 p=none->Q (.ref p) (upd H1 p (.tup xs))):Lz ts σ H Q:=h
theorem s_lst (h:ts σ H fun xs H1=>xs.length<=sizeLine/\∀ p,H1 p=none->Q (.ref p) (upd H1 p (.lst xs))):Kg ts σ H Q:=h
theorem s_call {sp:Sp}{dvs:List V}{E:XK}(h:ts σ H fun vs H1=>sp (vs++dvs) H1 Q E):Hy sp dvs E ts σ H Q:=h
theorem s_cb {r:List V->Hp->VK->Prop}(h:ts σ H fun vs H1=>r vs H1 Q):tCB r ts σ H Q:=h
theorem s_bm {K:Oo}{T:String}{r:V->List V->Hp->VK->Prop}(h:te σ H fun x H1=>Fa K T x H1/\ts σ H1 fun xs H2=>r x xs H2 Q):tBM K T r te ts σ H Q:=h
theorem s_bm0 {K:Oo}{T:String}{r:V->List V->Hp->VK->Prop}(h:te σ H fun x H1=>Fa K T x H1/\r x [] H1 Q):Hi K T r te σ H Q:=h
theorem s_sl {r:V->Option Int->Option Int->Hp->VK->Prop}{tl th:TO}(h:te σ H fun x H1=>tl σ H1 fun l H2=>th σ H2 fun u H3=>r x l u H3 Q):tSl r te tl th σ H Q:=h
theorem s_po {QO':Option Int->Hp->Prop}(h:te σ H fun x H1=>∃ i,x=.int i/\QO' (some i) H1):Ld te σ H QO':=h
theorem s_po0 {QO':Option Int->Hp->Prop}(h:QO' none H):Jl σ H QO':=h
theorem s_gname {i:Nat}{v:V}{QS':St->Hp->Prop}(h:QS' (σ.set i (some v)) H):D8 i v σ H QS':=h
theorem C9 {K:Oo}{n:Nat}{a:Addr}{xs:List V}{QS':St->Hp->Prop}(q:SqT K H a xs)(l:xs.length=n)(h:gs xs σ H QS'):Im K n gs (.ref a) σ H QS':=⟨a,xs,rfl,q,l,h⟩
theorem s_gcons {v:V}{r:List V}{QS':St->Hp->Prop}(h:g v σ H fun σ' H'=>gs r σ' H' QS'):Iq g gs (v::r) σ H QS':=⟨v,r,rfl,h⟩
theorem s_gnil {QS':St->Hp->Prop}(h:QS' σ H):Kz [] σ H QS':=⟨rfl,h⟩
theorem s_gsub {to ti:TE}{tt:Gx}{v:V}{QS':St->Hp->Prop}(h:to σ H fun o H1=>ti σ H1 fun i H2=>tt o i v H2 fun H3=>QS' σ H3):Lc to ti tt v σ H QS':=h
theorem s_isN (h:ta σ H fun x H1=>Q (.bl (decide (x=.non))) H1):Ja ta σ H Q:=h
theorem s_notN (h:ta σ H fun x H1=>Q (.bl (!decide (x=.non))) H1):Kf ta σ H Q:=h
end
section
variable {wi:TI}{σ0:St->St}{g:TG}{tt:TT}{te:TE}{ta:TA}{tb:TS}{D:Cj}{σ:St}{H:Hp}{Q:VK}{R:It->Hp->Prop}{K:Oo}
theorem s_comp (h:wi σ H fun J H1=>∀ L,H1 L=none->Em J g tt te (σ0 σ) H1 L Q):Gk wi σ0 g tt te σ H Q:=h
theorem s_for (h:wi σ H fun J H1=>∃ W:Nat->Nat->St->Hp->Prop,(∃ m,W 0 m σ H1)/\∀ i m σ H,W i m σ H ->
 (J.stop i H/\D.nx σ H)\/(J.go i H/\∃ N:St->Hp->Prop,(∀ σ' H',N σ' H'->∃ m',m' < m/\W (i+1) m' σ' H')/\∀ x H',J.yld i H x H'->g x σ H' fun σ2 H2=>tb { D with nx:=N,ct:=N,bk:=D.nx } σ2 H2)):Kc wi g tb D σ H:=h
theorem s_rng1 (h:ta σ H fun vs H1=>∃ j:Int,vs=[.int j]/\-(2 ^ 62)<=j/\j < 2 ^ 62/\R (Eg 0 j.toNat) H1):Jt ta σ H R:=h
theorem s_exr {i:Int}{P:Int->Prop}(h:P i):∃ j,([V.int i]:List V)=[.int j]/\P j:=⟨i,rfl,h⟩
theorem s_iany (h:te σ H fun x H1=>(∃ a,x=.ref a/\(∃ xs,SqL K H1 a xs)/\R (D5 K a) H1)\/(∃ a,x=.ref a/\(∃ xs,SqT K H1 a xs)/\R (Ef K a) H1)\/∃ z,x=.str z/\R (Its z) H1):Lw K te σ H R:=h
theorem s_irev (h:ta σ H fun vs H1=>∃ a xs,vs=[.ref a]/\SqL K H1 a xs/\R (Fh K a xs.length) H1):Kx K ta σ H R:=h
theorem s_ienum (h:ta σ H fun vs H1=>∃ a xs,vs=[.ref a]/\SqL K H1 a xs/\R (Ff K a xs.length) H1):Lg K ta σ H R:=h
theorem s_listen (h:ta σ H fun vs H1=>∃ a xs,vs=[.ref a]/\SqT K H1 a xs/\∀(S:Addr)(ys:List V)(H2:Hp),H1 S=none->Same H1 H2->ys.length=xs.length->Ky H2 xs ys->H2 S=some (.lst ys)->Q (.ref S) H2):J7 K ta σ H Q:=h
theorem s_yes {QB:Bool->Hp->Prop}(h:QB true H):Iw σ H QB:=h
theorem s_turn {L:Addr}{Nx:List V->St->Hp->Prop}{x:V}(h:g x σ H fun σ2 H3=>tt σ2 H3 fun b H4=>if b=true then te σ2 H4 fun y H5=>∃ ys,H5 L=some (.lst ys)/\ys.length < sizeLine/\(∃ zs,upd H5 L (.lst (ys++[y])) L=some (.lst zs)/\Nx zs σ2 (upd H5 L (.lst (ys++[y])))) else ∃ zs,H4 L=some (.lst zs)/\Nx zs σ2 H4):Hn g tt te L Nx x σ H:=h
theorem C6 {l:Addr}{xs:List V}{y:V}(e:H l=some (.lst xs))(z:xs.length < sizeLine)(h:Q .non (upd H l (.lst (xs++[y])))):M3 (.ref l) [y] H Q:=⟨l,xs,y,rfl,rfl,e,z,h⟩
theorem Gs {l:Addr}{xs:List V}{y:V}(e:H l=some (.lst (xs++[y])))(h:Q y (upd H l (.lst xs))):rPop (.ref l) [] H Q:=⟨l,xs++[y],y,rfl,rfl,e,by simp,by simpa using h⟩
theorem Zg1 {p:Addr}{xs:List V}{k:Int}{j:Nat}{v:V}{QH:Hp->Prop}(e:H p=some (.lst xs))(hj:Cu xs.length k=some j)(h:QH (upd H p (.lst (xs.set j v)))):Nq (.ref p) (.int k) v H QH:=⟨p,xs,k,j,rfl,rfl,e,hj,h⟩
end
section
variable {X:Cx}(K:Oo)
theorem F3 (hK:X.K=K:=by rfl):OpR X (binaryOp .Add) (F5 K):=by subst hK;exact op_addA
theorem Bd (hu:X.A.units+200 < cLine)(hK:X.K=K:=by rfl):OpR X (compareOp .Eq) (Ih K):=by subst hK;exact Zbb hu
theorem Jn (hu:X.A.units+200 < cLine)(hK:X.K=K:=by rfl):OpR X (compareOp .NotEq) (Kk K):=by subst hK;exact Zig hu
theorem Hf (hK:X.K=K:=by rfl):OpR X (compareOp .In) (Jr K false):=by subst hK;exact Zd8
theorem k_ix (hK:X.K=K:=by rfl):IxR X (rIx K):=by subst hK;exact Zf4
theorem Fc (hK:X.K=K:=by rfl):SlR X (Lo K):=by subst hK;exact Zd7
theorem Cp (hK:X.K=K:=by rfl):B4 X (.builtin "len") (Hq K):=by subst hK;exact Ze0
inductive TyQ (K:Oo)(H:Hp):V->Value->Prop where
 | ty {x:V} {t:Value} (h:Cf K H x t):TyQ K H x t
 | tup {a:Addr} {xs:List V} (q:SqT K H a xs):TyQ K H (.ref a) (.type "tuple")
 | lst {a:Addr} {xs:List V} (q:SqL K H a xs):TyQ K H (.ref a) (.type "list")
noncomputable def Fw (K:Oo)(T:String):List V->Hp->VK->Prop:=fun xs H Q=>∃ x t b,xs=[x,.ty T]/\TyQ K H x t/\Rp K t (.type T)=some b/\Q (.bl b) H
theorem Zi0 {T:String}:B4 X (.builtin "isinstance") (Fw X.K T):=by
 intro pins s σ H xs us Q I r h
 obtain ⟨x,t,b,rfl,ty,e,q⟩:=h
 obtain ⟨u,v,rfl,ru,rv⟩:=r.two
 obtain rfl:v=Value.type T:=rv
 cases ty with
 | ty ty=>exact Zc8 I ru ty e fun tk=>⟨.bl b,H,I.tok tk,rfl,q⟩
 | tup hq =>
  cases ru
  obtain ⟨its,_,p,_⟩:=I.tuple hq
  obtain ⟨o,h1,h2,_⟩:=p
  exact Pl PySem.W.kitx_tuple I.kIn ⟨o,h1,h2⟩ e (fun z=>nomatch z) fun tk=>⟨.bl b,H,I.tok tk,rfl,q⟩
 | lst hq =>
  cases ru
  obtain ⟨its,_,p,_⟩:=I.list hq
  obtain ⟨o,n,h1,h2,_⟩:=p
  exact Pl Tu I.kIn ⟨o,h1,h2⟩ e (fun z=>nomatch z) fun tk=>⟨.bl b,H,I.tok tk,rfl,q⟩
theorem C8 (T:String)(hK:X.K=K:=by rfl):B4 X (.builtin "isinstance") (Fw K T):=by subst hK;exact Zi0
noncomputable def Zbu (K:Oo):List V->Hp->VK->Prop:=fun xs H Q=>∃ p ys,xs=[.ref p]/\(SqL K H p ys\/SqT K H p ys)/\∀ l,H l=none->Q (.ref l) (upd H l (.lst ys))
theorem Mu (hK:X.K=K:=by rfl):B4 X (.type "list") (Zbu K):=by subst hK;exact Zb0
noncomputable def My (K:Oo):List V->Hp->VK->Prop:=fun xs H Q=>∃ p ys,xs=[.ref p]/\((SqL K H p ys/\∀ l,H l=none->Q (.ref l) (upd H l (.tup ys)))\/(SqT K H p ys/\Q (.ref p) H))
theorem Me (hK:X.K=K:=by rfl):B4 X (.type "tuple") (My K):=by subst hK;exact Zh9
noncomputable def rInt:List V->Hp->VK->Prop:=fun xs H Q=>(∃ i,xs=[.int i]/\Q (.int i) H)\/∃ k,xs=[.bl k]/\Q (.int (if k then 1 else 0)) H
theorem Zdf:B4 X (.type "int") rInt:=Zf9
theorem s_intb {k:Bool}{H:Hp}{Q:VK}(h:Q (.int (if k=true then 1 else 0)) H):rInt [.bl k] H Q:=.inr ⟨k,rfl,h⟩
theorem Cw {tg l:Expr}{tl:TE}(hl:QE X l tl)(hK:X.K=K:=by rfl):QI X tg l (Lw K tl):=by subst hK;exact Zcg hl
theorem Zi6 {tg a:Expr}{ta:TA}{p pos:Pos}(hg:Gl X "reversed")(hm:X.mg "reversed" = none)(ha:QA X [a] ta)(hK:X.K=K:=by rfl)(hs:starEach [a] X.env=[(false,eval a X.env)]:=by rfl):QI X tg (.Call (.Name "reversed" p) [a] [] pos) (Kx K ta):=by subst hK;exact Zgf hg hm ha hs
theorem Zad {elts:List Expr}{kt:Nat}{pt:Pos}{e:Expr}{ta:TA}{p pos:Pos}(hg:Gl X "enumerate")(hm:X.mg "enumerate" = none)(ha:QA X [e] ta)(hK:X.K=K:=by rfl)(hs:starEach [e] X.env=[(false,eval e X.env)]:=by rfl):QI X (.Tuple elts kt pt) (.Call (.Name "enumerate" p) [e] [] pos) (Lg K ta):=by subst hK;exact Ziz hg hm ha hs
theorem Zjl {e:Expr}{ta:TA}{p p2 pos pos2:Pos}(hg:Gl X "list")(hm:X.mg "list" = none)(hg2:Gl X "enumerate")(hm2:X.mg "enumerate" = none)(ha:QA X [e] ta)(hK:X.K=K:=by rfl)(hc:X.calm=true:=by rfl)
  (hs:starEach [.Call (.Name "enumerate" p2) [e] [] pos2] X.env=[(false,eval (.Call (.Name "enumerate" p2) [e] [] pos2) X.env)]:=by rfl) (hs2:starEach [e] X.env=[(false,eval e X.env)]:=by rfl) :
  QE X (.Call (.Name "list" p) [.Call (.Name "enumerate" p2) [e] [] pos2] [] pos) (J7 K ta):=by subst hK;exact Zgu hg hm hg2 hm2 ha hc hs hs2
theorem Cy {es:List Expr}{k:Nat}{pos:Pos}{t:Co}{n:Nat}(hc:X.calm=true)(h:QGs X es t)(hK:X.K=K:=by rfl)(hn:(assignEach es X.env).length=n:=by rfl)(hst:(assignEach es X.env).findIdx? (·.1)=none:=by rfl):QG X (.Tuple es k pos) (Im K n t):=by subst hK;exact Zjf hc h hn hst
noncomputable def Zaf (K:Oo)(ta:TE):TT:=fun σ H Q=>ta σ H fun x H'=>∃ k,G4 K x H' k/\Q k H'
theorem Ex {a:Expr}{ta:TE}(ha:QE X a ta)(he:∀ whole,isTrue a X.env whole=(do let v <- whole;standAt a.pos;holding [v] (truthy v)))(hK:X.K=K:=by rfl):QT X a (Zaf K ta):=by subst hK;exact ⟨Zet ha.run he⟩
theorem Dr {o e:Expr}{es:List Expr}{to:TE}{t:TA}{name:Str}{apos cpos:Pos}{T id:String}{r:V->List V->Hp->VK->Prop}(pa:PlainAttrs T)(slot:Slot T name id)(hty:typeOf (.builtin id)=pure (.type "method_descriptor"))(hm:Fm X id r)(ho:QE X o to)(ha:QA X (e::es) t)(hK:X.K=K:=by rfl)
  (hbase:attributeBase o name X.env (eval o X.env)=eval o X.env:=by rfl) (hfew:((backTo cpos (starEach (e::es) X.env)).all (fun x=>!x.1) && (backToKw cpos (keywordEach [] X.env)).all (fun x=>x.1.isSome)
   && decide ((e::es).length+([]:List Keyword).length+(if ([]:List Keyword).isEmpty then 0 else 1) < 30))=true:=by rfl) (hline:(apos.endLine == cpos.line)=true:=by rfl) (hs:starEach (e::es) X.env=(false,eval e X.env)::starEach es X.env:=by rfl) (hplain:(backTo cpos (starEach es X.env)).any (·.1)=false:=by rfl):QE X (.Call (.Attribute o name apos) (e::es) [] cpos) (tBM K T r to t):=by subst hK;exact Zfx pa slot hty hm ho ha hbase hfew hline hs hplain
theorem G7 {o:Expr}{to:TE}{name:Str}{apos cpos:Pos}{T id:String}{r:V->List V->Hp->VK->Prop}(pa:PlainAttrs T)(slot:Slot T name id)(hty:typeOf (.builtin id)=pure (.type "method_descriptor"))(hm:Fm X id r)(ho:QE X o to)(hK:X.K=K:=by rfl)(hbase:attributeBase o name X.env (eval o X.env)=eval o X.env:=by rfl)(hline:(apos.endLine == cpos.line)=true:=by rfl):QE X (.Call (.Attribute o name apos) [] [] cpos) (Hi K T r to):=by subst hK;exact Zgd pa slot hty hm ho hbase hline
end
section
variable {K:Oo}{σ:St}{H:Hp}{Q:VK}{QB:Bool->Hp->Prop}{ta:TE}
theorem s_truth (h:ta σ H fun x H'=>∃ k,G4 K x H' k/\QB k H'):Zaf K ta σ H QB:=h
theorem F6 {a:Addr}{xs:List V}{P:Bool->Prop}(q:SqL K H a xs)(h:P (!xs.isEmpty)):∃ k,G4 K (.ref a) H k/\P k:=⟨_,.inl ⟨xs,q,rfl⟩,h⟩
theorem Ci {T:String}{x:V}{t:Value}{b:Bool}(ty:Cf K H x t)(e:Rp K t (.type T)=some b)(h:Q (.bl b) H):Fw K T [x,.ty T] H Q:=⟨x,t,b,rfl,.ty ty,e,h⟩
theorem G1 {T:String}{a:Addr}{xs:List V}{b:Bool}(q:SqT K H a xs)(e:Rp K (.type "tuple") (.type T)=some b)(h:Q (.bl b) H):Fw K T [.ref a,.ty T] H Q:=⟨_,_,b,rfl,.tup q,e,h⟩
theorem Gr {T:String}{a:Addr}{xs:List V}{b:Bool}(q:SqL K H a xs)(e:Rp K (.type "list") (.type T)=some b)(h:Q (.bl b) H):Fw K T [.ref a,.ty T] H Q:=⟨_,_,b,rfl,.lst q,e,h⟩
theorem Od {p:Addr}{ys:List V}(q:SqL K H p ys)(h:∀ l,H l=none->Q (.ref l) (upd H l (.tup ys))):My K [.ref p] H Q:=⟨p,ys,rfl,.inl ⟨q,h⟩⟩
theorem B7 {a:Addr}{xs:List V}{P:Prop}(q:SqL K H a xs)(h:P):Fa K "list" (.ref a) H/\P:=⟨.inl ⟨rfl,_,q⟩,h⟩
end
theorem s_nt {A B:Prop}(h:B):if (!true)=true then A else B:=by simpa using h
theorem s_nf {A B:Prop}(h:A):if (!false)=true then A else B:=by simpa using h
end L2
namespace L2
open PySem
inductive Tr where
 | mk (wd:Str) (note:Dt) (ps:List Tr)
noncomputable def Tr.wd:Tr->Str
 | .mk w _ _=>w
noncomputable def Tr.ps:Tr->List Tr
 | .mk _ _ ps=>ps
mutual
noncomputable def Tr.size:Tr->Nat
 | .mk _ _ ps=>1+Bo ps
noncomputable def Bo:List Tr->Nat
 | []=>0
 | t::r=>t.size+Bo r
end
theorem Tr.size_eq (t:Tr):t.size=1+Bo t.ps:=by
 cases t with
 | mk w n ps=>rw [Tr.size];rfl
theorem Zeu (a b:List Tr):Bo (a++b)=Bo a+Bo b:=by
 induction a with
 | nil=>simp [Bo]
 | cons t r ih=>rw [T2,Bo,Bo,ih];omega
noncomputable def SameT (H H':Hp):Prop:=∀ b,(∀ xs,H b=some (.tup xs)->H' b=some (.tup xs))/\∀ o u,H b=some (.frz o u)->H' b=some (.frz o u)
theorem Same.t {H H':Hp}(e:Same H H'):SameT H H':=fun b=>⟨fun xs h=>e b _ h,fun o u h=>e b _ h⟩
theorem SameT.refl (H:Hp):SameT H H:=fun _=>⟨fun _ h=>h,fun _ _ h=>h⟩
theorem SameT.trans {H H1 H2:Hp}(a:SameT H H1)(b:SameT H1 H2):SameT H H2:=fun c=>⟨fun xs h=>(b c).1 xs ((a c).1 xs h),fun o u h=>(b c).2 o u ((a c).2 o u h)⟩
theorem SameT.set {H:Hp}{S:Addr}{zs:List V}{o:HO}(h:H S=some (.lst zs)):SameT H (upd H S o):=fun b =>
 ⟨fun xs e=>by rw [Af (Dl e h (by intro z;cases z))];exact e,fun o' u e=>by rw [Af (Dl e h (by intro z;cases z))];exact e⟩
theorem SameT.new {H:Hp}{S:Addr}{o:HO}(h:H S=none):SameT H (upd H S o):=(Same.upd h).t
theorem SameT.tup {K:Oo}{H H':Hp}{a:Addr}{xs:List V}(e:SameT H H')(h:SqT K H a xs):SqT K H' a xs:=by
 rcases h with (h | ⟨o,h⟩) | h
 ·exact .inl (.inl ((e a).1 _ h))
 ·exact .inl (.inr ⟨o,(e a).2 _ _ h⟩)
 ·exact .inr h
noncomputable def IsN (K:Oo)(H:Hp)(v:V)(n:Dt):Prop:=(B6 v=true/\n=.flat v)\/∃(a:Addr)(vs:List V),v=.ref a/\SqT K H a vs/\vs.all B6=true/\n=.tup (vs.map .flat)
theorem IsN.same {K:Oo}{H H':Hp}{v:V}{n:Dt}(h:IsN K H v n)(e:SameT H H'):IsN K H' v n:=by
 rcases h with h | ⟨a,vs,h1,h2,h3⟩
 ·exact .inl h
 ·exact .inr ⟨a,vs,h1,e.tup h2,h3⟩
inductive TrAt (K:Oo)(H:Hp):V->Tr->Prop where
 | mk {a p:Addr} {wd:Str} {nv:V} {n:Dt} {vs:List V} {ts:List Tr} (q:SqT K H a [.str wd,nv,.ref p]) (hn:IsN K H nv n) (qp:SqT K H p vs) (l:vs.length=ts.length)
   (h:∀(j:Nat)(v:V)(t:Tr),vs[j]?=some v->ts[j]?=some t->TrAt K H v t):TrAt K H (.ref a) (.mk wd n ts)
theorem TrAt.sameT {K:Oo}{H H':Hp}{v:V}{t:Tr}(h:TrAt K H v t)(e:SameT H H'):TrAt K H' v t:=by
 induction h with
 | mk q hn qp l _ ih=>exact .mk (e.tup q) (hn.same e) (e.tup qp) l ih
theorem TrAt.same {K:Oo}{H H':Hp}{v:V}{t:Tr}(h:TrAt K H v t)(e:Same H H'):TrAt K H' v t:=h.sameT e.t
noncomputable def Al {α:Type}(R:V->α->Prop)(vs:List V)(xs:List α):Prop:=vs.length=xs.length/\∀(j:Nat)(v:V)(x:α),vs[j]?=some v->xs[j]?=some x->R v x
section
variable {α:Type}{R R':V->α->Prop}{vs:List V}{xs:List α}{v:V}{x:α}
theorem Al.mono (h:Al R vs xs)(f:∀ v x,R v x->R' v x):Al R' vs xs:=⟨h.1,fun j v x a b=>f v x (h.2 j v x a b)⟩
theorem Al.nil:Al R [] []:=⟨rfl,fun j v x a _=>by simp at a⟩
theorem Al.snoc (h:Al R vs xs)(a:R v x):Al R (vs++[v]) (xs++[x]):=by
 refine ⟨by simp [h.1],fun j y z e1 e2=>?_⟩
 by_cases hj:j < vs.length
 ·rw [Qf hj] at e1
  rw [Qf (by have:=h.1;omega)] at e2
  exact h.2 j y z e1 e2
 ·have hl:=(O7.mp e1).1
  rw [O3,Pq] at hl
  have hj':j=vs.length:=by omega
  subst hj'
  rw [Qp (Oq _),Q5] at e1
  rw [h.1,Qp (Oq _),Q5] at e2
  have e1:v=y:=by simpa using e1
  have e2:x=z:=by simpa using e2
  rw [<- e1,<- e2]
  exact a
theorem Al.split (h:Al R (vs++[v]) xs):∃ ys x,xs=ys++[x]/\Al R vs ys/\R v x:=by
 have hl:xs.length=vs.length+1:=by have:=h.1;simp at this;omega
 have hne:xs≠[]:=fun z=>by rw [z] at hl;simp at hl
 refine ⟨xs.dropLast,xs.getLast hne,(Uf hne).symm,⟨by simp [hl],fun j y z e1 e2=>?_⟩,?_⟩
 ·have hj:=(O7.mp e1).1
  refine h.2 j y z (by rw [Qf hj];exact e1) ?_
  rw [List.getElem?_dropLast] at e2
  split at e2
  ·exact e2
  ·cases e2
 ·refine h.2 vs.length v _ (by simp) ?_
  rw [List.getLast_eq_getElem,Os (by omega)]
  congr 1
  simp [hl]
theorem Al.last (h:Al R vs xs)(hn:vs≠[]):∃ vs' v xs' x,vs=vs'++[v]/\xs=xs'++[x]/\Al R vs' xs'/\R v x:=by
 have e:=(Uf hn).symm
 rw [e] at h
 obtain ⟨ys,x,e2,a,r⟩:=h.split
 exact ⟨_,_,ys,x,e,e2,a,r⟩
theorem Al.get {j:Nat}(h:Al R vs xs)(e:vs[j]?=some v):∃ x,xs[j]?=some x/\R v x:=by
 have hj:=(O7.mp e).1
 have hx:j < xs.length:=by have:=h.1;omega
 exact ⟨xs[j],Os hx,h.2 j v _ e (Os hx)⟩
theorem Al.get' {j:Nat}(h:Al R vs xs)(e:xs[j]?=some x):∃ v,vs[j]?=some v/\R v x:=by
 have hj:=(O7.mp e).1
 have hv:j < vs.length:=by have:=h.1;omega
 exact ⟨vs[j],Os hv,h.2 j _ x (Os hv) e⟩
end
mutual
noncomputable def walk:List Nat->Tr->List (List Nat×Tr)
 | pl,.mk w n ps=>(pl,.mk w n ps)::Bj pl 0 ps
noncomputable def Bj:List Nat->Nat->List Tr->List (List Nat×Tr)
 | _,_,[]=>[]
 | pl,i,t::r=>walk (pl++[i]) t++Bj pl (i+1) r
end
theorem Zcf (pl:List Nat)(t:Tr):walk pl t=(pl,t)::Bj pl 0 t.ps:=by
 cases t with
 | mk w n ps=>rw [walk];rfl
mutual
theorem El:∀(pl:List Nat)(t:Tr),(walk pl t).length=t.size
 | pl,.mk w n ps=>by rw [walk,Tr.size,O8,Zap pl 0 ps];omega
theorem Zap:∀(pl:List Nat)(i:Nat)(ts:List Tr),(Bj pl i ts).length=Bo ts
 | _,_,[]=>by rw [Bj,Bo];rfl
 | pl,i,t::r=>by rw [Bj,Bo,O3,El,Zap]
end
mutual
theorem F0:∀(pl:List Nat)(t:Tr)(x:List Nat×Tr),x∈walk pl t->x.1.length+1<=pl.length+t.size
 | pl,.mk w n ps,x,h=>by
  rw [walk] at h
  rw [Tr.size]
  rcases Oy.mp h with h | h
  ·subst h;show pl.length+1<=_;omega
  ·have:=Mo pl 0 ps x h;omega
theorem Mo:∀(pl:List Nat)(i:Nat)(ts:List Tr)(x:List Nat×Tr),x∈Bj pl i ts->x.1.length<=pl.length+Bo ts
 | _,_,[],x,h=>by rw [Bj] at h;cases h
 | pl,i,t::r,x,h=>by
  rw [Bj] at h
  rw [Bo]
  rcases Pr.mp h with h | h
  ·have:=F0 (pl++[i]) t x h
   rw [O3,Pq] at this
   omega
  ·have:=Mo pl (i+1) r x h;omega
end
noncomputable def A8 (pl:List Nat):List V:=pl.map fun i=>V.int ((i:Nat):Int)
noncomputable def Bl:List Nat->Nat->List Tr->List (List Nat×Tr)
 | _,_,[]=>[]
 | pl,i,t::r=>(pl++[i],t)::Bl pl (i+1) r
theorem Mg (pl:List Nat):∀(i:Nat)(ts:List Tr),(Bl pl i ts).length=ts.length
 | _,[]=>rfl
 | i,t::r=>by rw [Bl,O8,O8,Mg pl (i+1) r]
theorem Nm (pl:List Nat):∀(i j:Nat)(ts:List Tr),(Bl pl i ts)[j]?=(ts[j]?).map fun t=>(pl++[i+j],t)
 | _,_,[]=>by simp [Bl]
 | i,0,t::r=>by simp [Bl]
 | i,j+1,t::r=>by
  rw [Bl,Sc,Sc,Nm pl (i+1) j r]
  congr 1
  funext t
  rw [show i+1+j=i+(j+1) by omega]
theorem Zbe (pl:List Nat):∀(i:Nat)(ts:List Tr),(Bl pl i ts).flatMap (fun x=>walk x.1 x.2)=Bj pl i ts
 | _,[]=>by simp [Bl,Bj]
 | i,t::r=>by rw [Bl,Sl,Bj,Zbe pl (i+1) r]
noncomputable def Eh (st:List (List Nat×Tr)):List (List Nat×Tr):=st.reverse.flatMap fun x=>walk x.1 x.2
theorem Zj6:Eh []=[]:=rfl
theorem K3 (st:List (List Nat×Tr))(x:List Nat×Tr):Eh (st++[x])=x::Eh (st++(Bl x.1 0 x.2.ps).reverse):=by
 unfold Eh
 rw [Rg,Rg,List.reverse_reverse,Qv,Qv,Zbe]
 rw [List.reverse_singleton,List.flatMap_singleton,Zcf]
 rfl
noncomputable def C5 (st:List (List Nat×Tr)):Nat:=(Eh st).length
theorem Zj3 (st:List (List Nat×Tr))(x:List Nat×Tr):C5 (st++(Bl x.1 0 x.2.ps).reverse) < C5 (st++[x]):=by
 unfold C5
 rw [K3]
 exact Nat.lt_succ_self _
theorem Zdb (st:List (List Nat×Tr)):st.length<=C5 st:=by
 unfold C5 Eh
 have:∀ l:List (List Nat×Tr),l.length<=(l.flatMap fun x=>walk x.1 x.2).length:=fun l=>by
  induction l with
  | nil=>simp
  | cons x r ih =>
   rw [Sl,O3,El,O8]
   have:=x.2.size_eq
   omega
 have:=this st.reverse
 rw [To] at this
 exact this
theorem Zal {α:Type}{l:List α}{n i:Nat}{x:α}(hl:l.length=n)(hi:i < n)(hx:l[n - 1 - i]?=some x):(l.drop (n - (i+1))).reverse=(l.drop (n - i)).reverse++[x]:=by
 have hk:n - 1 - i < l.length:=by omega
 have e:l.drop (n - (i+1))=x::l.drop (n - i):=by
  have h1:n - (i+1)=n - 1 - i:=by omega
  rw [h1,P5 hk,show n - 1 - i+1=n - i by omega]
  rw [Os hk] at hx
  rw [O4 hx]
 rw [e,List.reverse_cons]
end L2
namespace L2
open PySem PySem.Spec PyProof.Rows
section
open PySem.AutoSeq1
theorem Zch (l:Addr)(items:Array Value)(n:Nat)(b:Addr)(items2:Array Value)(n2:Nat)(od:Option Addr)(sl:Array (Option Value))(hs0:¬(!items.isEmpty && Ra (items.size+items2.size))=true)(hs1:items.size<=sizeLine)(hs2:items.size+items2.size<=sizeLine+1) :
  Meets (Builtin.«list.extend» ⟨[.ref l,.ref b],[]⟩) (fun _ R s=>s.heap.get? l=some { cls:=.type "list",dict:=none,data:=.seq items n,slots:=#[] }/\s.heap.get? b=some { cls:=.type "tuple",dict:=od,data:=.seq items2 n2,slots:=sl }/\R (.ok (.ret Value.none)) { s with heap:=s.heap.update l (Pb fun x=>x++items2),toks:=s.toks }) :=
 .of_wp fun prog w A R s h=>by
  obtain ⟨hp,g,d,tk,os⟩:=s;obtain ⟨hl,hb,h⟩:=h;have f1:=AutoSeq1.idx_int;have f2:=AutoSeq1.sub_tuple_tuple;have f3:=AutoSeq1.sub_list_list;have f4:=AutoSeq1.sub_tuple_list;have f5:=AutoSeq1.sub_list_tuple;
  have hz':(items++items2).size<=sizeLine+1:=by rw [Array.size_append];exact hs2
  wp_walk using (Qk hl rfl (hz:=hs1) (_hz':=hz')),AutoSeq1.wpAny_loadPart' hl,AutoSeq1.wpAny_loadPart' hb;exact ⟨_,rfl,h⟩
end
noncomputable def Zae (K:Oo):V->List V->Hp->VK->Prop:=fun x vs H Q=>∃ l b xs zs,x=.ref l/\vs=[.ref b]/\H l=some (.lst xs)/\SqT K H b zs/\xs.length+zs.length<=sizeLine/\Q .non (upd H l (.lst (xs++zs)))
section
variable {X:Cx}
theorem Zho:MtM X "list.extend" (Zae X.K):=by
 intro pins s σ H x vs v us Q I rx rv h
 obtain ⟨l,b,xs,zs,rfl,rfl,hH,hB,hz,q⟩:=h
 cases rx
 obtain ⟨u,rfl,ru⟩:=rv.one
 cases ru
 obtain ⟨z,its,n,r,hl,e⟩:=I.lstM hH
 obtain ⟨its2,r2,⟨o2,e2,hc2,n2,hd2⟩,hz2⟩:=I.tuple hB
 obtain ⟨oc,od,odata,sl⟩:=o2
 simp only at hc2 hd2
 subst hc2 hd2
 have hl2:=r2.length
 have hsz:its.toArray.size+its2.toArray.size<=sizeLine:=by rw [Ou,Ou];omega
 have hlong:¬ (!its.toArray.isEmpty && Ra (its.toArray.size+its2.toArray.size))=true:=by
  rw [M1 hsz,Bool.and_false]
  exact Oz
 refine Rv F.slot_list_extend ⟨_,e,rfl⟩ F.entry_list_extend (F.args_list_extend_2 _ _)
  (Zch l its.toArray n b its2.toArray n2 od sl hlong (by rw [Ou];omega) (by omega)) ⟨e,e2,?_⟩
 refine ⟨.non,_,I.lset (its':=its++its2) hH e (by simp) (r.append r2) ?_,rfl,q⟩
 rw [O3]
 omega
end
section
variable {X:Cx}(P:Program)(w:World)(K:Oo)
theorem Zb8 (hK:X.K=K:=by rfl):MtM X "list.extend" (Zae K):=by subst hK;exact Zho
end
theorem Zhv:typeLookup (.type "list_reverseiterator") "__len__" = pure none:=by rw [Ss,Sg];kernel_rfl
theorem Zfm:typeLookup (.type "list_reverseiterator") "__length_hint__" = pure (some (.builtin "list_reverseiterator.__length_hint__")):=by rw [Ss,Sg];kernel_rfl
theorem Zca {prog:Program}{w:World}{A:Around}{E:Value->Shared->Prop}{s:Shared}{it:Addr}{Q:Bool->Shared->Prop}(hT:s.TypeIs (.ref it) "list_reverseiterator")(h:Q false s):wpAny (model prog w) A (Tc (.ref it)) Q E s:=by
 unfold Tc
 refine Op (Ro hT Zhv ?_)
 show wpAny _ _ (specialOf (Value.ref it) (Qe "__length_hint__") >>= _) _ _ _
 refine Op (Ro hT Zfm ?_)
 (generalize hid:("list_reverseiterator.__length_hint__" : String)=id0;(fail_if_success (clear hid id0));wp_delta;rw [show splitId id0=some ("list_reverseiterator", "__length_hint__") from by subst hid;decide +kernel];subst hid)
 refine Op (T0 (b:=true) hT (by rw [isSubtype_type];kernel_rfl) ?_)
 exact Ot h
structure Iu (X:Cx)(pins:List (Addr×Obj))(σ:St)(it:Addr)(n:Nat)(H0:Hp)(J:Nat->List V->Hp->Heap->Prop):Prop where
 ty:∀ i ys H h,J i ys H h->∃ o,h.get? it=some o/\o.cls=.type "list_reverseiterator"
 self:∀(A:Around)(s:Shared)(ys:List V)(H:Hp)(Q:Value->Shared->Prop)(E:Value->Shared->Prop),J 0 ys H s.heap->Q (.ref it) s->wpAny (model X.prog X.w) A (pyIter (.ref it)) Q E s
 keep:∀ i ys H h h' S zs zs',H0 S=none->H S=some (.lst zs)->J i ys H h->(∀ b o,b≠S->h.get? b=some o->h'.get? b=some o)->(∃ o,h'.get? S=some o)->J i ys (upd H S (.lst zs')) h'
 fresh:∀ i ys H h,J i ys H h->H it=none
 item:∀(A:Around)(i:Nat)(s:Shared)(H:Hp)(ys:List V)(E:Value->Shared->Prop),A.handled=none->i < n->Inv X pins σ H s->J i ys H s.heap ->
  wpAny (model X.prog X.w) A (pyNext (.ref it)) (fun r s'=>∃ u x H',r=some u/\RelV x u/\Inv X pins σ H' s'/\J (i+1) (ys++[x]) H' s'.heap/\∀ S zs,H S=some (.lst zs)->H' S=some (.lst zs)) E s
 done:∀(A:Around)(s:Shared)(H:Hp)(ys:List V)(E:Value->Shared->Prop),A.handled=none->Inv X pins σ H s->J n ys H s.heap ->
  wpAny (model X.prog X.w) A (pyNext (.ref it)) (fun r s'=>r=none/\Inv X pins σ H s') E s
section
variable {X:Cx}{pins:List (Addr×Obj)}{σ:St}{it:Addr}{n:Nat}{H0:Hp}{J:Nat->List V->Hp->Heap->Prop}
theorem Zgj (C:Iu X pins σ it n H0 J)(hn:n<=sizeLine){A:Around}(hh:A.handled=none){R:Result->Shared->Prop}(S:Addr)(hS0:H0 S=none)(res:Value)
  (fin:∀ s' H' ys',Inv X pins σ H' s'->H' S=some (.lst ys')->ys'.length=n->(∃ h,J n ys' H' h)->R (.ok (.ret res)) s') :
  ∀(k i:Nat)(s:Shared)(H:Hp)(ys:List V),n - i=k->i<=n->Inv X pins σ H s->J i ys H s.heap->H S=some (.lst ys)->ys.length=i ->
  codeAny (model X.prog X.w) A (.builtin "list.extend.loop" ⟨[.ref S,.ref it,res],[]⟩) R s:=by
 intro k
 induction k with
 | zero =>
  intro i s H ys hk hi I j hS hl
  have hin:i=n:=by omega
  subst hin
  refine Q0 R6 ?_
  rw [Qu P4 _]
  show wpAny _ A.in1 (pyNext (.ref it) >>= _) _ _ s
  refine Op (Ae (C.done A.in1 s H ys _ hh I j) fun r s' zq=>?_)
  obtain ⟨hr,I'⟩:=zq
  subst hr
  exact Ot (fin s' H ys I' hS hl ⟨_,j⟩)
 | succ k ih =>
  intro i s H ys hk hi I j hS hl
  have hlt:i < n:=by omega
  refine Q0 R6 ?_
  rw [Qu P4 _]
  show wpAny _ A.in1 (pyNext (.ref it) >>= _) _ _ s
  refine Op (Ae (C.item A.in1 i s H ys _ hh hlt I j) fun r s' zq=>?_)
  obtain ⟨u,x,H',hr,rx,I',j',kS⟩:=zq
  subst hr
  have hS':=kS S ys hS
  obtain ⟨z,its,m,rv,hl',e⟩:=I'.lstM hS'
  show wpAny _ A.in1 (updateSeq S (·.push u) >>= _) _ _ _
  refine Op ?_
  have hu:(its.toArray.push u)=(its++[u]).toArray:=by simp
  have I2:=I'.lset (f:=(·.push u)) (its':=its++[u]) (ys:=ys++[x]) (t':=s'.toks) hS' e hu (rv.append (.cons rx .nil)) (by rw [O3,Pq];omega)
  refine Qk e rfl (Ot ⟨Q4 P4 _,ih (i+1) _ _ (ys++[x]) (by omega) hlt I2 ?_ Ac (by simp [hl])⟩)
   (by rw [Ou];omega) (by show (its.toArray.push u).size<=sizeLine+1;rw [Array.size_push,Ou];omega)
  exact C.keep _ _ _ _ _ S ys (ys++[x]) hS0 hS' j' (fun b o hb eb=>(P8 _ _ (O9 hb)).trans eb) ⟨_,P9 _ e rfl⟩
theorem Zju {H:Hp}(C:Iu X pins σ it n H J)(hn:n<=sizeLine){A:Around}(hh:A.handled=none){s:Shared}{Q:VK}{E:Value->Shared->Prop}(I:Inv X pins σ H s)(j:J 0 [] H s.heap)
  (jn:∀ S,s.heap.objs.size<=S->H S=none->∀ h',(∀ b o,s.heap.get? b=some o->h'.get? b=some o)->J 0 [] (upd H S (.lst [])) h')
  (q:∀ S H' ys,H S=none->H' S=some (.lst ys)->ys.length=n->(∃ h,J n ys H' h)->Q (.ref S) H') :
  wpAny (model X.prog X.w) A (call (.type "list") [.ref it]) (EP X pins σ Q) E s:=by
 have hf:H s.heap.objs.size=none:=I.hok.fresh (Oq _)
 have hne:s.heap.objs.size≠it:=by
  obtain ⟨o,e,_⟩:=C.ty _ _ _ _ j
  exact Ql (Ow e)
 refine callType_codes (Q₁:=fun obj s₁=>obj=.ref s.heap.objs.size/\s₁={ s with heap:=s.heap.push { cls:=.type "list",data:=.seq #[] } }) PySem.F.called_list (PySem.F.typeCall_list_1 _) PySem.F.entry_list_init
  (code_list_new _ ⟨rfl,rfl⟩) fun obj s₁ h₁=>?_
 obtain ⟨rfl,rfl⟩:=h₁
 have hS:(s.heap.push { cls:=.type "list",data:=.seq #[] }).get? s.heap.objs.size=some { cls:=.type "list",data:=.seq #[] }:=O6 _ rfl
 have I1:Inv X pins σ (upd H s.heap.objs.size (.lst [])) { s with heap:=s.heap.push { cls:=.type "list",data:=.seq ([]:List Value).toArray } }:=I.lnew (ys:=[]) (its:=[]) (t':=s.toks) .nil (by simp)
 have j1:J 0 [] (upd H s.heap.objs.size (.lst [])) (s.heap.push { cls:=.type "list",data:=.seq ([]:List Value).toArray })   := jn _ (Oq _) hf _ fun b o e=>Ov _ e
 refine ⟨⟨_,hS,rfl⟩,PySem.F.args_list_init_2 _ _,?_⟩
 generalize hs1:({ s with heap:=s.heap.push { cls:=.type "list",data:=.seq ([]:List Value).toArray } }:Shared)=s1 at I1
 have hS1:s1.heap.get? s.heap.objs.size=some { cls:=.type "list",data:=.seq ([]:List Value).toArray }:=by rw [<- hs1];exact hS
 replace j1:J 0 [] (upd H s.heap.objs.size (.lst [])) s1.heap:=by rw [<- hs1];exact j1
 have hs1':({ s with heap:=s.heap.push { cls:=.type "list",data:=.seq #[] } }:Shared)=s1:=hs1
 first | rw [hs1'] | skip
 show wpAny _ A.in1.in1 (do let old <- Se (.ref s.heap.objs.size);Builtin.List.listUpdate (.ref s.heap.objs.size) (fun _=>#[]);letGo old.toList.reverse;Qo (.ref s.heap.objs.size) (.ref it) .none) _ _ s1
 generalize s.heap.objs.size=S at *
 refine Op ?_
 unfold Se
 refine Op (Q2 hS1 rfl (Ot ?_))
 show wpAny _ A.in1.in1 (updateSeq S (fun _=>#[]) >>= fun _=>letGo (#[]:Array Value).toList.reverse >>= fun _=>Qo (.ref S) (.ref it) .none) _ _ s1
 refine Op (Qk hS1 rfl ?_)
 have I2:=I1.lset (f:=fun _=>#[]) (its':=[]) (ys:=[]) (t':=s1.toks) Ac hS1 rfl .nil (by simp)
 have hS2:=P9 (Pb (fun _=>(#[]:Array Value))) hS1 rfl
 have j2:=C.keep _ _ _ _ (s1.heap.update S (Pb fun _=>#[])) S [] [] hf Ac j1 (fun b o hb eb=>(P8 _ _ (O9 hb)).trans eb) ⟨_,hS2⟩
 rw [Io] at I2 j2
 generalize hs2:({ s1 with heap:=s1.heap.update S (Pb fun _=>#[]),toks:=s1.toks }:Shared)=s2 at I2
 replace j2:J 0 [] (upd H S (.lst [])) s2.heap:=by rw [<- hs2];exact j2
 have hs2':({ s1 with heap:=s1.heap.update S (Pb fun _=>#[]) }:Shared)=s2:=hs2
 first | rw [hs2'] | skip
 refine Op (wpAny_letGo ?_)
 obtain ⟨oi,ei,ci⟩:=C.ty _ _ _ _ j2
 have hT:s2.TypeIs (.ref it) "list_reverseiterator" := ⟨oi,ei,ci⟩
 unfold Qo
 refine Op (wpAny_typeOf hT ?_)
 have h1:R9 (.ref S) (.ref it)=false:=by simp [R9,hne]
 rw [if_neg (by rw [h1];decide)]
 refine Op (C.self _ s2 _ _ _ _ j2 ?_)
 refine Op (Qc ?_)
 refine Zca hT ?_
 rw [if_neg (by decide)]
 refine Ot ⟨Q4 P4 _,Zgj C hn (A:=A.in1) hh S hf .none ?_ n 0 _ _ [] rfl (Pd _) I2 j2 Ac rfl⟩
 intro s' H' ys' I' hS' hl' hj'
 exact ⟨rfl,.ref S,H',I',rfl,q S H' ys' hf hS' hl' hj'⟩
end
noncomputable def JRev (H0:Hp)(it a:Addr)(xs:List V):Nat->List V->Hp->Heap->Prop:=fun i ys H h =>
 i<=xs.length/\h.IsRevIter it a ((xs.length:Int) - 1 - (i:Int))/\H it=none/\ys=xs.reverse.take i/\Same H0 H
theorem Zep {X:Cx}{pins:List (Addr×Obj)}{σ:St}{H0:Hp}{it a:Addr}{xs:List V}(fi:FpOk X pins H0 it)(hq:SqL X.K H0 a xs):Iu X pins σ it xs.length H0 (JRev H0 it a xs) where
 ty:=fun i ys H h j=>by
  obtain ⟨o,e,c,_⟩:=j.2.1
  exact ⟨o,e,c⟩
 self:=fun A s ys H Q E j q=>Tk j.2.1 q
 keep:=fun i ys H h h' S zs zs' h0 hS j k al=>by
  obtain ⟨j1,j2,j3,j4,j5⟩:=j
  have ne1:it≠S:=fun z=>by rw [z,hS] at j3;cases j3
  exact ⟨j1,j2.at fun o e=>k it o ne1 e,by rw [Af ne1];exact j3,j4,j5.over h0⟩
 fresh:=fun i ys H h j=>j.2.2.1
 item:=fun A i s H ys E hh hi I j=>by
  obtain ⟨j1,j2,j3,j4,j5⟩:=j
  have hqH:=j5.seq hq
  obtain ⟨its,rv,p,hz⟩:=I.list hqH
  have hx:xs[xs.length - 1 - i]?=some (xs[xs.length - 1 - i]'(by omega)):=Os (by omega)
  obtain ⟨u,hu,ru⟩:=rv.get hx
  obtain ⟨f0,f1,f2,f3,f4,f5⟩:=fi.of j3
  have e:(xs.length:Int) - 1 - (i:Int)=((xs.length - 1 - i:Nat):Int):=by omega
  have hit:=j2
  rw [e] at hit
  refine wpAny_pyNext_rev_item hit p.isList (x:=u) (by simpa using hu) fun h' st' sb=>?_
  have I1:Inv X pins σ H { s with heap:=h' }:=I.turned (t':=s.toks) (fun b o hb e=>(sb.2 b hb).trans e) f0 f1 f3 f4 f5
  have e2:((xs.length - 1 - i:Nat):Int) - 1=(xs.length:Int) - 1 - ((i+1:Nat):Int):=by omega
  rw [e2] at st'
  refine ⟨u,_,H,rfl,ru,I1,⟨hi,st',j3,?_,j5⟩,fun S zs e=>e⟩
  rw [j4,List.take_add_one]
  congr 1
  rw [List.getElem?_reverse (by simpa using hi),hx]
  rfl
 done:=fun A s H ys E hh I j=>by
  obtain ⟨j1,j2,j3,j4,j5⟩:=j
  obtain ⟨f0,f1,f2,f3,f4,f5⟩:=fi.of j3
  have e:(xs.length:Int) - 1 - (xs.length:Int)=-1:=by omega
  have hit:=j2
  rw [e] at hit
  exact wpAny_pyNext_rev_end hh hit fun h' eb=>⟨rfl,I.turned (t':=s.toks) (fun b o hb e=>eb b o hb e) f0 f1 f3 f4 f5⟩
section
variable {X:Cx}
noncomputable def Ki (K:Oo)(ta:TA):TE:=fun σ H Q=>ta σ H fun vs H1=>∃ a xs,vs=[.ref a]/\SqL K H1 a xs /\
 ∀(S:Addr)(H2:Hp),H1 S=none->Same H1 H2->H2 S=some (.lst xs.reverse)->Q (.ref S) H2
theorem Zgp {e:Expr}{ta:TA}{p p2 pos pos2:Pos}(hg:Gl X "list")(hm:X.mg "list" = none)(hg2:Gl X "reversed")(hm2:X.mg "reversed" = none)(ha:QA X [e] ta)(hc:X.calm=true:=by rfl)
  (hs:starEach [.Call (.Name "reversed" p2) [e] [] pos2] X.env=[(false,eval (.Call (.Name "reversed" p2) [e] [] pos2) X.env)]:=by rfl) (hs2:starEach [e] X.env=[(false,eval e X.env)]:=by rfl) :
  QE X (.Call (.Name "list" p) [.Call (.Name "reversed" p2) [e] [] pos2] [] pos) (Ki X.K ta):=by
 refine ⟨fun pins s σ H Q I h=>?_⟩
 refine Call_ (C4 I hg hm Mr (Pw ?_ hs rfl))
 rw [hs]
 show wpAny _ _ (spliced ((false,eval (.Call (.Name "reversed" p2) [e] [] pos2) X.env)::[])) _ _ s
 refine Rh ?_
 refine Call_ (C4 I hg2 hm2 Nd (Pw (Ae (ha.run pos2 pins s σ H _ I h) fun us s1 zq=>?_) hs2 rfl))
 obtain ⟨vs,H1,I1,r1,q1⟩:=zq
 obtain ⟨a,xs,e1,hq,q⟩:=q1
 subst e1
 cases r1 with
 | cons r rr =>
  cases rr
  cases r
  obtain ⟨its,rv,pl,hz⟩:=I1.list hq
  have hl:=rv.length
  refine call_reversed_list pl.isList ?_
  refine Si ?_
  have st0:(s1.heap.push (S7 a (((its.toArray).size:Int) - 1))).IsRevIter s1.heap.objs.size a ((xs.length:Int) - 1 - ((0:Nat):Int)):=by
   refine ⟨_,O6 _ rfl,rfl,?_⟩
   have e:((its.toArray).size:Int) - 1=(xs.length:Int) - 1 - ((0:Nat):Int):=by simp [hl]
   rw [<- e]
   rfl
  have I2:Inv X pins σ H1 { s1 with heap:=s1.heap.push (S7 a (((its.toArray).size:Int) - 1)) }:=I1.kept (t':=s1.toks) fun b o e=>Ov _ e
  have fi:=I1.fpOk (b:=s1.heap.objs.size) (Oq _) (I1.hok.fresh (Oq _))
  have C:=Zep (X:=X) (pins:=pins) (σ:=σ) (H0:=H1) (it:=s1.heap.objs.size) (a:=a) (xs:=xs) fi hq
  refine Zju C (by omega) (I1.ok.hd hc) I2 ⟨Pd _,st0,fi.1,rfl,Same.refl _⟩ (fun S hge hS h2 k2=>?_) fun S H' ys hS hS' hl' hj=>?_
  ·refine ⟨Pd _,st0.at fun o e=>k2 _ _ e,?_,rfl,Same.upd hS⟩
   rw [Af (show s1.heap.objs.size≠S from fun z=>?_)]
   ·exact fi.1
   ·have hge:(s1.heap.push (S7 a (((its.toArray).size:Int) - 1))).objs.size<=S:=hge
    rw [Po] at hge
    omega
  ·obtain ⟨h,j⟩:=hj
   obtain ⟨_,_,_,j4,j5⟩:=j
   rw [Tg (by simp)] at j4
   subst j4
   exact q S H' hS j5 hS'
theorem Zfg (K:Oo){e:Expr}{ta:TA}{p p2 pos pos2:Pos}(hg:Gl X "list")(hm:X.mg "list" = none)(hg2:Gl X "reversed")(hm2:X.mg "reversed" = none)(ha:QA X [e] ta)(hK:X.K=K:=by rfl)(hc:X.calm=true:=by rfl)
  (hs:starEach [.Call (.Name "reversed" p2) [e] [] pos2] X.env=[(false,eval (.Call (.Name "reversed" p2) [e] [] pos2) X.env)]:=by rfl) (hs2:starEach [e] X.env=[(false,eval e X.env)]:=by rfl) :
  QE X (.Call (.Name "list" p) [.Call (.Name "reversed" p2) [e] [] pos2] [] pos) (Ki K ta):=by subst hK;exact Zgp hg hm hg2 hm2 ha hc hs hs2
theorem s_listrev {K:Oo}{ta:TA}{σ:St}{H:Hp}{Q:VK}(h:ta σ H fun vs H1=>∃ a xs,vs=[.ref a]/\SqL K H1 a xs/\∀(S:Addr)(H2:Hp),H1 S=none->Same H1 H2->H2 S=some (.lst xs.reverse)->Q (.ref S) H2):Ki K ta σ H Q:=h
theorem Li:∀{ns:List Int}{us:List Value},Vals (ns.map V.int) us->∃ xs:List (Int×Tok),us=xs.map (fun p=>Value.int p.1 p.2)/\xs.map (·.1)=ns
 | [],_,.nil=>⟨[],rfl,rfl⟩
 | n::ns,_,.cons r t=>by
  obtain ⟨u,rfl⟩:=r
  obtain ⟨xs,e1,e2⟩:=Li t
  exact ⟨(n,u)::xs,by rw [e1];rfl,by simp [e2]⟩
end
structure ZA (z TI TO i1 i2:Addr)(fp1 fp2:List Addr):Prop where
 TIz:TI≠z
 TOz:TO≠z
 TITO:TI≠TO
 z1:z ∉ fp1
 z2:z ∉ fp2
 TI1:TI≠i1
 TI2:TI≠i2
 TO1:TO ∉ fp1
 TO2:TO ∉ fp2
 m1:i1∈fp1
 m2:i2∈fp2
 n1:i1 ∉ fp2
 n2:i2 ∉ fp1
theorem ZA.i1z {z TI TO i1 i2:Addr}{fp1 fp2:List Addr}(D:ZA z TI TO i1 i2 fp1 fp2):i1≠z:=fun e=>D.z1 (e ▸ D.m1)
theorem ZA.i2z {z TI TO i1 i2:Addr}{fp1 fp2:List Addr}(D:ZA z TI TO i1 i2 fp1 fp2):i2≠z:=fun e=>D.z2 (e ▸ D.m2)
theorem ZA.TOi1 {z TI TO i1 i2:Addr}{fp1 fp2:List Addr}(D:ZA z TI TO i1 i2 fp1 fp2):TO≠i1:=fun e=>D.TO1 (e ▸ D.m1)
theorem Gc {prog:Program}{w:World}{A:Around}{it c:Addr}{fp:List Addr}{n i:Nat}{P:Nat->Value->Prop}{St:Nat->Heap->Prop}(D:Draws prog w A it fp n P St){h h':Heap}(st:St i h)(e:Pc c h h')(hc:c ∉ fp):St i h' :=
 D.frame i h h' st fun b hb o eo=>e.extBut b o (fun z=>hc (z ▸ hb)) eo
section
variable {prog:Program}{w:World}{A:Around}{E:Value->Shared->Prop}{s:Shared}{z TI TO i1 i2:Addr}{fp1 fp2:List Addr}{n1 n2 i:Nat}{P1 P2:Nat->Value->Prop}{St1 St2:Nat->Heap->Prop}{a b:Value}
theorem Zgq {Q:Fin->Shared->Prop}(D1:Draws prog w A i1 fp1 n1 P1 St1)(D2:Draws prog w A i2 fp2 n2 P2 St2)(D:ZA z TI TO i1 i2 fp1 fp2)(hz:IsZip s.heap z TI TO .none)(hTI:IsPair s.heap TI (.ref i1) (.ref i2))(hTO:IsPair s.heap TO a b)
  (st1:St1 i s.heap) (st2:St2 i s.heap) (hend:i=n1\/(i < n1/\i=n2))
  (hE:∀ h' e tk,(∀ c o,c≠z->c≠TO->c≠i1->c≠i2->s.heap.get? c=some o->h'.get? c=some o)->(∃ o,h'.get? e=some o/\o.cls=.type "StopIteration")->E (.ref e) { s with heap:=h',toks:=tk }) :
  wpAny (model prog w) A (Builtin.«zip.__next__» ⟨[.ref z],[]⟩) Q E s:=by
 show wpAny _ _ (field (.ref z) 2 >>= _) _ _ s
 refine Op (Pf hz rfl (x:=Value.bool false) rfl ?_)
 show wpAny _ _ (field (.ref z) 3 >>= _) _ _ s
 refine Op (Pf hz rfl (x:=Value.ref TI) rfl (Op (Q2 hTI rfl ?_)))
 show wpAny _ _ (Ry (.ref z) >>= _) _ _ s
 refine Op ?_
 unfold Ry
 refine Op (Pf hz rfl (x:=Value.none) rfl (Ot ?_))
 simp only [if_true]
 refine Op (wpAny_rule (Op (Pf hz rfl (x:=Value.ref TO) rfl ?_)))
 refine Op (Qw hz (by simp) fun h₁ hz₁ e1=>?_)
 replace hz₁:IsZip h₁ z TI TO Value.ellipsis:=hz₁
 refine Op ?_
 simp only [List.zipIdx_cons,List.zipIdx_nil,Ua,List.forIn_nil]
 refine Op (Op (wpAny_onRaise ?_))
 show wpAny _ _ (Qq (.ref i1) >>= _) _ _ _
 rcases hend with rfl | ⟨l1,rfl⟩
 ·refine Op (D1.done _ _ _ (Gc D1 st1 e1 D.z1) fun h₂ e e2 he=>?_)
  obtain ⟨oe,hoe,hce⟩:=he
  replace e2:S9 i1 h₁ h₂:=e2
  have z2:IsZip h₂ z TI TO Value.ellipsis:=e2 _ _ D.i1z.symm hz₁
  have hez:e≠z:=fun x=>by subst x;rw [z2] at hoe;cases hoe;simp at hce
  refine Qw z2 (by simp) fun h₃ _ e3=>hE h₃ e s.toks (fun c o c1 _ c3 _ x=>e3.extBut _ _ c1 (e2 _ _ c3 (e1.extBut _ _ c1 x))) ⟨oe,e3.extBut _ _ hez hoe,hce⟩
 ·refine Op (D1.item i _ _ _ l1 (Gc D1 st1 e1 D.z1) fun x h₂ tk₂ px s12 e2=>Ot ?_)
  replace e2:Pc i1 h₁ h₂:=e2
  have p2:IsPair h₂ TO a b:=e2.extBut _ _ D.TOi1 (e1.extBut _ _ D.TOz hTO)
  refine Op (Q2 p2 rfl (Op (wpAny_updateSeq_pair p2 fun h₃ p3 e3=>?_)))
  replace e3:Pc TO h₂ h₃:=e3
  refine Op (wpAny_letGo (Ot (Op (Op (wpAny_onRaise ?_)))))
  show wpAny _ _ (Qq (.ref i2) >>= _) _ _ _
  have s22:St2 i h₃:=Gc D2 (Gc D2 (Gc D2 st2 e1 D.z2) e2 D.n1) e3 D.TO2
  refine Op (D2.done _ _ _ s22 fun h₄ e e4 he=>?_)
  obtain ⟨oe,hoe,hce⟩:=he
  replace e4:S9 i2 h₃ h₄:=e4
  have z4:IsZip h₄ z TI TO Value.ellipsis:=e4 _ _ D.i2z.symm (e3.extBut _ _ D.TOz.symm (e2.extBut _ _ D.i1z.symm hz₁))
  have hez:e≠z:=fun x=>by subst x;rw [z4] at hoe;cases hoe;simp at hce
  refine Qw z4 (by simp) fun h₅ _ e5=>hE h₅ e tk₂ (fun c o c1 c2 c3 c4 x=>e5.extBut _ _ c1 (e4 _ _ c4 (e3.extBut _ _ c2 (e2.extBut _ _ c3 (e1.extBut _ _ c1 x))))) ⟨oe,e5.extBut _ _ hez hoe,hce⟩
theorem Zdd {Q:Option Value->Shared->Prop}(D1:Draws prog w A.in1 i1 fp1 n1 P1 St1)(D2:Draws prog w A.in1 i2 fp2 n2 P2 St2)(D:ZA z TI TO i1 i2 fp1 fp2)(hz:IsZip s.heap z TI TO .none)(hTI:IsPair s.heap TI (.ref i1) (.ref i2))(hTO:IsPair s.heap TO a b)
  (st1:St1 i s.heap) (st2:St2 i s.heap) (hend:i=n1\/(i < n1/\i=n2))
  (hQ:∀ h' tk,(∀ c o,c≠z->c≠TO->c≠i1->c≠i2->s.heap.get? c=some o->h'.get? c=some o)->Q none { s with heap:=h',toks:=tk }):wpAny (model prog w) A (pyNext (.ref z)) Q E s:=by
 have hT:s.TypeIs (.ref z) "zip" := ⟨_,hz,rfl⟩
 unfold pyNext
 refine Op (wpAny_attempt (Qs (name:=Qe "__next__") hT PySem.F.slot_zip_next
  (Qy PySem.F.slot_zip_next hT PySem.F.entry_zip_next (Zgq D1 D2 D hz hTI hTO st1 st2 hend fun h' e tk hk he=>?_) (PySem.F.args_zip_next_1 _))))
 obtain ⟨o,ho,hc⟩:=he
 exact Op (T0 (T := "StopIteration") (b:=true) ⟨o,ho,hc⟩ isSubtype_stop (Ot (hQ _ _ hk)))
end
section
variable {prog:Program}{w:World}{A:Around}{E:Value->Shared->Prop}{s:Shared}
end
section
variable {X:Cx}{pins:List (Addr×Obj)}{σ:St}{H:Hp}{s:Shared}{h':Heap}
theorem Inv.turnedL {t':Nat}{fp:List Addr}(I:Inv X pins σ H s)(k:∀ b o,b ∉ fp->s.heap.get? b=some o->h'.get? b=some o)(f:∀ b∈fp,FpOk X pins H b):Inv X pins σ H { s with heap:=h',toks:=t' }:=by
 have nit:∀ b u,H b=some u->b ∉ fp:=fun b u e hb=>by rw [(f b hb).1] at e;exact nomatch e
 refine I.step (g':=s.gens) (d':=s.drawn) (ch:=fp) (fun b hb=>?_) (fun b o _ _ hc e _=>k b o hc e) (fun b o _ _ hc e _=>⟨o.slots,k b o hc e⟩) (fun _ _ _ _ n=>n)
  (fun b o hc e=>⟨o,k b o hc e⟩) (fun _ _ e=>e) (fun _ _ _ e=>e) (fun b ps e=>⟨#[],by rw [e];simp⟩) (fun m hm=>?_) (fun b u e=>?_) I.bare
 ·obtain ⟨n1,l1,_,e1,c1,p1⟩:=f b hb
  exact ⟨e1,l1,c1,p1⟩
 ·obtain ⟨o,es,ep,ho,r⟩:=hm
  exact ⟨o,es,ep,k _ o (fun hb=>(f _ hb).2.1 rfl) ho,r⟩
 ·refine (I.hok b u e).stay (fun c v hc q=>k c v ?_ q) (fun _ q=>q) fun _ _ q=>q
  rcases hc with z | z
  ·rw [z];exact nit b u e
  ·exact nit c _ z
end
structure ZB (z TI TO i1 i2 a b:Addr):Prop where
 TIz:TI≠z
 TOz:TO≠z
 TITO:TI≠TO
 i1z:i1≠z
 i2z:i2≠z
 TI1:TI≠i1
 TI2:TI≠i2
 TO1:TO≠i1
 TO2:TO≠i2
 i12:i1≠i2
 az:a≠z
 aTO:a≠TO
 a1:a≠i1
 a2:a≠i2
 bz:b≠z
 bTO:b≠TO
 b1:b≠i1
 b2:b≠i2
theorem ZB.za {z TI TO i1 i2 a b:Addr}(D:ZB z TI TO i1 i2 a b):ZA z TI TO i1 i2 [i1,a] [i2,b] where
 TIz:=D.TIz
 TOz:=D.TOz
 TITO:=D.TITO
 z1:=by simp [D.i1z.symm,D.az.symm]
 z2:=by simp [D.i2z.symm,D.bz.symm]
 TI1:=D.TI1
 TI2:=D.TI2
 TO1:=by simp [D.TO1,D.aTO.symm]
 TO2:=by simp [D.TO2,D.bTO.symm]
 m1:=by simp
 m2:=by simp
 n1:=by simp [D.i12,D.b1.symm]
 n2:=by simp [D.i12.symm,D.a2.symm]
theorem Zgy {n a b:Nat}(h1:a < n)(h2:b < n):ZB (n+4) (n+2) (n+3) n (n+1) a b:=by
 have f:∀ i j:Nat,i≠j->n+i≠n+j:=fun i j h e=>h (Nat.add_left_cancel e)
 have g:∀ i:Nat,a≠n+i:=fun i e=>absurd h1 (by rw [e];exact Nat.not_lt.mpr (Sn _ _))
 have g':∀ i:Nat,b≠n+i:=fun i e=>absurd h2 (by rw [e];exact Nat.not_lt.mpr (Sn _ _))
 exact ⟨f 2 4 (by decide),f 3 4 (by decide),f 2 3 (by decide),f 0 4 (by decide),f 1 4 (by decide),f 2 0 (by decide),f 2 1 (by decide),f 3 0 (by decide),f 3 1 (by decide),f 0 1 (by decide),g 4,g 3,g 0,g 1,g' 4,g' 3,g' 0,g' 1⟩
section
variable {X:Cx}
end
section
variable {M:Model}{A:Around}{E:Value->Shared->Prop}{s:Shared}
end
section
variable {prog:Program}{w:World}{A:Around}{E:Value->Shared->Prop}{s:Shared}{z TI TO i1 i2:Addr}{fp1 fp2:List Addr}{n1 n2 i:Nat}{P1 P2:Nat->Value->Prop}{St1 St2:Nat->Heap->Prop}{a b:Value}
end
noncomputable abbrev lit (l:Addr):Obj:={ cls:=.type "list_iterator",data:=.fields #[.ref l,.int 0 0] }
noncomputable abbrev itZ (b:Bool)(l:Addr):Obj:={ cls:=.type (cond b "tuple_iterator" "list_iterator"),data:=.fields #[.ref l,.int 0 0] }
noncomputable def ZIt (b:Bool)(h:Heap)(a l:Addr)(i:Nat):Prop:=∃ o,h.get? a=some o/\o.cls=.type (cond b "tuple_iterator" "list_iterator")/\o.data=.fields #[.ref l,.int i 0]
noncomputable def ZIn (b:Bool)(h:Heap)(a:Addr)(xs:Array Value):Prop:=cond b (h.IsTuple a xs) (h.IsList a xs)
theorem Zbz {prog:Program}{w:World}{A:Around}{E:Value->Shared->Prop}{s:Shared}{b:Bool}{a:Addr}{xs:Array Value}{Q:Value->Shared->Prop}(q:ZIn b s.heap a xs)
  (h:Q (.ref s.heap.objs.size) { s with heap:=s.heap.push (itZ b a) }):wpAny (model prog w) A (pyIter (.ref a)) Q E s:=by
 cases b
 ·exact Tw q h
 ·exact Ri q h
noncomputable abbrev zl1 (b:Bool)(h:Heap)(l1:Addr):Heap:=h.push (itZ b l1)
noncomputable abbrev zl2 (b:Bool)(h:Heap)(l1 l2:Addr):Heap:=(zl1 b h l1).push (lit l2)
noncomputable abbrev zl3 (b:Bool)(h:Heap)(l1 l2:Addr):Heap:=(zl2 b h l1 l2).push { cls:=.type "tuple",data:=.seq #[.ref h.objs.size,.ref (zl1 b h l1).objs.size] }
noncomputable abbrev zl4 (b:Bool)(h:Heap)(l1 l2:Addr):Heap:=(zl3 b h l1 l2).push { cls:=.type "tuple",data:=.seq #[.none,.none] }
noncomputable abbrev E1 (b:Bool)(h:Heap)(l1 l2:Addr):Heap:=(zl4 b h l1 l2).push { cls:=.type "zip",data:=.fields #[.none,.bool false,.bool false,.ref (zl2 b h l1 l2).objs.size,.ref (zl3 b h l1 l2).objs.size] }
theorem Zih (b:Bool)(l1 l2:Addr)(xs ys:Array Value) :
  Meets (Builtin.«zip.__new__» ⟨[.type "zip",.ref l1,.ref l2],[]⟩) (fun _ R s=>ZIn b s.heap l1 xs/\s.heap.IsList l2 ys/\R (.ok (.ret (.ref (zl4 b s.heap l1 l2).objs.size))) { s with heap:=E1 b s.heap l1 l2 }) :=
 .of_wp fun prog w A R s h=>by
  obtain ⟨hp,g,d,tk,os⟩:=s;obtain ⟨hl1,hl2,h⟩:=h
  have hsub:=sub_zip
  have q1:ZIn b (Shared.heap ⟨hp,g,d,tk,os⟩) l1 xs:=hl1
  have q2:Heap.IsList (Shared.heap ⟨hp.push (itZ b l1),g,d,tk,os⟩) l2 ys:=Heap.IsList.push hl2 _
  wp_walk using Zbz q1,Tw q2
  exact ⟨_,rfl,h⟩
theorem Zim {b:Bool}{prog:Program}{w:World}{A:Around}{E:Value->Shared->Prop}{s:Shared}{l1 l2:Addr}{xs ys:Array Value}{Q:Value->Shared->Prop}(hl1:ZIn b s.heap l1 xs)(hl2:s.heap.IsList l2 ys)
  (h:∀ h',IsZip h' (s.heap.objs.size+4) (s.heap.objs.size+2) (s.heap.objs.size+3) .none->IsPair h' (s.heap.objs.size+2) (.ref s.heap.objs.size) (.ref (s.heap.objs.size+1)) ->
   IsPair h' (s.heap.objs.size+3) .none .none->ZIt b h' s.heap.objs.size l1 0->h'.IsListIter (s.heap.objs.size+1) l2 0->h'.objs.size=s.heap.objs.size+5 ->
   (∀ c o,s.heap.get? c=some o->h'.get? c=some o)->Q (.ref (s.heap.objs.size+4)) { s with heap:=h' }) :
  wpAny (model prog w) A (call (.type "zip") [.ref l1,.ref l2]) Q E s:=by
 refine callType_new PySem.F.called_zip (by decide) (PySem.F.typeCall_zip_2 _ _) (PySem.F.newCall_zip_2 _ _) (fun obj=>PySem.F.args_object_init_3 obj _ _) PySem.F.entry_zip_new (Zih b l1 l2 xs ys) ⟨hl1,hl2,?_⟩
 have y1:(zl1 b s.heap l1).objs.size=s.heap.objs.size+1:=Po ..
 have y2:(zl2 b s.heap l1 l2).objs.size=s.heap.objs.size+2:=by rw [Po,y1]
 have y3:(zl3 b s.heap l1 l2).objs.size=s.heap.objs.size+3:=by rw [Po,y2]
 have y4:(zl4 b s.heap l1 l2).objs.size=s.heap.objs.size+4:=by rw [Po,y3]
 have y5:(E1 b s.heap l1 l2).objs.size=s.heap.objs.size+5:=by rw [Po,y4]
 have u5:(E1 b s.heap l1 l2).get? (zl4 b s.heap l1 l2).objs.size=some _:=O6 _ rfl
 have u4:(E1 b s.heap l1 l2).get? (zl3 b s.heap l1 l2).objs.size=some _:=Ov _ (O6 _ rfl)
 have u3:(E1 b s.heap l1 l2).get? (zl2 b s.heap l1 l2).objs.size=some _:=Ov _ (Ov _ (O6 _ rfl))
 have u2:(E1 b s.heap l1 l2).get? (zl1 b s.heap l1).objs.size=some _:=Ov _ (Ov _ (Ov _ (O6 _ rfl)))
 have u1:(E1 b s.heap l1 l2).get? s.heap.objs.size=some _:=Ov _ (Ov _ (Ov _ (Ov _ (O6 _ rfl))))
 show _/\_
 rw [y2,y3,y4] at u5
 rw [y1,y2] at u3
 rw [y3] at u4
 rw [y1] at u2
 rw [y4]
 exact ⟨⟨_,u5,rfl⟩,h _ u5 u3 u4 ⟨_,u1,rfl,rfl⟩ ⟨_,u2,rfl,rfl⟩ y5 fun c o x=>Ov _ (Ov _ (Ov _ (Ov _ (Ov _ x))))⟩
section
variable {X:Cx}
end
theorem Zie:∀(xs ys:List Int),((O2 (min xs.length ys.length)).all (fun j=>xs.getD j 0 == ys.getD j 0) && xs.length == ys.length)=decide (xs=ys):=by
 intro xs ys
 rw [Rn,Qi,Rl,beq_iff_eq,decide_eq_true_iff]
 constructor
 ·rintro ⟨h1,h2⟩
  apply List.ext_getElem h2
  intro i g1 g2
  have:=h1 i (List.mem_range.mpr (by omega))
  rw [beq_iff_eq,R4,R4,Os g1,Os g2] at this
  exact this
 ·rintro rfl
  exact ⟨fun j _=>by simp,rfl⟩
section
variable {X:Cx}
end
section
variable {X:Cx}
end
section
variable {X:Cx}{pins:List (Addr×Obj)}{σ:St}{H:Hp}{s:Shared}
end
section
variable {P:Program}{w:World}{K:Oo}{mg:Str->Option Value}{base:Heap}{N:List Str}{qual:Str}{scope:Scope}{f:Addr}{cd:Value}{A:Around}{outer:List Env}{s0:Shared}{H0:Hp}{E:XK}
end
section
variable {P:Program}{w:World}{K:Oo}{mg:Str->Option Value}{base:Heap}
end
section
variable {X:Cx}{k:Nat}{x:Str}{ps:List Str}{sp:Sp}{p pos np cpos:Pos}{e:Expr}{es:List Expr}{t:TA}{E:XK}
end
section
variable {X:Cx}{pins:List (Addr×Obj)}{σ:St}{H:Hp}{s:Shared}
end
section
variable {X:Cx}{k:Nat}{x:Str}{ps:List Str}{sp:Sp}{p pos np cpos:Pos}{e:Expr}{es:List Expr}{t:TA}
end
section
variable {X:Cx}{pins:List (Addr×Obj)}{σ:St}{H:Hp}{s:Shared}
end
section
variable {X:Cx}{c n:Str}{np hpos pos:Pos}{body hbody:List Stmt}{b₀:Stmt}{tb:TXS}{th:TS}{i:Nat}{C:Addr}
end
section
open PySem.W PySem.Builtin PySem.Builtin.ObjectAttr
variable {prog:Program}{w:World}{A:Around}{E:Value->Shared->Prop}{s:Shared}{K:Frag}{x C:Addr}{ox:Obj}{od:Option Obj}{name:Str}{R:Result->Shared->Prop}
end
section
variable {X:Cx}{pins:List (Addr×Obj)}{σ:St}{H:Hp}{s:Shared}
end
section
variable {X:Cx}{pins:List (Addr×Obj)}{σ:St}{H:Hp}{s:Shared}{a C:Addr}{f:Str}{A:Around}{E:Value->Shared->Prop}
open PySem.W PySem.Builtin PySem.Builtin.ObjectAttr
end
section
variable {X:Cx}{o e value:Expr}{f:Str}{pos pos':Pos}{ta tv:TE}
end
section
open PySem.W
end
section
variable {prog:Program}{w:World}{A:Around}{E:Value->Shared->Prop}{h:Heap}{g:Array GenState}{d:Drawn}{t:Nat}{os:OsState}
variable {nm q:Str}{C N:Addr}{bs bm bmB:List Value}{hdct:Bool}{sn:List Str}{sub:List Value}{ab:Bool}{col:Option Bool}{dd:Option Addr}{k0 k1 k2 k3 k5:Option Value}{B Bn newId nid initId inN:String}{bmN:List Value}
end
section
variable {X:Cx}{k:Nat}{x:Str}{sp:Sp}{ps:List Str}{C f:Addr}{fd:FuncData}{np cpos pos:Pos}{a:Expr}{t:TA}{E:XK}
end
section
variable {P:Program}{w:World}{K:Oo}{mg:Str->Option Value}{base:Heap}
end
section
variable {X:Cx}{k:Nat}{x:Str}{ps:List Str}{sp:Sp}{p pos:Pos}{e:Expr}{es:List Expr}{t:TA}
end
section
open PySem.W PySem.Builtin PySem.Builtin.ObjectAttr
variable {prog:Program}{w:World}{A:Around}{E:Value->Shared->Prop}{s:Shared}{K:Frag}{x D:Addr}{ox:Obj}{od:Option Obj}
end
section
variable {X:Cx}{pins:List (Addr×Obj)}{σ:St}{H:Hp}{s:Shared}{a C':Addr}{od:Option Addr}
end
section
variable {X:Cx}
noncomputable def rEqI (K:Oo):R2:=fun x y H Q=>∃(a c:Addr)(xs ys:List Int),x=.ref a/\y=.ref c/\SqT K H a (xs.map V.int)/\SqT K H c (ys.map V.int)/\Q (.bl (decide (xs=ys))) H
theorem Zbw (hu:X.A.units+200 < cLine):OpR X (compareOp .Eq) (rEqI X.K):=by
 intro pins s σ H x y v u Q I rx ry h
 obtain ⟨a,c,xs,ys,rfl,rfl,hx,hy,q⟩:=h
 cases rx
 cases ry
 obtain ⟨its,r1,p1,_⟩:=I.tuple hx
 obtain ⟨its2,r2,p2,_⟩:=I.tuple hy
 obtain ⟨us,e1,f1⟩:=Li r1
 obtain ⟨vs,e2,f2⟩:=Li r2
 have l1:us.length=xs.length:=by rw [<- f1,Ox]
 have l2:vs.length=ys.length:=by rw [<- f2,Ox]
 refine T1 (e:=fun j=>xs.getD j 0 == ys.getD j 0) (show s.heap.IsTuple a its.toArray from p1) (show s.heap.IsTuple c its2.toArray from p2) (by omega) (fun j h1 h2=>?_) ?_
 ·subst e1 e2
  simp only [Ou,Ox] at h1 h2
  have g1:xs.getD j 0=us[j].1:=by rw [<- f1,R4,Pg,Os h1];rfl
  have g2:ys.getD j 0=vs[j].1:=by rw [<- f2,R4,Pg,Os h2];rfl
  rw [g1,g2]
  simp only [List.getElem_toArray,List.getElem_map]
  exact O0.int_int _ _ _ _
 ·have e:((O2 (min its.toArray.size its2.toArray.size)).all (fun j=>xs.getD j 0 == ys.getD j 0) && its.toArray.size == its2.toArray.size)=decide (xs=ys):=by
   have z1:its.toArray.size=xs.length:=by rw [Ou,e1,Ox,l1]
   have z2:its2.toArray.size=ys.length:=by rw [Ou,e2,Ox,l2]
   rw [z1,z2,Zie]
  rw [e]
  exact ⟨.bl _,H,I,rfl,q⟩
noncomputable def Ia (K:Oo):R2:=fun x y H Q=>Ih K x y H Q\/rEqI K x y H Q
theorem Nf (K:Oo)(hu:X.A.units+200 < cLine)(hK:X.K=K:=by rfl):OpR X (compareOp .Eq) (Ia K):=by subst hK;exact (Zbb hu).or (Zbw hu)
theorem Zjc {K:Oo}{x y:V}{H:Hp}{Q:VK}(hs:E4 x y=true)(h:Q (.bl (decide (x=y))) H):Ia K x y H Q:=.inl (.inl ⟨hs,h⟩)
theorem Zah {K:Oo}{a c:Addr}{xs ys:List Int}{H:Hp}{Q:VK}(hx:SqT K H a (xs.map V.int))(hy:SqT K H c (ys.map V.int))(h:Q (.bl (decide (xs=ys))) H):Ia K (.ref a) (.ref c) H Q:=.inr ⟨a,c,xs,ys,rfl,rfl,hx,hy,h⟩
end
end L2
namespace L2
open PySem
inductive Cq:Dt->Prop where
 | flat (v:V):Cq (.flat v)
 | tup {ds:List Dt} (l:ds.length<=5000) (h:∀ d∈ds,Cq d):Cq (.tup ds)
 | lst {ds:List Dt} (l:ds.length<=5000) (h:∀ d∈ds,Cq d):Cq (.lst ds)
theorem Al.lstD {K:Oo}{H:Hp}{α:Type}{R:V->α->Prop}{g:α->Dt}{n:Nat}{a:Addr}{vs:List V}{xs:List α}(al:Al R vs xs)(e:SqL K H a vs)(h:∀ v x,R v x->IsD K H n v (g x)):IsD K H (n+1) (.ref a) (.lst (xs.map g)):=by
 refine .lst e (by rw [Ox];exact al.1) fun j v d h1 h2=>?_
 rw [Pg] at h2
 obtain ⟨r,hr,rfl⟩:=Option.map_eq_some_iff.mp h2
 exact h v r (al.2 j v r h1 hr)
section
variable {g:TG}{tt:TT}{te:TE}{σ0:St}{H1:Hp}{D:Addr}{Q:VK}
end
end L2
namespace L2
open PySem PySem.Spec PyProof.Rows
section
variable {X:Cx}
end
section
variable {prog:Program}{w:World}{A:Around}{E:Value->Shared->Prop}{s:Shared}
end
section
variable {X:Cx}
end
section
variable {g:TG}{tt:TT}{te:TE}{σ0:St}{H1:Hp}{D:Addr}{Q:VK}
end
section
variable {X:Cx}
open PySem.Builtin PySem.Builtin.Str in
end
section
variable {prog:Program}{w:World}{A:Around}{E:Value->Shared->Prop}{s:Shared}
end
section
variable {X:Cx}
end
section
variable {X:Cx}{k:Nat}{x:Str}{ps:List Str}{sp:Sp}{p pos:Pos}
end
section
variable {X:Cx}{k:Nat}{x m:Str}{ps:List Str}{sp:Sp}{E:XK}{C:Addr}{p pos apos:Pos}{e o:Expr}{es:List Expr}{ta:TE}{t:TA}{CX:Cd}{P:Program}{w:World}{mg:Str->Option Value}{base:Heap}
end
section
variable {X:Cx}{e o value:Expr}{f:Str}{pos pos':Pos}{ta tv:TE}{pins:List (Addr×Obj)}{σ:St}{H:Hp}{s:Shared}
end
section
variable {X:Cx}{pins:List (Addr×Obj)}{σ:St}{H:Hp}{s:Shared}
end
section
variable {P:Program}{w:World}{K:Oo}{mg:Str->Option Value}{base:Heap}
end
section
variable {X:Cx}{k:Nat}{x:Str}{ps ks:List Str}{gV:List V->List V->List V}{sp:Sp}{E:XK}{C:Addr}{p pos kpos:Pos}{e:Expr}{es:List Expr}{kws:List Keyword}{te:TE}{t tk:TA}{CX:Cd}{nm:Option Str}{f:Addr}{fd:FuncData}{g:List Value->List Value->List Value}
end
section
variable {X:Cx}{pins:List (Addr×Obj)}{σ:St}{H:Hp}{s:Shared}
end
section
variable {κ:Type}[DecidableEq κ]
noncomputable def A7 (kvs:List (κ×V))(k:κ):Option V:=(kvs.find? fun kv=>decide (kv.1=k)).map (·.2)
noncomputable def A1 (kvs:List (κ×V))(k:κ)(v:V):List (κ×V) :=
 if (kvs.any fun kv=>decide (kv.1=k))=true then kvs.map (fun kv=>if kv.1=k then (kv.1,v) else kv) else kvs++[(k,v)]
theorem Zb6 {k:κ}:A7 ([]:List (κ×V)) k=none:=rfl
theorem Cs {p:κ×V}{r:List (κ×V)}{k:κ}(e:p.1=k):A7 (p::r) k=some p.2:=by simp [A7,Q1,e]
theorem Cv {p:κ×V}{r:List (κ×V)}{k:κ}(e:¬ p.1=k):A7 (p::r) k=A7 r k:=by simp [A7,Q1,e]
theorem Il (k:κ):∀ kvs:List (κ×V),(kvs.any fun kv=>decide (kv.1=k))=(A7 kvs k).isSome
 | []=>rfl
 | p::r=>by
  rw [Rt]
  by_cases e:p.1=k
  ·simp only [Cs e,decide_eq_true e,Bool.true_or,Option.isSome_some]
  ·rw [Cv e,decide_eq_false e,Bool.false_or];exact Il k r
theorem Nc (k j:κ)(y:V):∀ kvs:List (κ×V),A7 (kvs.map fun kv=>if kv.1=k then (kv.1,y) else kv) j=(A7 kvs j).map fun x=>if j=k then y else x
 | []=>rfl
 | p::r=>by
  have ih:=Nc k j y r
  rw [Pk]
  by_cases h:p.1=k
  ·rw [if_pos h]
   by_cases e:p.1=j
   ·rw [Cs (p:=(p.1,y)) e,Cs e,Su,if_pos (e.symm.trans h)]
   ·rw [Cv (p:=(p.1,y)) e,Cv e,ih]
  ·rw [if_neg h]
   by_cases e:p.1=j
   ·rw [Cs (p:=p) e,Cs e,Su,if_neg (fun z=>h (e.trans z))]
   ·rw [Cv (p:=p) e,Cv e,ih]
theorem Na (k j:κ)(y:V):∀ kvs:List (κ×V),A7 kvs k=none->A7 (kvs++[(k,y)]) j=if j=k then some y else A7 kvs j
 | [],_=>by
  by_cases e:k=j
  ·rw [if_pos e.symm];exact Cs (p:=(k,y)) e
  ·rw [if_neg (fun z=>e z.symm)];exact Cv (p:=(k,y)) e
 | p::r,hn=>by
  rw [T2]
  have hk:¬ p.1=k:=fun z=>by rw [Cs z] at hn;cases hn
  rw [Cv hk] at hn
  have ih:=Na k j y r hn
  by_cases e:p.1=j
  ·rw [Cs e,Cs e,if_neg (fun z=>hk (e.trans z))]
  ·rw [Cv e,Cv e,ih]
theorem Ip (kvs:List (κ×V))(k j:κ)(y:V):A7 (A1 kvs k y) j=if j=k then some y else A7 kvs j:=by
 unfold A1
 by_cases a:(kvs.any fun kv=>decide (kv.1=k))=true
 ·rw [if_pos a,Nc]
  rw [Il] at a
  by_cases e:j=k
  ·obtain ⟨x,hx⟩:=Qr.mp a
   rw [if_pos e,e,hx,Su,if_pos rfl]
  ·rw [if_neg e]
   cases A7 kvs j with
   | none=>rfl
   | some x=>rw [Su,if_neg e]
 ·rw [if_neg a]
  refine Na k j y kvs ?_
  rw [Il] at a
  cases q:A7 kvs k with
  | none=>rfl
  | some x=>rw [q] at a;exact (a rfl).elim
theorem E2 (kvs:List (κ×V))(k:κ)(v:V):(A1 kvs k v).length<=kvs.length+1:=by
 unfold A1
 split
 ·rw [Ox];omega
 ·rw [O3,O8,List.length_nil];omega
theorem RelO.isSome_eq {o:Option V}{u:Option Value}(r:RelO o u):o.isSome=u.isSome:=by
 cases o with
 | none=>cases u with
  | none=>rfl
  | some _=>exact (show False from r).elim
 | some _=>cases u with
  | none=>exact (show False from r).elim
  | some _=>rfl
theorem RelO.getD {o:Option V}{u:Option Value}{d:V}{d':Value}(r:RelO o u)(rd:RelV d d'):RelV (o.getD d) (u.getD d'):=by
 cases o with
 | none=>cases u with
  | none=>exact rd
  | some _=>exact (show False from r).elim
 | some _=>cases u with
  | none=>exact (show False from r).elim
  | some _=>exact r
theorem KV.val {kvs:List (κ×V)}{vs:List (κ×Value)}(r:KV kvs vs)(k:κ):RelO (A7 kvs k) (valueAt vs k):=by
 unfold KV at r
 induction r with
 | nil=>exact True.intro
 | @cons p q ps qs h t ih =>
  obtain ⟨h1,h2⟩:=h
  by_cases e:p.1=k
  ·have e':q.1=k:=h1.symm.trans e
   have b:valueAt (q::qs) k=some q.2:=by simp [valueAt,Q1,e']
   rw [Cs e,b];exact h2
  ·have e':¬ q.1=k:=fun z=>e (h1.trans z)
   have b:valueAt (q::qs) k=valueAt qs k:=by simp [valueAt,Q1,e']
   rw [Cv e,b];exact ih
theorem KV.any {kvs:List (κ×V)}{vs:List (κ×Value)}(r:KV kvs vs)(k:κ):(kvs.any fun kv=>decide (kv.1=k))=vs.any fun kv=>decide (kv.1=k):=by
 unfold KV at r
 induction r with
 | nil=>rfl
 | cons h t ih=>rw [Rt,Rt,ih,h.1]
theorem KV.repl {kvs:List (κ×V)}{vs:List (κ×Value)}(r:KV kvs vs)(k:κ){y:V}{u:Value}(ry:RelV y u) :
  KV (kvs.map fun kv=>if kv.1=k then (kv.1,y) else kv) (vs.map fun kv=>if kv.1=k then (kv.1,u) else kv):=by
 unfold KV at r ⊢
 induction r with
 | nil=>exact .nil
 | @cons p q ps qs h t ih =>
  rw [Pk,Pk]
  refine .cons ?_ ih
  obtain ⟨h1,h2⟩:=h
  by_cases e:p.1=k
  ·rw [if_pos e,if_pos (h1.symm.trans e)];exact ⟨h1,ry⟩
  ·rw [if_neg e,if_neg (fun z=>e (h1.trans z))];exact ⟨h1,h2⟩
theorem KV.put {kvs:List (κ×V)}{vs:List (κ×Value)}(r:KV kvs vs)(k:κ){y:V}{u:Value}(ry:RelV y u):KV (A1 kvs k y) (stored vs k u):=by
 unfold A1 stored
 rw [r.any k]
 by_cases e:(vs.any fun kv=>decide (kv.1=k))=true
 ·rw [if_pos e,if_pos e];exact r.repl k ry
 ·rw [if_neg e,if_neg e];exact Paired.snoc r ⟨rfl,ry⟩
theorem KV.length {kvs:List (κ×V)}{vs:List (κ×Value)}(r:KV kvs vs):kvs.length=vs.length:=Rr r
end
theorem Ei {P:Program}{w:World}{k:Ah}{u:Value}(r:RelV (kV k) u):(B3 P w).is k u=true:=by
 cases k with
 | inl i=>obtain ⟨t,e⟩:=(show ∃ t,u=Value.int i t from r);subst e;exact Zg2 P w i t
 | inr x=>obtain ⟨t,e⟩:=(show ∃ t,u=Value.str x t from r);subst e;exact Zbn P w x t
theorem Zag {P:Program}{w:World}:∀{ks:List Ah}{us:List Value},Vals (ks.map kV) us->ItemsAre (B3 P w) ks us
 | [],_,r=>by rw [List.map_nil] at r;cases r;exact .nil
 | k::ks,_,r=>by
  rw [Pk] at r
  cases r with
  | cons h t=>exact .cons (Ei h) (Zag t)
noncomputable abbrev KT (H:Hp):List (List Ah×V)->List (List Ah×Addr×Value)->Prop:=Paired fun p q=>p.1=q.1/\H q.2.1=some (.tup (p.1.map kV))/\RelV p.2 q.2.2
theorem KT.val {H:Hp}{kvs:List (List Ah×V)}{xs:List (List Ah×Addr×Value)}(r:KT H kvs xs)(k:List Ah):RelO (A7 kvs k) ((atKey xs k).map (·.2)):=by
 induction r with
 | nil=>exact True.intro
 | @cons p q ps qs h t ih =>
  obtain ⟨h1,_,h2⟩:=h
  by_cases e:p.1=k
  ·have e':q.1=k:=h1.symm.trans e
   have b:atKey (q::qs) k=some q.2:=by simp [atKey,Q1,e']
   rw [Cs e,b];exact h2
  ·have e':¬ q.1=k:=fun z=>e (h1.trans z)
   have b:atKey (q::qs) k=atKey qs k:=by simp [atKey,Q1,e']
   rw [Cv e,b];exact ih
theorem KT.repl {H:Hp}{kvs:List (List Ah×V)}{xs:List (List Ah×Addr×Value)}(r:KT H kvs xs)(k:List Ah){y:V}{u:Value}(ry:RelV y u) :
  KT H (kvs.map fun kv=>if kv.1=k then (kv.1,y) else kv) (xs.map (putAt k u)):=by
 induction r with
 | nil=>exact .nil
 | @cons p q ps qs h t ih =>
  rw [Pk,Pk]
  refine .cons ?_ ih
  obtain ⟨h1,h2,h3⟩:=h
  unfold putAt
  by_cases e:p.1=k
  ·rw [if_pos e,if_pos (h1.symm.trans e)];exact ⟨h1,h2,ry⟩
  ·rw [if_neg e,if_neg (fun z=>e (h1.trans z))];exact ⟨h1,h2,h3⟩
theorem KT.put {H:Hp}{kvs:List (List Ah×V)}{xs:List (List Ah×Addr×Value)}(r:KT H kvs xs)(k:List Ah){b:Addr}{y:V}{u:Value}(hb:H b=some (.tup (k.map kV)))(ry:RelV y u) :
  KT H (A1 kvs k y) (storedH xs k b u):=by
 have e:(kvs.any fun kv=>decide (kv.1=k))=(atKey xs k).isSome:=by
  rw [Il,(r.val k).isSome_eq,Tz]
 unfold A1 storedH
 rw [e]
 by_cases q:(atKey xs k).isSome=true
 ·rw [if_pos q,if_pos q];exact r.repl k ry
 ·rw [if_neg q,if_neg q];exact Paired.snoc r ⟨rfl,hb,ry⟩
theorem KT.keeps {H H':Hp}{kvs:List (List Ah×V)}{xs:List (List Ah×Addr×Value)}(r:KT H kvs xs)(ht:∀ b ys,H b=some (.tup ys)->H' b=some (.tup ys)):KT H' kvs xs :=
 Paired.mapP r fun _ _ z=>⟨z.1,ht _ _ z.2.1,z.2.2⟩
section
variable {P:Program}{w:World}{H:Hp}{h:Heap}{a:Addr}
theorem N4 {u:HO}(ok:HOk P w H h)(e:Rd H a u):ObjOk P w H h a u:=e.ok ok
theorem D4 {kvs:List (Ah×V)}(ok:HOk P w H h)(e:Rd H a (.dK kvs)):kvs.length<=sizeLine/\(a == sysModules)=false/\∃ vs,KV kvs vs/\h.DictOf (B3 P w) a vs :=
 show ObjOk P w H h a (.dK kvs) from N4 ok e
theorem Oi {kvs:List (Ah×V)}(ok:HOk P w H h)(e:H a=some (.dK kvs)):kvs.length<=sizeLine/\(a == sysModules)=false/\∃ vs,KV kvs vs/\h.DictOf (B3 P w) a vs:=D4 ok (.inl e)
theorem Ej {ks:List Ah}(ok:HOk P w H h)(e:H a=some (.tup (ks.map kV))):(tupleKind (B3 P w)).is h ks a:=by
 obtain ⟨_,its,r,o,h1,h2,n,h3⟩:=(show ObjOk P w H h a (.tup (ks.map kV)) from ok a _ e)
 exact ⟨o,its.toArray,n,h1,h2,h3,by simpa using Zag r⟩
theorem Et {kvs:List (List Ah×V)}(ok:HOk P w H h)(e:Rd H a (.dT kvs)):kvs.length<=sizeLine/\(a == sysModules)=false /\
  ∃ xs,KT H kvs xs/\h.DictOfH (tupleKind (B3 P w)) a xs:=by
 obtain ⟨z,y,xs,r,o,es,ep,h1,h2,h3,h4,h5⟩:=(show ObjOk P w H h a (.dT kvs) from N4 ok e)
 refine ⟨z,y,xs,r,o,es,ep,h1,h2,h3,h4,fun x hx=>?_,h5⟩
 have all:∀{l:List (List Ah×V)}{m:List (List Ah×Addr×Value)},KT H l m->∀ x∈m,(tupleKind (B3 P w)).is h x.1 x.2.1:=by
  intro l m q
  induction q with
  | nil=>intro x hx;exact nomatch hx
  | @cons p q ps qs hq t ih =>
   intro x hx
   rcases Oy.mp hx with e | hx
   ·subst e
    exact Ej ok (by rw [<- hq.1];exact hq.2.1)
   ·exact ih x hx
 exact all r x hx
theorem L8 {kvs:List (List Ah×V)}(ok:HOk P w H h)(e:H a=some (.dT kvs)):kvs.length<=sizeLine/\(a == sysModules)=false /\
  ∃ xs,KT H kvs xs/\h.DictOfH (tupleKind (B3 P w)) a xs:=Et ok (.inl e)
end
noncomputable def DGet (H:Hp)(a:Addr)(y:V)(r:Option V):Prop :=
 (∃ kvs k,Rd H a (.dK kvs)/\y=kV k/\r=A7 kvs k)\/∃ kvs k b,Rd H a (.dT kvs)/\y=.ref b/\H b=some (.tup (k.map kV))/\r=A7 kvs k
noncomputable def DPut (H:Hp)(a:Addr)(y v:V)(H':Hp):Prop :=
 (∃ kvs k,H a=some (.dK kvs)/\y=kV k/\kvs.length < sizeLine/\H'=upd H a (.dK (A1 kvs k v))) \/
 ∃ kvs k b,H a=some (.dT kvs)/\y=.ref b/\H b=some (.tup (k.map kV))/\kvs.length < sizeLine/\H'=upd H a (.dT (A1 kvs k v))
theorem DGet.k {H:Hp}{a:Addr}{kvs:List (Ah×V)}{k:Ah}(e:H a=some (.dK kvs)):DGet H a (kV k) (A7 kvs k):=.inl ⟨kvs,k,.inl e,rfl,rfl⟩
theorem DGet.t {H:Hp}{a b:Addr}{kvs:List (List Ah×V)}{k:List Ah}(e:H a=some (.dT kvs))(eb:H b=some (.tup (k.map kV))):DGet H a (.ref b) (A7 kvs k):=.inr ⟨kvs,k,b,.inl e,rfl,eb,rfl⟩
theorem DPut.k {H:Hp}{a:Addr}{kvs:List (Ah×V)}{k:Ah}{v:V}(e:H a=some (.dK kvs))(hl:kvs.length < sizeLine):DPut H a (kV k) v (upd H a (.dK (A1 kvs k v))):=.inl ⟨kvs,k,e,rfl,hl,rfl⟩
theorem DPut.t {H:Hp}{a b:Addr}{kvs:List (List Ah×V)}{k:List Ah}{v:V}(e:H a=some (.dT kvs))(eb:H b=some (.tup (k.map kV)))(hl:kvs.length < sizeLine) :
  DPut H a (.ref b) v (upd H a (.dT (A1 kvs k v))):=.inr ⟨kvs,k,b,e,rfl,eb,hl,rfl⟩
section
variable {X:Cx}{pins:List (Addr×Obj)}{σ:St}{H:Hp}{s:Shared}{a:Addr}{y v:V}{u r:Value}{o:Option V}{A:Around}{E:Value->Shared->Prop}
theorem Inv.big (I:Inv X pins σ H s):sysModules < s.heap.objs.size:=by
 have h:mainGlobals < s.heap.objs.size:=(I.mod.glob.keeps I.bk).lt
 exact Nat.lt_trans (by decide) h
theorem Zb3 {Q:Value->Shared->Prop}(hu:A.units+1 < cLine)(I:Inv X pins σ H s)(g:DGet H a y (some v))(ry:RelV y u)(h:∀ w' s',Inv X pins σ H s'->RelV v w'->Q w' s') :
  wpAny (model X.prog X.w) A (getItem (.ref a) u) Q E s:=by
 rcases g with ⟨kvs,k,e,ey,l⟩ | ⟨kvs,k,b,e,ey,eb,l⟩
 ·subst ey
  obtain ⟨z,hd,vs,rel,dd⟩:=D4 I.hok e
  obtain ⟨w',hw,rw'⟩:=RelO.some_of (v:=v) (o:=valueAt vs k) (by rw [l];exact rel.val k)
  exact wpAny_getItem_of (Ei ry) dd.mapOf hw (h w' _ (I.tok _) rw')
 ·subst ey
  cases (show u=Value.ref b from ry)
  obtain ⟨z,hd,xs,rel,dd⟩:=Et I.hok e
  obtain ⟨w',hw,rw'⟩:=RelO.some_of (v:=v) (o:=(atKey xs k).map (·.2)) (by rw [l];exact rel.val k)
  obtain ⟨p,hp,hp2⟩:=Option.map_eq_some_iff.mp hw
  refine wpAny_getItem_heap (Rj hu) (Ej I.hok eb) dd hp ?_
  rw [hp2]
  exact h w' _ (I.tok _) rw'
theorem d_in {Q:Value->Shared->Prop}(hu:A.units+1 < cLine)(I:Inv X pins σ H s)(g:DGet H a y o)(ry:RelV y u)(h:∀ s',Inv X pins σ H s'->Q (.bool o.isSome) s') :
  wpAny (model X.prog X.w) A (compareOp .In u (.ref a)) Q E s:=by
 rcases g with ⟨kvs,k,e,ey,l⟩ | ⟨kvs,k,b,e,ey,eb,l⟩
 ·subst ey
  obtain ⟨z,hd,vs,rel,dd⟩:=D4 I.hok e
  refine wpAny_in_of (Ei ry) hd dd.mapOf ?_
  rw [<- (rel.val k).isSome_eq,<- l]
  exact h _ (I.tok _)
 ·subst ey
  cases (show u=Value.ref b from ry)
  obtain ⟨z,hd,xs,rel,dd⟩:=Et I.hok e
  refine wpAny_in_heap (Rj hu) (Ej I.hok eb) hd dd ?_
  have q:=(rel.val k).isSome_eq
  rw [Tz] at q
  rw [<- q,<- l]
  exact h _ (I.tok _)
theorem Zey {Q:Value->Shared->Prop}(hu:A.units+1 < cLine)(I:Inv X pins σ H s)(g:DGet H a y o)(ry:RelV y u)(h:∀ s',Inv X pins σ H s'->Q (.bool (!o.isSome)) s') :
  wpAny (model X.prog X.w) A (compareOp .NotIn u (.ref a)) Q E s:=by
 rcases g with ⟨kvs,k,e,ey,l⟩ | ⟨kvs,k,b,e,ey,eb,l⟩
 ·subst ey
  obtain ⟨z,hd,vs,rel,dd⟩:=D4 I.hok e
  refine wpAny_notIn_of (Ei ry) hd dd.mapOf ?_
  rw [<- (rel.val k).isSome_eq,<- l]
  exact h _ (I.tok _)
 ·subst ey
  cases (show u=Value.ref b from ry)
  obtain ⟨z,hd,xs,rel,dd⟩:=Et I.hok e
  refine wpAny_notIn_heap (Rj hu) (Ej I.hok eb) hd dd ?_
  have q:=(rel.val k).isSome_eq
  rw [Tz] at q
  rw [<- q,<- l]
  exact h _ (I.tok _)
theorem Ii {h':Heap}{t':Nat}{ob:HO}(I:Inv X pins σ H s)(mu:Mut (H a))(hs:Pc a s.heap h')(he:∃ q,h'.get? a=some q)(new:ObjOk X.prog X.w (upd H a ob) h' a ob) :
  Inv X pins σ (upd H a ob) { s with heap:=h',toks:=t' } :=
 I.write (x:=a) (e:=a) mu (.inl rfl) (fun b q hb z=>(hs.2 b hb).trans z) he new
theorem Iz {P:Program}{w:World}{H':Hp}{h':Heap}{kvs:List (Ah×V)}{vs:List (Ah×Value)}(z:kvs.length<=sizeLine)(hd:(a == sysModules)=false)(rel:KV kvs vs)(dd:h'.DictOf (B3 P w) a vs) :
  ObjOk P w H' h' a (.dK kvs):=⟨z,hd,vs,rel,dd⟩
theorem Zhz {H':Hp}{Q:Unit->Shared->Prop}(hu:A.units+1 < cLine)(I:Inv X pins σ H s)(g:DPut H a y v H')(ry:RelV y u)(rv:RelV v r)(h:∀ s',Inv X pins σ H' s'->Q () s') :
  wpAny (model X.prog X.w) A (setItem (.ref a) u r) Q E s:=by
 rcases g with ⟨kvs,k,e,ey,l,eH⟩ | ⟨kvs,k,b,e,ey,eb,l,eH⟩
 ·subst ey eH
  obtain ⟨z,hd,vs,rel,dd⟩:=Oi I.hok e
  have hz:vs.length<=sizeLine:=by rw [<- rel.length];exact z
  have hl:(A1 kvs k v).length<=sizeLine:=by have:=E2 kvs k v;omega
  refine wpAny_setItem_pairs (hsz:=hz) (Ei ry) dd fun h' dd' hs=>h _ ?_
  have he:∃ q,h'.get? a=some q:=let ⟨q,_,_,hq,_⟩:=dd';⟨q,hq⟩
  exact Ii I (by rw [e];exact True.intro) hs he (Iz hl hd (rel.put k rv) dd')
 ·subst ey eH
  cases (show u=Value.ref b from ry)
  obtain ⟨z,hd,xs,rel,dd⟩:=L8 I.hok e
  have hz:xs.length<=sizeLine:=by rw [<- Rr rel];exact z
  have hl:(A1 kvs k v).length<=sizeLine:=by have:=E2 kvs k v;omega
  refine wpAny_setItem_heap (hsz:=hz) (Rj hu) (Ej I.hok eb) dd fun h' dd' hs=>h _ ?_
  obtain ⟨q,es,ep,hq,h2,h3,h4,_,h5⟩:=dd'
  refine Ii I (by rw [e];exact True.intro) hs ⟨q,hq⟩ ⟨hl,hd,_,(rel.put k eb rv).keeps fun c ys ec=>?_,q,es,ep,hq,h2,h3,h4,h5⟩
  rw [Af (Dl ec e (fun z=>nomatch z))]
  exact ec
end
section
variable {X:Cx}{pins:List (Addr×Obj)}{σ:St}{H:Hp}{s:Shared}{a:Addr}{kvs:List (Ah×V)}{k:Ah}{u:Value}{A:Around}{E:Value->Shared->Prop}
end
noncomputable def Ln (i:Expr):Prop:=∀ ov iv,subscripted i false ov iv=operate [ov,iv] (getItem ov iv)
theorem Zda {prog:Program}{w:World}{A:Around}{E:Value->Shared->Prop}{s:Shared}{env:Env}{value slice:Expr}{pos:Pos}{T id:String}{Q:Value->Shared->Prop}
  (hl:typeLookup (.type T) "__getitem__" = pure (some (.builtin id))) (hs:Ln slice)
  (h:wpAny (model prog w) A (eval value env) (fun o s₁=>wpAny (model prog w) A (eval slice env) (fun i s₂=>s₂.TypeIs o T/\wpAny (model prog w) A (getItem o i) Q E s₂) E s₁) E s) :
  wpAny (model prog w) A (eval (.Subscript value slice pos) env) Q E s:=by
 refine Subscript_ (Q7 h (fun o s₁ h₁=>Q7 h₁ (fun i s₂ h₂=>?_) fun _ _ x=>x) fun _ _ x=>x)
 obtain ⟨hT,h₂⟩:=h₂
 unfold subscriptTail
 refine Op ?_
 rw [getitemInPython_of_ne hT.not_modules]
 refine Op (Ro hT hl ?_)
 have fin:wpAny (model prog w) A (subscripted slice false o i) (fun r s₃=>wpAny (model prog w) A (letTemporaryGo value o r >>= fun _=>pure r) Q E s₃) E s₂:=by
  rw [hs o i]
  exact wpAny_operating (Q7 h₂ (fun r s₃ h₃=>Op (wpAny_letTemporaryGo (Ot h₃))) fun _ _ x=>x)
 first
  | exact Ot (Op fin)
  | exact Op (Ot (Op fin))
  | exact Op fin
theorem Zfl {X:Cx}{pins:List (Addr×Obj)}{σ:St}{H:Hp}{s:Shared}{a:Addr}{y:V}{o:Option V}(I:Inv X pins σ H s)(g:DGet H a y o):s.TypeIs (.ref a) "dict" := by
 rcases g with ⟨kvs,k,e,_,_⟩ | ⟨kvs,k,b,e,_,_,_⟩
 ·obtain ⟨_,_,vs,_,dd⟩:=D4 I.hok e
  exact dd.typeIs
 ·obtain ⟨_,_,xs,_,dd⟩:=Et I.hok e
  exact dd.typeIs
noncomputable def Iy (td ty:TE):TE:=fun σ H Q=>td σ H fun x H1=>ty σ H1 fun y H2=>∃ a v,x=.ref a/\DGet H2 a y (some v)/\Q v H2
noncomputable def Ju (ty td:TE):TE:=fun σ H Q=>ty σ H fun y H1=>td σ H1 fun x H2=>∃ a o,x=.ref a/\DGet H2 a y o/\Q (.bl o.isSome) H2
noncomputable def Ol (ty td:TE):TE:=fun σ H Q=>ty σ H fun y H1=>td σ H1 fun x H2=>∃ a o,x=.ref a/\DGet H2 a y o/\Q (.bl (!o.isSome)) H2
noncomputable def K8 (td ty tv:TE):TS:=fun D σ H=>tv σ H fun v H1=>td σ H1 fun x H2=>ty σ H2 fun y H3=>∃ a H4,x=.ref a/\DPut H3 a y v H4/\D.nx σ H4
section
variable {X:Cx}{o i e value:Expr}{pos pos' tpos:Pos}{td ty tv:TE}
theorem Zc1 (hu:X.A.units+1 < cLine)(ho:PE X o td)(hi:PE X i ty)(hs:Ln i):PE X (.Subscript o i pos) (Iy td ty):=by
 intro pins s σ H Q I h
 refine Zda PySem.F.slot_dict_getitem.lookup hs (Ae (ho pins s σ H _ I h) fun u s1 zq=>?_)
 obtain ⟨x,H1,I1,rx,q1⟩:=zq
 refine Ae (hi pins s1 σ H1 _ I1 q1) fun iv s2 zq=>?_
 obtain ⟨y,H2,I2,ry,a,v,ex,g,q2⟩:=zq
 subst ex
 obtain rfl:u=Value.ref a:=rx
 exact ⟨Zfl I2 g,Zb3 hu I2 g ry fun w' s3 I3 rw'=>⟨v,H2,I3,rw',q2⟩⟩
theorem Zee (hu:X.A.units+1 < cLine)(hi:PE X i ty)(ho:PE X o td):PC X .In i o (Ju ty td):=by
 intro pins s σ H Q I h
 refine Ae (hi pins s σ H _ I h) fun iv s1 zq=>?_
 obtain ⟨y,H1,I1,ry,q1⟩:=zq
 refine Ae (ho pins s1 σ H1 _ I1 q1) fun u s2 zq=>?_
 obtain ⟨x,H2,I2,rx,a,ov,ex,g,q2⟩:=zq
 subst ex
 obtain rfl:u=Value.ref a:=rx
 exact d_in hu I2 g ry fun s3 I3=>⟨.bl ov.isSome,H2,I3,rfl,q2⟩
theorem Zjy (hu:X.A.units+1 < cLine)(hi:PE X i ty)(ho:PE X o td):PC X .NotIn i o (Ol ty td):=by
 intro pins s σ H Q I h
 refine Ae (hi pins s σ H _ I h) fun iv s1 zq=>?_
 obtain ⟨y,H1,I1,ry,q1⟩:=zq
 refine Ae (ho pins s1 σ H1 _ I1 q1) fun u s2 zq=>?_
 obtain ⟨x,H2,I2,rx,a,ov,ex,g,q2⟩:=zq
 subst ex
 obtain rfl:u=Value.ref a:=rx
 exact Zey hu I2 g ry fun s3 I3=>⟨.bl (!ov.isSome),H2,I3,rfl,q2⟩
theorem Zja (hu:X.A.units+1 < cLine)(ho:PE X o td)(hi:PE X i ty)(hv:PE X value tv)(hs:swapsWith value (some (.Subscript o i pos')) pos.line X.env=pure false) :
  PS X (.Assign [.Subscript o i pos'] value pos) (K8 td ty tv):=by
 intro pins s σ H D I h
 refine wpAny_Assign_Subscript (Ae (hv pins s σ H _ I h) fun r s1 zq=>?_) hs
 obtain ⟨v,H1,I1,rv,q1⟩:=zq
 refine Ae (ho pins s1 σ H1 _ I1 q1) fun u s2 zq=>?_
 obtain ⟨x,H2,I2,rx,q2⟩:=zq
 refine Ae (hi pins s2 σ H2 _ I2 q2) fun iv s3 zq=>?_
 obtain ⟨y,H3,I3,ry,a,H4,ex,g,q3⟩:=zq
 subst ex
 obtain rfl:u=Value.ref a:=rx
 exact Zhz hu I3 g ry rv fun s4 I4=>⟨σ,H4,I4,q3⟩
end
theorem Zdl {P:Program}{w:World}{H:Hp}(h:Heap)(hb:sysModules < h.objs.size):ObjOk P w H (h.push { cls:=.type "dict",data:=.dict #[] }) h.objs.size (.dK []) :=
 ⟨Pd _,beq_eq_false_iff_ne.mpr (O9 (O1 hb)),[],.nil,Heap.DictOf.new h⟩
theorem On {P:Program}{w:World}{H:Hp}(h:Heap)(hb:sysModules < h.objs.size):ObjOk P w H (h.push { cls:=.type "dict",data:=.dict #[] }) h.objs.size (.dT []) :=
 ⟨Pd _,beq_eq_false_iff_ne.mpr (O9 (O1 hb)),[],.nil,_,#[],0,O6 _ rfl,⟨rfl,rfl,rfl⟩,rfl,rfl,List.nodup_nil⟩
noncomputable def Mx:TE:=fun _ H Q=>∀ p,H p=none->Q (.ref p) (upd H p (.dK []))
noncomputable def L5:TE:=fun _ H Q=>∀ p,H p=none->Q (.ref p) (upd H p (.dT []))
section
variable {X:Cx}{pos:Pos}
theorem Zem:PE X (.Dict [] [] pos) Mx:=fun pins s σ H Q I h =>
 wpAny_Dict_empty ⟨.ref s.heap.objs.size,_,I.laid (a:=s.heap.objs.size) (o:=.dK []) (t':=s.toks) (fun _ _ q=>Ov _ q) (Oq _) (Zdl s.heap I.big),rfl,h _ (I.hok.fresh (Oq _))⟩
theorem Ziv:PE X (.Dict [] [] pos) L5:=fun pins s σ H Q I h =>
 wpAny_Dict_empty ⟨.ref s.heap.objs.size,_,I.laid (a:=s.heap.objs.size) (o:=.dT []) (t':=s.toks) (fun _ _ q=>Ov _ q) (Oq _) (On s.heap I.big),rfl,h _ (I.hok.fresh (Oq _))⟩
end
structure M2 (X:Cx)(o:Expr)(m:Str)(apos:Pos)(e f:Expr)(cpos:Pos):Prop where
 base:attributeBase o m X.env (eval o X.env)=eval o X.env
 few:((backTo cpos (starEach [e,f] X.env)).all (fun x=>!x.1) && (backToKw cpos (keywordEach [] X.env)).all (fun x=>x.1.isSome)
  && decide (([e,f]:List Expr).length+([]:List Keyword).length+(if ([]:List Keyword).isEmpty then 0 else 1) < 30))=true
 line:(apos.endLine == cpos.line)=true
 trees:backTo cpos (starEach [e,f] X.env)=[(false,eval e X.env),(false,eval f X.env)]
noncomputable def DcD (H:Hp)(a:Addr):Prop:=(∃ kvs,Rd H a (.dK kvs))\/∃ kvs,Rd H a (.dT kvs)
theorem Zgt {X:Cx}{pins:List (Addr×Obj)}{σ:St}{H:Hp}{s:Shared}{a:Addr}(I:Inv X pins σ H s)(d:DcD H a) :
  s.TypeIs (.ref a) "dict" /\ (∀ b,Value.ref a=.ref b->∃ ob,s.heap.get? b=some ob/\ob.dict=none)/\(a == sysModules)=false:=by
 rcases d with ⟨kvs,e⟩ | ⟨kvs,e⟩
 ·obtain ⟨_,hd,vs,_,dd⟩:=D4 I.hok e
  refine ⟨dd.typeIs,fun b q=>?_,hd⟩
  cases q
  obtain ⟨ob,_,_,h1,h2,_⟩:=dd
  exact ⟨ob,h1,h2.2.1⟩
 ·obtain ⟨_,hd,xs,_,dd⟩:=Et I.hok e
  refine ⟨dd.typeIs,fun b q=>?_,hd⟩
  cases q
  obtain ⟨ob,_,_,h1,h2,_⟩:=dd
  exact ⟨ob,h1,h2.2.1⟩
section
variable {X:Cx}{pins:List (Addr×Obj)}{σ:St}{H:Hp}{s:Shared}{a:Addr}{y d:V}{u r:Value}{o:Option V}{A:Around}{E:Value->Shared->Prop}
theorem Zg5 {Q:Value->Shared->Prop}(hu:A.units+1 < cLine)(I:Inv X pins σ H s)(g:DGet H a y o)(ry:RelV y u)(rd:RelV d r)(h:∀ w' s',Inv X pins σ H s'->RelV (o.getD d) w'->Q w' s') :
  wpAny (model X.prog X.w) A (call (.builtin "dict.get") [.ref a,u,r]) Q E s:=by
 rcases g with ⟨kvs,k,e,ey,l⟩ | ⟨kvs,k,b,e,ey,eb,l⟩
 ·subst ey
  obtain ⟨z,hd,vs,rel,dd⟩:=D4 I.hok e
  refine call_meetsIn Th dd.typeIs PySem.F.entry_dict_get (PySem.F.args_dict_get_3 _ _ _) (meets_dict_get_default (B3 X.prog X.w) a (Ei ry) hd r) ⟨_,dd.mapOf,h _ _ (I.tok _) ?_⟩
  rw [l]
  exact (rel.val k).getD rd
 ·subst ey
  cases (show u=Value.ref b from ry)
  obtain ⟨z,hd,xs,rel,dd⟩:=Et I.hok e
  refine call_meetsIn Th dd.typeIs PySem.F.entry_dict_get (PySem.F.args_dict_get_3 _ _ _) (meetsH_dict_get_default (tupleKind (B3 X.prog X.w)) a b hd r) ⟨Rj hu,k,xs,Ej I.hok eb,dd,h _ _ (I.tok _) ?_⟩
  rw [l]
  exact (rel.val k).getD rd
end
noncomputable def Jg (td ty tx:TE):TE:=fun σ H Q=>td σ H fun x H1=>∃ a,x=.ref a/\DcD H1 a/\ty σ H1 fun y H2=>tx σ H2 fun z H3=>∃ o,DGet H3 a y o/\Q (o.getD z) H3
section
variable {X:Cx}{o e f:Expr}{apos cpos:Pos}{td ty tx:TE}
theorem Zdr (hu:X.A.units+1 < cLine)(ho:PE X o td)(he:PE X e ty)(hf:PE X f tx)(m:M2 X o "get" apos e f cpos):PE X (.Call (.Attribute o "get" apos) [e,f] [] cpos) (Jg td ty tx):=by
 intro pins s σ H Q I h
 refine wpAny_Call_method m.base m.few m.line PySem.F.plainAttrs_dict Th PySem.F.type_dict_get (Ae (ho pins s σ H _ I h) fun u s1 zq=>?_)
 obtain ⟨x,H1,I1,rx,a,ex,d,q1⟩:=zq
 subst ex
 obtain rfl:u=Value.ref a:=rx
 obtain ⟨t1,t2,_⟩:=Zgt I1 d
 refine ⟨t1,t2,?_⟩
 rw [m.trees]
 refine Tf rfl (Calls.evalArgs_plain (Rh (Ae (he pins s1 σ H1 _ I1 q1) fun iv s2 ⟨y,H2,I2,ry,q2⟩ =>
  Rh (Ae (hf pins s2 σ H2 _ I2 q2) fun fv s3 ⟨z,H3,I3,rz,ov,g,q3⟩=>Si ?_))))
 exact Zg5 hu I3 g ry rz fun w' s4 I4 rw'=>⟨_,H3,I4,rw',q3⟩
end
section
variable {X:Cx}{pins:List (Addr×Obj)}{σ:St}{H:Hp}{s:Shared}{a:Addr}{kvs:List (Ah×V)}{A:Around}{E:Value->Shared->Prop}
theorem Ze8 {Q:Value->Shared->Prop}(I:Inv X pins σ H s)(e:Rd H a (.dK kvs))(h:∀ p s',H p=none->Inv X pins σ (upd H p (.dK kvs)) s'->Q (.ref p) s'):wpAny (model X.prog X.w) A (call (.type "dict") [.ref a]) Q E s:=by
 obtain ⟨z,hd,vs,rel,dd⟩:=D4 I.hok e
 refine kt_call_dict hd dd (by rw [<- rel.length];exact z) fun h' dd' hs=>?_
 refine h _ _ (I.hok.fresh (Oq _)) (I.laid (a:=s.heap.objs.size) (o:=.dK kvs) (t':=s.toks) (fun b q hq=>?_) (Oq _) (Iz z (beq_eq_false_iff_ne.mpr (O9 (O1 I.big))) rel dd'))
 exact (hs.2 b (O1 (Ow hq))).trans (Ov _ hq)
end
section
variable {X:Cx}{pins:List (Addr×Obj)}{σ:St}{H:Hp}{s:Shared}{a:Addr}{y:V}{u:Value}{A:Around}{E:Value->Shared->Prop}
end
end L2
namespace PySem
namespace F
end F
end PySem
namespace L2
open PySem PySem.Spec PyProof.Rows
section
variable {X:Cx}{pins:List (Addr×Obj)}{σ:St}{H:Hp}{s:Shared}{a:Addr}{y v:V}{u r:Value}{A:Around}{E:Value->Shared->Prop}
theorem Zd9 {H':Hp}{Q:Unit->Shared->Prop}(hu:A.units < cLine)(I:Inv X pins σ H s)(g:DPut H a y v H')(ry:RelV y u)(rv:RelV v r)(h:∀ s',Inv X pins σ H' s'->Pc a s.heap s'.heap->Q () s') :
  wpAny (model X.prog X.w) A (dictSet a u r) Q E s:=by
 rcases g with ⟨kvs,k,e,ey,l,eH⟩ | ⟨kvs,k,b,e,ey,eb,l,eH⟩
 ·subst ey eH
  obtain ⟨z,hd,vs,rel,dd⟩:=Oi I.hok e
  have hz:vs.length<=sizeLine:=by rw [<- rel.length];exact z
  have hl:(A1 kvs k v).length<=sizeLine:=by have:=E2 kvs k v;omega
  refine wpAny_dictSet_pairs (hsz:=hz) (Ei ry) dd fun h' dd' hs=>h _ ?_ hs
  have he:∃ q,h'.get? a=some q:=let ⟨q,_,_,hq,_⟩:=dd';⟨q,hq⟩
  exact Ii I (by rw [e];exact True.intro) hs he (Iz hl hd (rel.put k rv) dd')
 ·subst ey eH
  cases (show u=Value.ref b from ry)
  obtain ⟨z,hd,xs,rel,dd⟩:=L8 I.hok e
  have hz:xs.length<=sizeLine:=by rw [<- Rr rel];exact z
  have hl:(A1 kvs k v).length<=sizeLine:=by have:=E2 kvs k v;omega
  refine wpAny_dictSet_heap (hsz:=hz) hu (Ej I.hok eb) dd fun h' dd' hs=>h _ ?_ hs
  obtain ⟨q,es,ep,hq,h2,h3,h4,_,h5⟩:=dd'
  refine Ii I (by rw [e];exact True.intro) hs ⟨q,hq⟩ ⟨hl,hd,_,(rel.put k eb rv).keeps fun c ys ec=>?_,q,es,ep,hq,h2,h3,h4,h5⟩
  rw [Af (Dl ec e (fun z=>nomatch z))]
  exact ec
end
theorem Room.u1 {k:Nat}{A:Around}(r:Room k A):A.units+1 < cLine:=by have:=r.u200;omega
section
variable {X:Cx}{k:Nat}{x m f:Str}{ps:List Str}{sp:Sp}{E:XK}{C:Addr}{p pos pos' tpos apos:Pos}{e o i value:Expr}{es:List Expr}{ta tv td ty:TE}{t:TA}{CX:Cd}{P:Program}{w:World}{mg:Str->Option Value}{base:Heap}{K:Oo}
theorem Nr (hu:X.A.units+1 < cLine)(ho:QE X o td)(hi:QE X i ty)(hs:Ln i):QE X (.Subscript o i pos) (Iy td ty):=⟨Zc1 hu ho.run hi.run hs⟩
theorem Oh (hu:X.A.units+1 < cLine)(hi:QE X i ty)(ho:QE X o td):QC X .In i o (Ju ty td):=⟨Zee hu hi.run ho.run⟩
noncomputable def J2 (K:Oo):R2:=fun x y H Q=>F5 K x y H Q\/∃(a b:Addr)(xs ys:List V),x=.ref a/\y=.ref b/\H a=some (.tup xs)/\H b=some (.tup ys)/\xs.length+ys.length<=sizeLine/\∀ p H',Same H H'->H' p=some (.tup (xs++ys))->Q (.ref p) H'
theorem Zc4:OpR X (binaryOp .Add) (J2 X.K):=by
 refine op_addA.or ?_
 intro pins s σ H x y v u Q I rx ry h
 obtain ⟨a,b,xs,ys,rfl,rfl,ha,hb,hz,q⟩:=h
 have ha':SqT X.K H a xs:=SqT.of ha
 have hb':SqT X.K H b ys:=SqT.of hb
 by_cases hx:xs=[]
 ·subst hx
  cases rx
  cases ry
  obtain ⟨its,r1,p1,_⟩:=I.tuple ha'
  obtain ⟨its2,r2,p2,_⟩:=I.tuple hb'
  cases r1
  obtain ⟨⟨cls,dd,data,sl⟩,ho,hc,n,hd⟩:=id p1
  obtain ⟨⟨cls2,dd2,data2,sl2⟩,ho2,hc2,n2,hd2⟩:=id p2
  simp only at hc hd hc2 hd2
  subst hc hd hc2 hd2
  exact Sz ⟨_,ho,rfl⟩ ⟨_,ho2,rfl⟩ Sm Sw Sd Sa (R7 _ _)
   (tuple_addW0 a b _ _ n n2 dd dd2 sl sl2 (by simp)) ⟨ho,ho2,⟨.ref b,H,I,rfl,q b H (Same.refl H) hb⟩⟩
 ·refine Mq pins s σ H _ _ v u Q I rx ry ⟨a,b,xs,ys,rfl,rfl,ha',hb',hx,hz,fun e=>?_,fun _ p hp=>q p _ (fun c o e=>by rw [Af (An e hp)];exact e) Ac⟩
  subst e
  exact q a H (Same.refl H) (by rw [P0];exact ha)
theorem Zar (K:Oo)(hK:X.K=K:=by rfl):OpR X (binaryOp .Add) (J2 K):=by subst hK;exact Zc4
theorem Zhj {a b:Addr}{xs ys:List V}{H:Hp}{Q:VK}(ha:H a=some (.tup xs))(hb:H b=some (.tup ys))(hz:xs.length+ys.length<=sizeLine)(h:∀ p H',Same H H'->H' p=some (.tup (xs++ys))->Q (.ref p) H'):J2 K (.ref a) (.ref b) H Q:=.inr ⟨a,b,xs,ys,rfl,rfl,ha,hb,hz,h⟩
theorem s_dget {td ty:TE}{σ:St}{H:Hp}{Q:VK}(h:td σ H fun x H1=>ty σ H1 fun y H2=>∃ a v,x=.ref a/\DGet H2 a y (some v)/\Q v H2):Iy td ty σ H Q:=h
theorem s_din {td ty:TE}{σ:St}{H:Hp}{Q:VK}(h:ty σ H fun y H1=>td σ H1 fun x H2=>∃ a o,x=.ref a/\DGet H2 a y o/\Q (.bl o.isSome) H2):Ju ty td σ H Q:=h
end
end L2
namespace L2
open PySem
noncomputable def RowT (K:Oo)(H:Hp)(v:V)(x:List Nat×Tr):Prop:=∃(a p:Addr)(u:V),v=.ref a/\SqT K H a [.ref p,u]/\H p=some (.tup (A8 x.1))/\TrAt K H u x.2
theorem RowT.same {K:Oo}{H H':Hp}(e:SameT H H')(v:V)(x:List Nat×Tr)(h:RowT K H v x):RowT K H' v x:=by
 obtain ⟨a,p,u,r,q,qp,t⟩:=h
 exact ⟨a,p,u,r,e.tup q,(e p).1 _ qp,t.sameT e⟩
noncomputable def A9 (pl:List Nat):List Ah:=pl.map fun i:Nat=>Sum.inl ((i:Nat):Int)
theorem Iv (pl:List Nat):(A9 pl).map kV=A8 pl:=by unfold A9 A8;rw [List.map_map];rfl
section
variable {K:Oo}{HB H H':Hp}{C:Addr}{kvs:List (List Ah×V)}{L:Ml}{S:MS}
end
section
variable {g:TG}{tt:TT}{te:TE}{σ0:St}{H1:Hp}{D:Addr}{Q:VK}
theorem Zes {K:Oo}{a:Addr}{xs:List V}(Pv:Nat->List V->St->Hp->Prop)(h0:Pv 0 [] σ0 (upd H1 D (.lst [])))(hl:∀ i ys σ H,i<=xs.length->Pv i ys σ H->SqT K H a xs)
  (hs:∀ i x ys σ H,xs[i]?=some x->H D=some (.lst ys)->Pv i ys σ H->Hn g tt te D (Pv (i+1)) x σ H)
  (hd:∀ ys σ H,H D=some (.lst ys)->Pv xs.length ys σ H->Q (.ref D) H):Em (Ef K a) g tt te σ0 H1 D Q:=by
 refine ⟨fun i m σ H=>m=xs.length - i/\i<=xs.length/\∃ ys,H D=some (.lst ys)/\Pv i ys σ H,⟨xs.length,by simp,Pd _,[],Ac,h0⟩,?_⟩
 rintro i m σ H ⟨rfl,hi,ys,hD,p⟩
 have q:=hl i ys σ H hi p
 by_cases hlt:i < xs.length
 ·refine .inr ⟨⟨xs,xs[i],q,by simp [hlt]⟩,fun σ2 H2=>∃ zs,H2 D=some (.lst zs)/\Pv (i+1) zs σ2 H2,fun σ' H' p'=>⟨xs.length - (i+1),by omega,rfl,hlt,p'⟩,fun x H' y=>?_⟩
  obtain ⟨e,y⟩:=y
  subst e
  exact hs i x ys σ _ (y xs q) hD p
 ·have e:i=xs.length:=by omega
  subst e
  exact .inl ⟨⟨xs,q,Oq _⟩,hd ys σ H hD p⟩
end
theorem Ze7 {a b:List Nat}(h:A9 a=A9 b):a=b:=by
 unfold A9 at h
 induction a generalizing b with
 | nil=>cases b with
  | nil=>rfl
  | cons y r=>simp at h
 | cons x l ih=>cases b with
  | nil=>simp at h
  | cons y r =>
   simp only [Pk,List.cons.injEq] at h
   have h1:x=y:=by have:=Sum.inl.inj h.1;omega
   rw [h1,ih h.2]
end L2
namespace L2
open PySem PySem.Spec PyProof.Rows
section
variable {X:Cx}
end
end L2
namespace L2
open PySem PySem.Spec PySem.Calls PySem.W PyProof.Rows
section
variable {X:Cx}
end
end L2
namespace L2
open PySem PySem.Spec PyProof.Rows
section
variable {X:Cx}{c n:Str}{np hpos pos:Pos}{body hbody:List Stmt}{b₀:Stmt}{tb:TXS}{th:TS}{i:Nat}{C:Addr}
end
noncomputable def N9 (tk tv:TE):TE:=fun σ H Q=>∀ p,H p=none->tk σ (upd H p (.dT [])) fun x H1=>tv σ H1 fun y H2=>∃ H3,DPut H2 p x y H3/\Q (.ref p) H3
section
variable {X:Cx}{o i e f k v value:Expr}{pos pos' apos cpos:Pos}{td ty tx tk tv:TE}
theorem Zjp (hu:X.A.units+1 < cLine)(hk:PE X k tk)(hv:PE X v tv):PE X (.Dict [some k] [v] pos) (N9 tk tv):=by
 intro pins s σ H Q I q
 have hn:=I.hok.fresh (Oq s.heap.objs.size)
 have I1:=I.laid (a:=s.heap.objs.size) (o:=.dT []) (h':=s.heap.push { cls:=.type "dict",data:=.dict #[] }) (t':=s.toks) (fun _ _ q=>Ov _ q) (Oq _) (On s.heap I.big)
 show wpAny _ _ (eval (.Dict [some k] [v] pos) X.env) _ _ s
 rw [arm_eval_Dict,zip_pairTrees [some k] [v] X.env pos rfl rfl,dictDisplay_pairs _ (by simp [pairTrees]) (by simp [pairTrees])]
 refine Op (Rs (Op ?_))
 unfold subDict
 refine Op (wpAny_alloc ?_)
 refine Op (Qc ?_)
 rw [if_pos (by simp [pairTrees])]
 refine Op (pairTrees_cons_walk (Ae (hk pins _ σ _ _ I1 (q _ hn)) fun kv s1 zq=>?_))
 obtain ⟨x,H1,I2,rx,q1⟩:=zq
 refine Ae (hv pins s1 σ H1 _ I2 q1) fun vv s2 zq=>?_
 obtain ⟨y,H2,I3,ry,H3,g,q2⟩:=zq
 refine pairTrees_nil_walk ?_
 refine Qc ?_
 rw [Ua]
 refine Op (Op (Op (Zd9 (by omega) I3 g rx ry fun s4 I4 _=>Ot ?_)))
 dsimp only
 rw [List.forIn_nil]
 exact Ot (Ot (Ot (Ot ⟨.ref s.heap.objs.size,H3,I4,rfl,q2⟩)))
theorem Zfe (hu:X.A.units+1 < cLine)(hk:QE X k tk)(hv:QE X v tv):QE X (.Dict [some k] [v] pos) (N9 tk tv):=⟨Zjp hu hk.run hv.run⟩
theorem K6:QE X (.Dict [] [] pos) Mx:=⟨Zem⟩
theorem Zhk:QE X (.Dict [] [] pos) L5:=⟨Ziv⟩
theorem Zce (hu:X.A.units+1 < cLine)(hi:QE X i ty)(ho:QE X o td):QC X .NotIn i o (Ol ty td):=⟨Zjy hu hi.run ho.run⟩
theorem Gm (hu:X.A.units+1 < cLine)(ho:QE X o td)(hi:QE X i ty)(hv:QE X value tv)(hs:swapsWith value (some (.Subscript o i pos')) pos.line X.env=pure false:=by rfl):QS X (.Assign [.Subscript o i pos'] value pos) (K8 td ty tv):=⟨Zja hu ho.run hi.run hv.run hs⟩
theorem Zij (hu:X.A.units+1 < cLine)(ho:QE X o td)(he:QE X e ty)(hf:QE X f tx)(h1:attributeBase o "get" X.env (eval o X.env)=eval o X.env:=by rfl)(h2:((backTo cpos (starEach [e,f] X.env)).all (fun x=>!x.1) && (backToKw cpos (keywordEach [] X.env)).all (fun x=>x.1.isSome) && decide (([e,f]:List Expr).length+([]:List Keyword).length+(if ([]:List Keyword).isEmpty then 0 else 1) < 30))=true:=by rfl)(h3:(apos.endLine == cpos.line)=true:=by rfl)(h4:backTo cpos (starEach [e,f] X.env)=[(false,eval e X.env),(false,eval f X.env)]:=by rfl):QE X (.Call (.Attribute o "get" apos) [e,f] [] cpos) (Jg td ty tx):=⟨Zdr hu ho.run he.run hf.run ⟨h1,h2,h3,h4⟩⟩
end
noncomputable def Zj4:List V->Hp->VK->Prop:=fun xs H Q=>∃ a kvs,xs=[.ref a]/\H a=some (.dK kvs)/\∀ p,H p=none->Q (.ref p) (upd H p (.dK kvs))
theorem Zhm {X:Cx}:B4 X (.type "dict") Zj4:=by
 intro pins s σ H xs us Q I r h
 obtain ⟨a,kvs,rfl,e,q⟩:=h
 obtain ⟨u,rfl,ru⟩:=r.one
 obtain rfl:u=Value.ref a:=ru
 exact Ze8 I (.inl e) fun p s' hp I'=>⟨.ref p,_,I',rfl,q p hp⟩
theorem Ir {X:Cx}{e:Expr}:QE X e (fun _ _ _=>False):=⟨fun _ _ _ _ _ _ h=>h.elim⟩
theorem Ce {X:Cx}{b:List Stmt}:Dc X b (fun _ _ _=>False):=⟨fun _ _ _ _ _ _ h=>h.elim⟩
theorem Zhg {X:Cx}{pos:Pos}{i j:Nat}{x y:Str}{a b:Expr}{ta:TA}{px py pt:Pos}{kt k2 pt2}(hc:X.calm=true)(hN:X.N.Nodup)(hi:X.N[i]?=some x)(hj:X.N[j]?=some y)(hij:i≠j)
  (hx:X.env.scope.names.lookup x=some .local) (hy:X.env.scope.names.lookup y=some .local) (ha:QA X [a,b] ta)
  (hw:swappedStores [.Tuple [.Name x px,.Name y py] kt pt] (.Tuple [a,b] k2 pt2) X.env=pure (some [x,y]):=by rfl)
  (hs:swapsWithSole [.Tuple [.Name x px,.Name y py] kt pt] (.Tuple [a,b] k2 pt2) pos.line X.env=pure false:=by rfl) :
  QS X (.Assign [.Tuple [.Name x px,.Name y py] kt pt] (.Tuple [a,b] k2 pt2) pos) (Ka i j ta):=⟨Zjq hc hN hi hj hij hx hy ha.run hw hs⟩
theorem s_par {i j:Nat}{ta:TA}{D:Cj}{σ:St}{H:Hp}(h:ta σ H fun vs H1=>∃ v w,vs=[v,w]/\D.nx ((σ.set i (some v)).set j (some w)) H1):Ka i j ta D σ H:=h
theorem s_ifE {c:TT}{ta tb:TE}{σ:St}{H:Hp}{Q:VK}(h:c σ H fun b H1=>if b=true then ta σ H1 Q else tb σ H1 Q):tIf c ta tb σ H Q:=h
theorem Zg7 {b:Bool}{P Q:Prop}(hb:b=false)(h:Q):if b=true then P else Q:=by rw [if_neg (by rw [hb];decide)];exact h
theorem s_dput {td ty tv:TE}{D:Cj}{σ:St}{H:Hp}(h:tv σ H fun v H1=>td σ H1 fun x H2=>ty σ H2 fun y H3=>∃ a H4,x=.ref a/\DPut H3 a y v H4/\D.nx σ H4):K8 td ty tv D σ H:=h
theorem s_dget2 {td ty tx:TE}{σ:St}{H:Hp}{Q:VK}(h:td σ H fun x H1=>∃ a,x=.ref a/\DcD H1 a/\ty σ H1 fun y H2=>tx σ H2 fun z H3=>∃ o,DGet H3 a y o/\Q (o.getD z) H3):Jg td ty tx σ H Q:=h
theorem Jp {t:TS}{X:St->Hp->Prop}{rt:VK}{bk ct:St->Hp->Prop}{σ:St}{H:Hp}(R:St->Hp->Prop)(h1:∀ Y:St->Hp->Prop,(∀ σ' H',R σ' H'->Y σ' H')->t ⟨Y,rt,bk,ct⟩ σ H)(h2:∀ σ' H',R σ' H'->X σ' H'):t ⟨X,rt,bk,ct⟩ σ H:=h1 X h2
theorem viaE {t:TE}{Q:VK}{σ:St}{H:Hp}(R:V->Hp->Prop)(h1:∀ Y:VK,(∀ v H',R v H'->Y v H')->t σ H Y)(h2:∀ v H',R v H'->Q v H'):t σ H Q:=h1 Q h2
section
variable {X:Cx}
noncomputable def rEqW (K:Oo):R2:=fun x y H Q=>∃(a c:Addr)(z w:Str),x=.ref a/\y=.ref c/\SqT K H a [.str z]/\SqT K H c [.str w]/\Q (.bl (decide (z=w))) H
theorem Zhp (hu:X.A.units+200 < cLine):OpR X (compareOp .Eq) (rEqW X.K):=by
 intro pins s σ H x y v u Q I rx ry h
 obtain ⟨a,c,z,w,rfl,rfl,hx,hy,q⟩:=h
 cases rx
 cases ry
 obtain ⟨its,r1,p1,_⟩:=I.tuple hx
 obtain ⟨its2,r2,p2,_⟩:=I.tuple hy
 obtain ⟨u1,rfl,t1,rfl⟩:=r1.one
 obtain ⟨u2,rfl,t2,rfl⟩:=r2.one
 refine T1 (e:=fun _=>z == w) p1 p2 (by omega) (fun j h1 h2=>?_) ?_
 ·have e1:j=0:=by simp at h1;omega
  subst e1
  exact O0.str_str _ _ _ _
 ·have e:((O2 (min ([Value.str z t1]:List Value).toArray.size ([Value.str w t2]:List Value).toArray.size)).all (fun _=>z == w) && ([Value.str z t1]:List Value).toArray.size == ([Value.str w t2]:List Value).toArray.size)=decide (z=w):=by
   simp [List.range_succ]
   rfl
  rw [e]
  exact ⟨.bl _,H,I,rfl,q⟩
noncomputable def Hh (K:Oo):R2:=fun x y H Q=>Ia K x y H Q\/rEqW K x y H Q
theorem I0 (K:Oo)(hu:X.A.units+200 < cLine)(hK:X.K=K:=by rfl):OpR X (compareOp .Eq) (Hh K):=by subst hK;exact (Nf _ hu).or (Zhp hu)
theorem Zbp {K:Oo}{x y:V}{H:Hp}{Q:VK}(hs:E4 x y=true)(h:Q (.bl (decide (x=y))) H):Hh K x y H Q:=.inl (Zjc hs h)
theorem Zb9 {K:Oo}{a c:Addr}{xs ys:List Int}{H:Hp}{Q:VK}(hx:SqT K H a (xs.map V.int))(hy:SqT K H c (ys.map V.int))(h:Q (.bl (decide (xs=ys))) H):Hh K (.ref a) (.ref c) H Q:=.inl (Zah hx hy h)
theorem Zcz {K:Oo}{a c:Addr}{z w:Str}{H:Hp}{Q:VK}(hx:SqT K H a [.str z])(hy:SqT K H c [.str w])(h:Q (.bl (decide (z=w))) H):Hh K (.ref a) (.ref c) H Q:=.inr ⟨a,c,z,w,rfl,rfl,hx,hy,h⟩
end
noncomputable def E6 (K:Oo)(a b:Addr):It :=
 ⟨fun _ _=>False,fun _ _ _ _=>False,fun i H=>SqL K H a []/\SqL K H b []/\i=0⟩
theorem Zcb {P:Program}{w:World}{K:Oo}{elts:List Expr}{kt:Nat}{pt:Pos}(a b z TI TO i1 i2:Addr)(D:ZB z TI TO i1 i2 a b) :
  Dm P w K (.Tuple elts kt pt) (E6 K a b) [z,TI,TO,i1,i2] z (fun i h=>IsZip h z TI TO .none/\IsPair h TI (.ref i1) (.ref i2)/\(∃ u v,IsPair h TO u v)/\h.IsListIter i1 a i/\h.IsListIter i2 b i) where
 mem:=by simp
 obj:=fun i h st c hc=>by
  obtain ⟨q1,q2,⟨u,v,q3⟩,q4,q5⟩:=st
  simp only [Oy,Pm,or_false] at hc
  rcases hc with rfl | rfl | rfl | rfl | rfl
  ·exact ⟨_,q1,fun v z=>by cases z⟩
  ·exact ⟨_,q2,fun v z=>by cases z⟩
  ·exact ⟨_,q3,fun v z=>by cases z⟩
  ·obtain ⟨o,e,c,d⟩:=q4
   exact ⟨o,e,fun v z=>by rw [d] at z;cases z⟩
  ·obtain ⟨o,e,c,d⟩:=q5
   exact ⟨o,e,fun v z=>by rw [d] at z;cases z⟩
 keep:=fun i h h' st k=>by
  obtain ⟨q1,q2,⟨u,v,q3⟩,q4,q5⟩:=st
  exact ⟨k z (by simp) _ q1,k TI (by simp) _ q2,⟨u,v,k TO (by simp) _ q3⟩,q4.at fun o e=>k i1 (by simp) o e,q5.at fun o e=>k i2 (by simp) o e⟩
 item:=by
  intro X hP hw hK hc i pins s σ H E I hf st hg
  exact hg.elim
 done:=by
  intro X hP hw hK hc i pins s σ H E I hf st hg
  subst hP hw hK
  obtain ⟨hx,hy,rfl⟩:=hg
  obtain ⟨its,rv,p,hz⟩:=I.list hx
  obtain ⟨its2,rv2,p2,hz2⟩:=I.list hy
  have g1:=rv.length
  have g2:=rv2.length
  obtain ⟨q1,q2,⟨u,v,q3⟩,q4,q5⟩:=st
  have hh:X.A.in1.handled=none:=I.ok.hd hc
  have D1:=Draws.list (prog:=X.prog) (w:=X.w) (A:=X.A.in1) hh i1 a D.a1 its.toArray
  have D2:=Draws.list (prog:=X.prog) (w:=X.w) (A:=X.A.in1) hh i2 b D.b2 its2.toArray
  refine Zdd D1 D2 D.za q1 q2 q3 ⟨q4,p.isList⟩ ⟨q5,p2.isList⟩ (by simp only [Ou];rw [<- g1];exact .inl rfl) fun h' tk kk=>⟨rfl,I.turnedL (fun b o hb e=>?_) hf⟩
  simp only [Oy,Pm,or_false,not_or] at hb
  exact kk b o hb.1 hb.2.2.1 hb.2.2.2.1 hb.2.2.2.2 e
 self:=fun A i s Q E st h=>wpAny_pyIter_zip st.1 h
section
variable {X:Cx}
noncomputable def Zbg (K:Oo)(ta:TA):TI:=fun σ H R=>ta σ H fun vs H1=>∃ a b,vs=[.ref a,.ref b]/\SqL K H1 a []/\SqL K H1 b []/\R (E6 K a b) H1
theorem Zh1 (K:Oo){elts:List Expr}{kt:Nat}{pt:Pos}{e e2:Expr}{ta:TA}{p pos:Pos}(hg:Gl X "zip")(hm:X.mg "zip" = none)(ha:QA X [e,e2] ta)(hK:X.K=K:=by rfl)
  (hs:starEach [e,e2] X.env=[(false,eval e X.env),(false,eval e2 X.env)]:=by rfl) (hs2:starEach [e2] X.env=[(false,eval e2 X.env)]:=by rfl):QI X (.Tuple elts kt pt) (.Call (.Name "zip" p) [e,e2] [] pos) (Zbg K ta):=by
 subst hK
 refine ⟨fun pins s σ H R I h=>?_⟩
 refine Call_ (C4 I hg hm PyProof.Rows.boot_zip (Pw (Ae (ha.run pos pins s σ H _ I h) fun us s1 ⟨vs,H1,I1,r1,q1⟩=>?_) (by rw [hs,hs2]) (by rw [hs2];rfl)))
 obtain ⟨a,b,e1,hq,hq2,q⟩:=q1
 subst e1
 obtain ⟨u,v,rfl,ru,rv⟩:=r1.two
 cases ru
 cases rv
 obtain ⟨its,rv,pl,hz⟩:=I1.list hq
 obtain ⟨its2,rv2,pl2,hz2⟩:=I1.list hq2
 have lt1:a < s1.heap.objs.size:=by obtain ⟨o,e,_⟩:=id pl.isList;exact Ow e
 have lt2:b < s1.heap.objs.size:=by obtain ⟨o,e,_⟩:=id pl2.isList;exact Ow e
 refine Zim (b:=false) (show ZIn false s1.heap a its.toArray from pl.isList) (show s1.heap.IsList b its2.toArray from pl2.isList) fun h' a1 a2 a3 a4 a5 a6 hk=>?_
 refine wpAny_pyIter_zip a1 ?_
 have fr:∀ k,FpOk X pins H1 (s1.heap.objs.size+k):=fun k=>I1.fpOk (Sn _ _) (I1.hok.fresh (Sn _ _))
 refine ⟨_,[s1.heap.objs.size+4,s1.heap.objs.size+2,s1.heap.objs.size+3,s1.heap.objs.size,s1.heap.objs.size+1],_,_,H1,rfl,I1.kept (t':=s1.toks) hk,Zcb a b _ _ _ _ _ (Zgy lt1 lt2),⟨a1,a2,⟨_,_,a3⟩,a4,a5⟩,fun c hc=>?_,q⟩
 simp only [Oy,Pm,or_false] at hc
 rcases hc with rfl | rfl | rfl | rfl | rfl
 ·exact fr 4
 ·exact fr 2
 ·exact fr 3
 ·exact fr 0
 ·exact fr 1
theorem s_izip0 {K:Oo}{ta:TA}{σ:St}{H:Hp}{R:It->Hp->Prop}(h:ta σ H fun vs H1=>∃ a b,vs=[.ref a,.ref b]/\SqL K H1 a []/\SqL K H1 b []/\R (E6 K a b) H1):Zbg K ta σ H R:=h
theorem Zc9 {K:Oo}{a b:Addr}{nx:St->Hp->Prop}{B:(St->Hp->Prop)->V->St->Hp->Prop}{σ:St}{H:Hp}(ha:SqL K H a [])(hb:SqL K H b [])(hd:nx σ H) :
  ∃ W:Nat->Nat->St->Hp->Prop,(∃ m,W 0 m σ H)/\∀ i m σ H,W i m σ H ->
   ((E6 K a b).stop i H/\nx σ H)\/((E6 K a b).go i H/\∃ N:St->Hp->Prop,(∀ σ' H',N σ' H'->∃ m',m' < m/\W (i+1) m' σ' H')/\∀ x H',(E6 K a b).yld i H x H'->B N x σ H'):=by
 refine ⟨fun i _ σ' H'=>i=0/\σ'=σ/\H'=H,⟨0,rfl,rfl,rfl⟩,?_⟩
 rintro i m σ H ⟨rfl,rfl,rfl⟩
 exact .inl ⟨⟨ha,hb,rfl⟩,hd⟩
theorem Zd2 {K:Oo}{a:Addr}{nx:St->Hp->Prop}{B:(St->Hp->Prop)->V->St->Hp->Prop}{σ:St}{H:Hp}(ha:SqT K H a [])(hd:nx σ H) :
  ∃ W:Nat->Nat->St->Hp->Prop,(∃ m,W 0 m σ H)/\∀ i m σ H,W i m σ H ->
   ((Ef K a).stop i H/\nx σ H)\/((Ef K a).go i H/\∃ N:St->Hp->Prop,(∀ σ' H',N σ' H'->∃ m',m' < m/\W (i+1) m' σ' H')/\∀ x H',(Ef K a).yld i H x H'->B N x σ H'):=by
 refine ⟨fun i _ σ' H'=>i=0/\σ'=σ/\H'=H,⟨0,rfl,rfl,rfl⟩,?_⟩
 rintro i m σ H ⟨rfl,rfl,rfl⟩
 exact .inl ⟨⟨[],ha,Oq _⟩,hd⟩
end
section
variable {g:TG}{tt:TT}{te:TE}{σ0:St}{H1:Hp}{D:Addr}{Q:VK}
theorem Zha {K:Oo}{a:Addr}(ha:SqT K (upd H1 D (.lst [])) a [])(hd:Q (.ref D) (upd H1 D (.lst []))):Em (Ef K a) g tt te σ0 H1 D Q :=
 Zes (xs:=[]) (Pv:=fun _ _ _ H'=>H'=upd H1 D (.lst [])) rfl (fun _ _ _ _ _ e=>by rw [e];exact ha) (fun _ _ _ _ _ h=>by simp at h) fun _ _ _ _ e=>by rw [e];exact hd
theorem Mb {K:Oo}{a:Addr}(ha:SqL K (upd H1 D (.lst [])) a [])(hd:Q (.ref D) (upd H1 D (.lst []))):Em (D5 K a) g tt te σ0 H1 D Q :=
 Gv (xs:=[]) (Pv:=fun _ _ _ H'=>H'=upd H1 D (.lst [])) rfl (fun _ _ _ _ _ e=>by rw [e];exact ha) (fun _ _ _ _ _ h=>by simp at h) fun _ _ _ _ e=>by rw [e];exact hd
end
end L2
local macro_rules | `(tactic| walk_at "sc")=>`(tactic| exact ⟨rfl,rfl,rfl,by decide +kernel,rfl,by decide +kernel,by decide +kernel⟩)
namespace L2
open PySem PySem.Spec PyProof.Rows
theorem Bf:0<=sizeLine:=by decide
theorem Cn:1<=sizeLine:=by decide
theorem Cc:2<=sizeLine:=by decide
theorem Bu:3<=sizeLine:=by decide
theorem sz4:4<=sizeLine:=by decide
theorem sz5:5<=sizeLine:=by decide
theorem Room.m {j k:Nat}{A:Around}(r:Room k A)(h:j<=k:=by decide):Room j A:=r.mono h
section
variable {X:Cx}{a b:Expr}{ta tb:TE}{pos:Pos}{K:Oo}
theorem Ao (i:Nat){ps:List Str}{sc:Scope}{x:Str}{e:Expr}{te:TE}{pos':Pos}(S:Bg X.N ps sc)(he:QE X e te)(hi:X.N[i]?=some x:=by rfl)(hx:Dg X.env.scope x:=by exact Or.inl rfl)(hs:swapsWith e (some (.Name x pos')) pos.line X.env=pure false:=by rfl)(hf:X.fn x=true\/X.env.scope.names.lookup x=some .local:=by first | exact .inl rfl | exact .inr rfl | assumption):QS X (.Assign [.Name x pos'] e pos) (D6 te (D8 i)):=Hj S.nd hi hx he hs hf
theorem Ak (K:Oo)(ha:QE X a ta)(hb:QE X b tb)(hs:K9 b:=by exact fun _ _=>rfl)(hK:X.K=K:=by rfl):QE X (.Subscript a b pos) (Dd (rIx K) ta tb):=Zjr (k_ix K hK) ha hb hs
end
end L2
namespace K33
theorem lz1 {α:Type}{vs:List α}(h:vs.length=1):∃ u,vs=[u]:=by
 cases vs with
 | nil=>cases h
 | cons u r=>cases Tb (Nat.succ.inj h);exact ⟨u,rfl⟩
theorem lz2 {α:Type}{vs:List α}(h:vs.length=2):∃ u v,vs=[u,v]:=by
 cases vs with
 | nil=>cases h
 | cons u r=>obtain ⟨v,rfl⟩:=lz1 (Nat.succ.inj h);exact ⟨u,v,rfl⟩
end K33
namespace K33
open PySem L2
noncomputable def Aj (i:Nat):Stmt:=Qn.main.body.getD i (.Pass ⟨0,0,0,0⟩)
noncomputable abbrev G0:Stmt:=Aj 7
noncomputable abbrev Fx:Stmt:=Aj 11
noncomputable abbrev F7:Stmt:=Aj 19
noncomputable abbrev Ge:Stmt:=Aj 20
noncomputable abbrev Fs:Stmt:=Aj 21
noncomputable abbrev Gy:Stmt:=Aj 22
noncomputable abbrev Go:Stmt:=Aj 23
noncomputable abbrev Fy:Stmt:=Aj 24
noncomputable abbrev Gw:Stmt:=Aj 25
noncomputable abbrev Gi:Stmt:=Aj 26
noncomputable abbrev F4:Stmt:=Aj 27
noncomputable abbrev Gg:Stmt:=Aj 30
noncomputable abbrev Fz:Stmt:=Aj 31
noncomputable abbrev F8:Stmt:=Aj 32
noncomputable abbrev G6:Stmt:=Aj 34
noncomputable abbrev E3:Stmt:=Aj 35
noncomputable abbrev Ft:Stmt:=Aj 36
noncomputable abbrev E7:Stmt:=Aj 37
noncomputable abbrev F9:Stmt:=Aj 38
noncomputable abbrev G3:Stmt:=Aj 39
structure Txt (K:Oo)(mg:Str->Option Value):Prop where
 isinstance:mg "isinstance" = none
 int:mg "int" = none
 bool:mg "bool" = none
 reversed:mg "reversed" = none
 list:mg "list" = none
 enumerate:mg "enumerate" = none
 len:mg "len" = none
 dict:mg "dict" = none
 zip:mg "zip" = none
 tuple:mg "tuple" = none
 str:mg "str" = none
 range:mg "range" = none
structure Script (K:Oo)(H:Hp)(a:Addr):Prop where
 ex:∃ ns:List Int,SqL K H a (ns.map V.int)/\ns.length<=63
theorem Script.same {K:Oo}{H H':Hp}{a:Addr}(S:Script K H a)(h:Same H H'):Script K H' a:=by
 obtain ⟨ns,q,l⟩:=S.ex
 exact ⟨ns,h.seq q,l⟩
theorem big:100000<=sizeLine:=by decide
noncomputable def WN:List Str:=["num", "plus", "minus"]
noncomputable def WT:List Str:=["truth", "less"]
noncomputable def WO:List Str:=["plus", "minus", "less"]
noncomputable def WA:List Str:=["num", "truth", "gap", "plus", "minus", "less", "if"]
noncomputable def ar (w:Str):Nat:=if w = "if" then 3 else if w∈WO then 2 else 0
inductive Pt:Tr->Prop where
 | mk {w:Str} {n:Dt} {ts:List Tr} (hw:w∈WA) (hl:ts.length=ar w) (h:∀ t∈ts,Pt t):Pt (.mk w n ts)
theorem G8 {w:Str}(h:w∈WA):w = "num" \/ w = "truth" \/ w = "gap" \/ w = "plus" \/ w = "minus" \/ w = "less" \/ w = "if" := by simpa [WA] using h
noncomputable def gv (w:Str)(a:Option Bool):Option Bool:=if w∈WN then some false else if w∈WT then some true else a
noncomputable def wish (w:Str)(a:Option Bool)(k:Nat):Option Bool:=if w = "if" then (if k=0 then some true else a) else some false
noncomputable abbrev Rw:=List Nat×Option Bool×Option Bool
mutual
noncomputable def Am:List Nat->Option Bool->Tr->List Rw
 | pl,a,.mk w _ ts=>(pl,gv w a,a)::Bm pl w a 0 ts
noncomputable def Bm:List Nat->Str->Option Bool->Nat->List Tr->List Rw
 | _,_,_,_,[]=>[]
 | pl,w,a,i,t::r=>Am (pl++[i]) (wish w a i) t++Bm pl w a (i+1) r
end
noncomputable def mk (r:Rw):Str:=if r.1=[]\/r.2.1=r.2.2 then "" else "unlike"
noncomputable def kd (b:Bool):Str:=cond b "truth" "num"
noncomputable def kn (b:Bool):Nat:=cond b 1 0
noncomputable def gk (w:Str)(m:Nat):Nat:=if w∈WN then 0 else if w∈WT then 1 else m
noncomputable def nx (w:Str)(m:Nat):Nat:=if w∈WN then m else if w∈WT then m else m+1
noncomputable def ak (w:Str)(g i:Nat):Nat:=if w = "if" then (if i=0 then 1 else g) else 0
noncomputable def A5 (w:Str)(g:Nat):List Nat:=if w = "if" then [1,g,g] else if w∈WO then [0,0] else []
mutual
noncomputable def Bv:Nat->Tr->Nat
 | m,.mk w _ ts=>C2 (nx w m) ts
noncomputable def C2:Nat->List Tr->Nat
 | m,[]=>m
 | m,t::r=>C2 (Bv m t) r
end
mutual
noncomputable def Bk:Nat->Option Nat->Tr->List (Nat×Nat)
 | m,a,.mk w _ ts=>(gk w m,a.getD (gk w m))::Cz (nx w m) w (gk w m) 0 ts
noncomputable def Cz:Nat->Str->Nat->Nat->List Tr->List (Nat×Nat)
 | _,_,_,_,[]=>[]
 | m,w,g,i,t::r=>Bk m (some (ak w g i)) t++Cz (Bv m t) w g (i+1) r
end
theorem Jf (w:Str)(m:Nat):m<=nx w m:=by unfold nx;split <;> (try split) <;> omega
mutual
theorem Lu:∀(m:Nat)(t:Tr),m<=Bv m t
 | m,.mk w _ ts=>by rw [Bv];exact Pa (Jf w m) (G2 _ _)
theorem G2:∀(m:Nat)(ts:List Tr),m<=C2 m ts
 | m,[]=>by rw [C2];exact Oq _
 | m,t::r=>by rw [C2];exact Pa (Lu m t) (G2 _ _)
end
noncomputable abbrev Dn:=List Nat->Option Nat
noncomputable def Bq (D:Dn)(pl:List Nat):Nat->List Nat->Dn
 | _,[]=>D
 | i,a::r=>Bq (fun q=>if q=pl++[i] then some a else D q) pl (i+1) r
theorem Oa (pl:List Nat)(a:Nat):∀(xs:List Nat)(D:Dn)(i:Nat),Bq D pl i (xs++[a])=fun q=>if q=pl++[i+xs.length] then some a else Bq D pl i xs q
 | [],D,i=>by simp [Bq]
 | x::r,D,i=>by
  rw [T2,Bq,Oa pl a r _ (i+1),Bq,O8]
  have:i+1+r.length=i+(r.length+1):=by omega
  rw [this]
theorem Za9 {pl:List Nat}{i j:Nat}(h:pl++[i]=pl++[j]):i=j:=by simpa using h
theorem La (pl q:List Nat)(h:∀ j,q≠pl++[j]):∀(xs:List Nat)(D:Dn)(i:Nat),Bq D pl i xs q=D q
 | [],D,i=>rfl
 | x::r,D,i=>by rw [Bq,La pl q h r];exact if_neg (h i)
theorem Nv (pl:List Nat):∀(xs:List Nat)(D:Dn)(i j:Nat),j < i->Bq D pl i xs (pl++[j])=D (pl++[j])
 | [],D,i,j,_=>rfl
 | x::r,D,i,j,h=>by rw [Bq,Nv pl r _ _ _ (by omega)];exact if_neg fun e=>by have:=Za9 e;omega
theorem Zaw (pl:List Nat):∀(xs:List Nat)(D:Dn)(i j:Nat),j < xs.length->Bq D pl i xs (pl++[i+j])=xs[j]?
 | [],D,i,j,h=>by simp at h
 | x::r,D,i,0,h=>by rw [Bq,Nat.add_zero,Nv pl r _ _ _ (by omega)];simp
 | x::r,D,i,j+1,h=>by
  have:=Zaw pl r (fun q=>if q=pl++[i] then some x else D q) (i+1) j (by simpa using h)
  rw [Bq,show i+(j+1)=i+1+j by omega,this]
  simp
theorem Mf (pl:List Nat):∀(xs:List Nat)(D:Dn)(i j:Nat),i+xs.length<=j->Bq D pl i xs (pl++[j])=D (pl++[j])
 | [],D,i,j,_=>rfl
 | x::r,D,i,j,h=>by
  rw [O8] at h
  rw [Bq,Mf pl r _ _ _ (by omega)]
  exact if_neg fun e=>by have:=Za9 e;omega
theorem Zhe {pl:List Nat}{xs:List Nat}{D:Dn}{j:Nat}(h:xs.length<=j):Bq D pl 0 xs (pl++[j])=D (pl++[j]):=Mf pl xs D 0 j (by omega)
inductive Kin:List (List Nat×Tr)->Nat->Dn->List (Nat×Nat)->Nat->Dn->Prop where
 | nil {m:Nat} {D:Dn}:Kin [] m D [] m D
 | cons {pl:List Nat} {w:Str} {n:Dt} {ts:List Tr} {rs:List (List Nat×Tr)} {m m':Nat} {D D':Dn} {ps:List (Nat×Nat)} (hp:pl=[]\/(D pl).isSome) (hw:w∈WA) (hl:ts.length=ar w) (k:Kin rs (nx w m) (Bq D pl 0 (A5 w (gk w m))) ps m' D') :
   Kin ((pl,.mk w n ts)::rs) m D ((gk w m,(D pl).getD (gk w m))::ps) m' D'
theorem Kin.app {r1 r2:List (List Nat×Tr)}{m1 m2 m3:Nat}{D1 D2 D3:Dn}{p1 p2:List (Nat×Nat)}(a:Kin r1 m1 D1 p1 m2 D2)(b:Kin r2 m2 D2 p2 m3 D3):Kin (r1++r2) m1 D1 (p1++p2) m3 D3:=by
 induction a with
 | nil=>exact b
 | cons hp hw hl _ ih=>exact .cons hp hw hl (ih b)
theorem Gp (w:Str)(g:Nat):(A5 w g).length=ar w:=by
 unfold A5 ar
 split
 ·rfl
 ·split <;> rfl
theorem Ziq {w:Str}{g j:Nat}(h:j < ar w):(A5 w g)[j]?=some (ak w g j):=by
 unfold ar at h
 unfold A5 ak
 split
 ·rename_i e
  rw [if_pos e] at h
  match j,h with
  | 0,_=>rfl
  | 1,_=>rfl
  | 2,_=>rfl
 ·rename_i e
  rw [if_neg e] at h
  split
  ·rename_i e2
   rw [if_pos e2] at h
   match j,h with
   | 0,_=>rfl
   | 1,_=>rfl
  ·rename_i e2
   rw [if_neg e2] at h
   omega
mutual
theorem kinT:∀(t:Tr)(pl:List Nat)(m:Nat)(D:Dn),Pt t->(pl=[]\/(D pl).isSome)->∃ D',(∀ q,(∀ j,¬ pl++[j] <+: q)->D' q=D q)/\Kin (walk pl t) m D (Bk m (D pl) t) (Bv m t) D'
 | .mk w n ts,pl,m,D,h,hp=>by
  cases h with
  | mk hw hl h =>
  obtain ⟨D',f,k⟩:=kinL ts pl w (gk w m) 0 (nx w m) (Bq D pl 0 (A5 w (gk w m))) h (fun j _ hj=>by
   have h2:j < ar w:=by omega
   have:=Zaw pl (A5 w (gk w m)) D 0 j (by rw [Gp];exact h2)
   rw [Nat.zero_add] at this
   rw [this,Ziq h2])
  refine ⟨D',fun q hq=>?_,?_⟩
  ·rw [f q fun j _=>hq j]
   exact La pl q (fun j e=>hq j (by rw [e];exact List.prefix_rfl)) _ _ _
  ·rw [walk,Bk,Bv]
   exact .cons hp hw hl k
theorem kinL:∀(ts:List Tr)(pl:List Nat)(w:Str)(g i m:Nat)(D:Dn),(∀ t∈ts,Pt t)->(∀ j,i<=j->j < i+ts.length->D (pl++[j])=some (ak w g j))->∃ D',(∀ q,(∀ j,i<=j->¬ pl++[j] <+: q)->D' q=D q)/\Kin (Bj pl i ts) m D (Cz m w g i ts) (C2 m ts) D'
 | [],pl,w,g,i,m,D,_,_=>⟨D,fun _ _=>rfl,by rw [Bj,Cz,C2];exact .nil⟩
 | t::r,pl,w,g,i,m,D,h,hD=>by
  have e0:=hD i (Oq _) (by simp)
  obtain ⟨D1,f1,k1⟩:=kinT t (pl++[i]) m D (h t (by simp)) (.inr (by rw [e0];rfl))
  rw [e0] at k1
  obtain ⟨D2,f2,k2⟩:=kinL r pl w g (i+1) (Bv m t) D1 (fun x hx=>h x (by simp [hx])) (fun j h1 h2=>by
   rw [f1 _ fun j' e=>by have:=e.length_le;simp at this]
   exact hD j (by omega) (by simp;omega))
  refine ⟨D2,fun q hq=>?_,?_⟩
  ·rw [f2 q fun j hj=>hq j (by omega),f1 q fun j e=>hq i (Oq _) (List.IsPrefix.trans ⟨[j],rfl⟩ e)]
  ·rw [Bj,Cz,C2]
   exact k1.app k2
end
noncomputable abbrev Va:=Nat->Option Bool
noncomputable def Dw (v:Va)(g:Nat)(b:Bool):Va:=fun i=>if i=g then some b else v i
inductive Fit:List (Nat×Nat)->Va->List Bool->Va->Prop where
 | nil {v:Va}:Fit [] v [] v
 | old {g a:Nat} {b c:Bool} {ps:List (Nat×Nat)} {v v':Va} {fs:List Bool} (hg:v g=some c) (ha:v a=some b) (k:Fit ps v fs v'):Fit ((g,a)::ps) v ((c == b)::fs) v'
 | new {g a:Nat} {b:Bool} {ps:List (Nat×Nat)} {v v':Va} {fs:List Bool} (hg:v g=none) (ha:v a=some b) (k:Fit ps (Dw v g b) fs v'):Fit ((g,a)::ps) v (true::fs) v'
theorem Fit.app {p1 p2:List (Nat×Nat)}{v1 v2 v3:Va}{f1 f2:List Bool}(a:Fit p1 v1 f1 v2)(b:Fit p2 v2 f2 v3):Fit (p1++p2) v1 (f1++f2) v3:=by
 induction a with
 | nil=>exact b
 | old hg ha _ ih=>exact .old hg ha (ih b)
 | new hg ha _ ih=>exact .new hg ha (ih b)
structure VOk (v:Va)(m:Nat):Prop where
 n0:v 0=some false
 n1:v 1=some true
 m2:2<=m
 fr:∀ i,m<=i->v i=none
structure Res (ps:List (Nat×Nat))(ds:List Rw)(v:Va)(m m':Nat)(v':Va):Prop where
 fit:Fit ps v (ds.map fun r=>r.2.1 == r.2.2) v'
 low:∀ i,i < m->v' i=v i
 ok:VOk v' m'
 lt:∀ p∈ps,p.1 < m'/\p.2 < m'
 val:∀ v2:Va,(∀ i,i < m'->v2 i=v' i)->ps.map (fun p=>(v2 p.1,v2 p.2))=ds.map fun r=>(r.2.1,r.2.2)
theorem Zhi {w:Str}(h:w∈WT):w ∉ WN:=by
 simp only [WT,Oy,Pm,or_false] at h
 rcases h with rfl | rfl <;> decide
theorem Mz {w:Str}(m:Nat)(a:Option Bool)(h:w∈WN\/w∈WT):∃ c:Bool,gk w m=cond c 1 0/\gv w a=some c/\nx w m=m:=by
 unfold gk gv nx
 by_cases h1:w∈WN
 ·exact ⟨false,by simp [h1],by simp [h1],by simp [h1]⟩
 ·have h2:=h.resolve_left h1
  exact ⟨true,by simp [h1,h2],by simp [h1,h2],by simp [h1,h2]⟩
theorem Zgi {w:Str}(m:Nat)(a:Option Bool)(h1:w ∉ WN)(h2:w ∉ WT):gk w m=m/\gv w a=a/\nx w m=m+1:=by
 unfold gk gv nx
 simp [h1,h2]
theorem VOk.old {v:Va}{m:Nat}(h:VOk v m)(c:Bool):v (cond c 1 0)=some c:=by
 cases c
 ·exact h.n0
 ·exact h.n1
mutual
theorem fitT:∀(t:Tr)(pl:List Nat)(m a:Nat)(b:Bool)(v:Va),Pt t->VOk v m->a < m->v a=some b->∃ v',Res (Bk m (some a) t) (Am pl (some b) t) v m (Bv m t) v'
 | .mk w n ts,pl,m,a,b,v,h,ok,ha,hb=>by
  cases h with
  | mk hw hl h =>
  rw [Bk,Am,Bv]
  have key:∃ v1:Va,∃ c:Bool,gv w (some b)=some c/\v1 (gk w m)=some c/\(∀ i,i < m->v1 i=v i)/\VOk v1 (nx w m)/\gk w m < nx w m/\(∀ ps fs v',Fit ps v1 fs v'->Fit ((gk w m,a)::ps) v ((some c == some b)::fs) v'):=by
   by_cases h0:w∈WN\/w∈WT
   ·obtain ⟨c,e1,e2,e3⟩:=Mz m (some b) h0
    refine ⟨v,c,e2,by rw [e1];exact ok.old c,fun _ _=>rfl,by rw [e3];exact ok,?_,fun ps fs v' k=>?_⟩
    ·rw [e1,e3]
     have:=ok.m2
     cases c
     ·show 0 < m;omega
     ·show 1 < m;omega
    ·have:(some c == some b)=(c == b):=by cases c <;> cases b <;> rfl
     rw [this]
     exact .old (by rw [e1];exact ok.old c) hb k
   ·obtain ⟨e1,e2,e3⟩:=Zgi m (some b) (fun x=>h0 (.inl x)) (fun x=>h0 (.inr x))
    have m2:=ok.m2
    refine ⟨Dw v m b,b,e2,by rw [e1];exact if_pos rfl,fun i hi=>if_neg (by omega),?_,by omega,fun ps fs v' k=>?_⟩
    ·rw [e3]
     exact ⟨(if_neg (by omega)).trans ok.n0,(if_neg (by omega)).trans ok.n1,by omega,fun i hi=>(if_neg (by omega)).trans (ok.fr i (by omega))⟩
    ·have:(some b == some b)=true:=by cases b <;> rfl
     rw [this,e1]
     exact .new (ok.fr m (Oq _)) hb k
  obtain ⟨v1,c,e1,e2,low1,ok1,lg,fit1⟩:=key
  have hc:∀ i,wish w (some b) i≠none:=fun i=>by unfold wish;split <;> (try split) <;> simp
  have hask:∀ i,i < ts.length->ak w (gk w m) i < nx w m/\v1 (ak w (gk w m) i)=wish w (some b) i:=fun i hi=>by
   have h2:=ok1.m2
   unfold ak wish
   split
   ·rename_i e
    split
    ·exact ⟨by omega,ok1.n1⟩
    ·refine ⟨lg,?_⟩
     rw [e2,<- e1,e]
     cases b <;> decide
   ·exact ⟨by omega,ok1.n0⟩
  obtain ⟨v',R⟩:=Ix ts pl w (gk w m) (some b) 0 (nx w m) v1 h ok1 hc fun i _ hi=>hask i (by omega)
  have n1:=Jf w m
  have n2:=G2 (nx w m) ts
  refine ⟨v',⟨?_,fun i hi=>?_,R.ok,?_,fun v2 h2=>?_⟩⟩
  ·rw [Pk,e1]
   exact fit1 _ _ _ R.fit
  ·rw [R.low i (by omega),low1 i hi]
  ·intro p hp
   rcases Oy.mp hp with rfl | hp
   ·exact ⟨by show gk w m < _;omega,by show a < _;omega⟩
   ·exact R.lt p hp
  ·rw [Pk,Pk,R.val v2 h2]
   congr 1
   show (v2 (gk w m),v2 a)=(gv w (some b),some b)
   rw [h2 _ (by omega),h2 a (by omega),R.low _ (by omega),R.low a (by omega),e2,e1,low1 a ha,hb]
theorem Ix:∀(ts:List Tr)(pl:List Nat)(w:Str)(g:Nat)(b:Option Bool)(i m:Nat)(v:Va),(∀ t∈ts,Pt t)->VOk v m->(∀ i,wish w b i≠none)->(∀ j,i<=j->j < i+ts.length->ak w g j < m/\v (ak w g j)=wish w b j)->∃ v',Res (Cz m w g i ts) (Bm pl w b i ts) v m (C2 m ts) v'
 | [],pl,w,g,b,i,m,v,_,ok,_,_=>by
  rw [Cz,Bm,C2]
  exact ⟨v,.nil,fun _ _=>rfl,ok,fun p hp=>(by cases hp),fun _ _=>rfl⟩
 | t::r,pl,w,g,b,i,m,v,h,ok,hb,hk=>by
  rw [Cz,Bm,C2]
  obtain ⟨l1,e1⟩:=hk i (Oq _) (by simp)
  obtain ⟨c,hc⟩:=Q9.mp (hb i)
  rw [hc] at e1
  obtain ⟨v1,R1⟩:=fitT t (pl++[i]) m (ak w g i) c v (h t (by simp)) ok l1 e1
  rw [hc]
  have n1:=Lu m t
  obtain ⟨v2,R2⟩:=Ix r pl w g b (i+1) (Bv m t) v1 (fun x hx=>h x (by simp [hx])) R1.ok hb (fun j h1 h2=>by
   obtain ⟨l2,e2⟩:=hk j (by omega) (by simp;omega)
   exact ⟨by omega,by rw [R1.low _ l2,e2]⟩)
  have n2:=G2 (Bv m t) r
  refine ⟨v2,⟨?_,fun i hi=>?_,R2.ok,?_,fun v3 h3=>?_⟩⟩
  ·rw [Ps]
   exact R1.fit.app R2.fit
  ·rw [R2.low i (by omega),R1.low i hi]
  ·intro p hp
   rcases Pr.mp hp with hp | hp
   ·have:=R1.lt p hp
    omega
   ·exact R2.lt p hp
  ·rw [Ps,Ps,R2.val v3 h3,R1.val v3 fun i hi=>by rw [h3 i (by omega),R2.low i hi]]
end
noncomputable def v0:Va:=fun i=>if i=0 then some false else if i=1 then some true else none
theorem v0_ok:VOk v0 2:=⟨rfl,rfl,Oq _,fun i h=>by unfold v0;rw [if_neg (by omega),if_neg (by omega)]⟩
noncomputable def Di (ds:List Rw):List Rw:=match ds with
 | []=>[]
 | r::rs=>(r.1,r.2.1,r.2.1)::rs
theorem Zix {w:Str}{n:Dt}{ts:List Tr}(h:Pt (.mk w n ts))(hw:w∈WO):∃ v',Res (Bk 2 none (.mk w n ts)) (Di (Am [] none (.mk w n ts))) v0 2 (Bv 2 (.mk w n ts)) v':=by
 cases h with
 | mk hw' hl h =>
 have h0:w∈WN\/w∈WT:=by
  simp only [WO,Oy,Pm,or_false] at hw
  rcases hw with rfl | rfl | rfl <;> decide
 have hni:w ≠ "if" := by
  rintro rfl
  revert hw
  decide
 obtain ⟨c,e1,e2,e3⟩:=Mz 2 none h0
 have hask:∀ i,0<=i->i < 0+ts.length->ak w (gk w 2) i < 2/\v0 (ak w (gk w 2) i)=wish w none i:=fun i _ hi=>by
  unfold ak wish
  rw [if_neg hni,if_neg hni]
  exact ⟨by omega,rfl⟩
 obtain ⟨v',R⟩:=Ix ts [] w (gk w 2) none 0 2 v0 h v0_ok (fun i=>by unfold wish;rw [if_neg hni];simp) hask
 rw [Bk,Am,Bv,e3]
 have n2:=G2 2 ts
 have hg:gk w 2 < 2:=by rw [e1];cases c <;> decide
 have eg:v0 (gk w 2)=some c:=by rw [e1];exact v0_ok.old c
 refine ⟨v',⟨?_,R.low,R.ok,?_,fun v2 h2=>?_⟩⟩
 ·show Fit _ _ (((gv w none == gv w none)::_)) _
  rw [e2]
  have:(some c == some c)=(c == c):=by cases c <;> rfl
  rw [this]
  exact .old eg eg R.fit
 ·intro p hp
  rcases Oy.mp hp with rfl | hp
  ·exact ⟨by show gk w 2 < _;omega,by show gk w 2 < _;omega⟩
  ·exact R.lt p hp
 ·show (v2 (gk w 2),v2 (gk w 2))::_=(gv w none,gv w none)::_
  rw [R.val v2 h2,h2 _ (by omega),R.low _ hg,eg,e2]
mutual
theorem Zj1:∀(t:Tr)(pl:List Nat)(a:Option Bool)(r:Rw),a≠none->r∈Am pl a t->r.2.2≠none
 | .mk w _ ts,pl,a,r,ha,h=>by
  rw [Am] at h
  rcases Oy.mp h with rfl | h
  ·exact ha
  ·exact Lk ts pl w a 0 r (fun i=>by unfold wish;split <;> (try split) <;> simp [ha]) h
theorem Lk:∀(ts:List Tr)(pl:List Nat)(w:Str)(a:Option Bool)(i:Nat)(r:Rw),(∀ i,wish w a i≠none)->r∈Bm pl w a i ts->r.2.2≠none
 | [],_,_,_,_,r,_,h=>by rw [Bm] at h;cases h
 | t::ts,pl,w,a,i,r,hw,h=>by
  rw [Bm] at h
  rcases Pr.mp h with h | h
  ·exact Zj1 t _ _ r (hw i) h
  ·exact Lk ts pl w a (i+1) r hw h
end
theorem Oj {w:Str}(hw:w∈WO):w ≠ "if" := by
 rintro rfl
 revert hw
 decide
theorem Zei {t:Tr}{r:Rw}(h0:r.1≠[])(hw:t.wd∈WO)(h:r∈Am [] none t):r.2.2≠none:=by
 cases t with
 | mk w n ts =>
 rw [Am] at h
 rcases Oy.mp h with rfl | h
 ·exact absurd rfl h0
 ·exact Lk ts [] w none 0 r (fun i=>by unfold wish;rw [if_neg (show w ≠ "if" from Oj hw)];simp) h
mutual
theorem Eb:∀(pl:List Nat)(a:Option Bool)(t:Tr),(Am pl a t).map (·.1)=(walk pl t).map (·.1)
 | pl,a,.mk w _ ts=>by rw [Am,walk,Pk,Pk,Zav pl w a 0 ts]
theorem Zav:∀(pl:List Nat)(w:Str)(a:Option Bool)(i:Nat)(ts:List Tr),(Bm pl w a i ts).map (·.1)=(Bj pl i ts).map (·.1)
 | _,_,_,_,[]=>by rw [Bm,Bj];rfl
 | pl,w,a,i,t::r=>by rw [Bm,Bj,Ps,Ps,Eb,Zav]
end
mutual
theorem Zbf:∀(m:Nat)(a:Option Nat)(t:Tr)(pl:List Nat),(Bk m a t).length=(walk pl t).length
 | m,a,.mk w _ ts,pl=>by rw [Bk,walk,O8,O8,N5 _ w _ 0 ts pl]
theorem N5:∀(m:Nat)(w:Str)(g i:Nat)(ts:List Tr)(pl:List Nat),(Cz m w g i ts).length=(Bj pl i ts).length
 | _,_,_,_,[],_=>by rw [Cz,Bj];rfl
 | m,w,g,i,t::r,pl=>by rw [Cz,Bj,O3,O3,Zbf _ _ t,N5]
end
end K33
local macro_rules | `(tactic| walk_at "r1")=>`(tactic| (first | (with_reducible first | refine L2.s_seq ?_ | refine L2.s_asg ?_ | refine L2.s_ret ?_ | refine L2.s_ifS ?_ | refine L2.s_ifE ?_ | refine L2.s_dget ?_ | refine L2.s_din ?_ | refine L2.s_dput ?_ | refine L2.s_dget2 ?_ | refine L2.s_izip0 ?_ | refine L2.s_par ?_ | refine L2.s_test ?_ | refine L2.s_op ?_ | refine L2.s_c ?_ | refine L2.s_cons ?_ | refine L2.s_nil ?_ | refine L2.s_call ?_ | refine L2.s_cb ?_ | refine L2.s_gname ?_ | refine L2.s_ex ?_ | refine L2.s_exi ?_ | refine L2.s_drop ?_ | refine L2.s_next ?_ | refine L2.s_un ?_ | refine L2.s_tB ?_ | refine L2.s_not ?_ | refine L2.s_and ?_ | refine L2.s_or ?_ | refine L2.s_andV ?_ | refine L2.s_orV ?_ | refine L2.s_notV ?_ | refine L2.s_vals ?_ | refine L2.s_tup ?_ | refine L2.s_lst ?_ | refine L2.s_bm ?_ | refine L2.s_bm0 ?_ | refine L2.s_sl ?_ | refine L2.s_po ?_ | refine L2.s_po0 ?_ | refine L2.s_gcons ?_ | refine L2.s_gnil ?_ | refine L2.s_gsub ?_ | refine L2.s_isN ?_ | refine L2.s_notN ?_ | refine L2.s_rI0 ?_ | refine L2.s_rU ?_ | refine L2.s_add_int ?_ | refine L2.s_lt ?_ | refine L2.s_le ?_ | refine L2.iteT ?_ | refine L2.iteF ?_ | refine L2.s_comp ?_ | refine L2.s_for ?_ | refine L2.s_rng1 ?_ | refine L2.s_rng3 ?_ | refine L2.s_exr ?_ | refine L2.s_iany ?_ | refine L2.s_irev ?_ | refine L2.s_ienum ?_ | refine L2.s_listen ?_ | refine L2.s_listrev ?_ | refine L2.s_izip ?_ | refine L2.s_ienumT ?_ | refine L2.s_listzp ?_ | refine L2.s_ipI ?_ | refine L2.s_yes ?_ | refine L2.s_turn ?_ | refine L2.s_int_b ?_ | refine L2.s_intb ?_ | refine L2.s_truth ?_ | refine L2.s_chain ?_ | refine L2.s_nt ?_ | refine L2.s_nf ?_) | ((with_reducible refine' L2.s_var ?e ?_); (case e=>exact rfl)) | ((with_reducible refine' L2.s_aug ?e ?_); (case e=>exact rfl)) | ((with_reducible refine' L2.s_eq ?e ?_); (case e=>exact rfl)) | ((with_reducible refine' L2.s_ne ?e ?_); (case e=>exact rfl)) | ((with_reducible refine' L2.s_neb ?e ?_); (case e=>exact rfl)) | ((with_reducible refine' L2.s_rI ?c ?_); (case c=>first | decide | exact ⟨by decide,by decide⟩ | exact ⟨by decide,by decide,by decide⟩)) | ((with_reducible refine' L2.s_mul_r ?a ?b ?_); (case a=>decide); (case b=>decide)) | ((with_reducible refine' L2.s_mul_l ?a ?b ?_); (case a=>decide); (case b=>decide)) | ((with_reducible refine' L2.s_exr3 ?e ?_); (case e=>decide))))
local macro_rules | `(tactic| walk_at "r")=>`(tactic| (repeat walk_at "r1"))
local macro_rules | `(tactic| walk_at "q")=>`(tactic| (repeat (first | (with_reducible first | refine L2.s_gcons ?_ | refine L2.s_gname ?_ | refine L2.s_gnil ?_ | refine L2.s_seq ?_ | refine L2.s_asg ?_ | refine L2.s_c ?_ | refine L2.s_lst ?_ | refine L2.s_tup ?_ | refine L2.s_cons ?_ | refine L2.s_nil ?_) | ((with_reducible refine' L2.s_var ?e ?_); (case e=>exact rfl)))))
namespace K33
open PySem L2
section
variable {P:Program}{w:World}{K:Oo}{mg:Str->Option Value}{base:Heap}
noncomputable def Za4 (K:Oo):Sp:=fun vs H Q _=>∃(a:Addr)(k:Int),vs=[.ref a,.int k]/\Script K H a/\0<=k/\∀ z:Int,Q (.int z) H
theorem Zdq:Bg ["_law_script", "_law_k"] ["_law_script", "_law_k"] (A3 G6):=by walk_at "sc"
theorem Zec {f:Addr}{fd:FuncData}(F:Fun K "_law_cell_at" "_law_cell_at" G6 f fd)(T:Txt K mg):Az P w K mg base A0 1 f fd ["_law_script", "_law_k"] (Za4 K):=by
 refine F.okq Zdq (fun vs H Q E h=>?_) (fun cdv A outer s H vs Q E hr h=>?_)
 ·obtain ⟨a,k,rfl,_⟩:=h
  rfl
 ·obtain ⟨a,k,rfl,S,h0,q⟩:=h
  obtain ⟨ns,hS,hl⟩:=S.ex
  refine ⟨_,Ad (As (Ax Ms (qv 1) (Bp (Cp K) (by rfl) T.len (by decide +kernel) (Aa (qv 0) Ab)) (Aw _)) (Ai (Ar (Ak K (qv 0) (qv 1)))) Ay)
   (Ai (Ar Ag)),?_⟩
  walk_at "r"
  refine C7 hS ?_
  walk_at "r"
  refine Bx (fun h=>?_) (fun h=>?_)
  ·have h1:k < (ns.map V.int).length:=by simpa using h
   obtain ⟨v,hv,m⟩:=Zgr h0 h1
   obtain ⟨z,_,rfl⟩:=P3.mp m
   walk_at "r"
   exact Bh hS hv (q z)
  ·walk_at "r"
   exact q _
noncomputable def Ep (K:Oo)(n:Nat):Sp:=fun vs H Q _=>∃(x y:V)(d:Dt)(m:Nat),vs=[x,y]/\m < n/\IsD K H m x d/\IsD K H m y d/\Cq d/\∀ H',Same H H'->Q (.bl true) H'
theorem sc_law_same:Bg ["_law_found", "_law_due_here", "_law_k"] ["_law_found", "_law_due_here"] (A3 E3):=by walk_at "sc"
theorem Zd0 {n:Nat}{f:Addr}{fd:FuncData}(F:Fun K "_law_same" "_law_same" E3 f fd)(T:Txt K mg)(C__law_same:A6 P w K mg base (n+1) "_law_same" ["_law_found", "_law_due_here"] (Ep K n)):Az P w K mg base A0 (n+2) f fd ["_law_found", "_law_due_here"] (Ep K (n+1)):=by
 refine F.okq sc_law_same (fun vs H Q E h=>?_) (fun cdv A outer s H vs Q E hr h=>?_)
 ·obtain ⟨x,y,d,m,rfl,_⟩:=h
  rfl
 ·obtain ⟨x,y,d,m,rfl,hm,hx,hy,hd,q⟩:=h
  refine ⟨_,Ad (As (Dy (Bp (C8 K "bool") (by rfl) T.isinstance (by decide +kernel) (Aa (qv 1) (Aa (Db (v:=.ty "bool") (by rfl) T.bool (by decide +kernel) rfl) Ab)))) (Ai (Ar (Hm (Bp (C8 K "bool") (by rfl) T.isinstance (by decide +kernel) (Aa (qv 0) (Aa (Db (v:=.ty "bool") (by rfl) T.bool (by decide +kernel) rfl) Ab))) (Jk (Gj (Bd K hr.u200) (qv 0) (qv 1) (Aw _)))))) Ay)
   (Ad (As (Dy (Bp (C8 K "int") (by rfl) T.isinstance (by decide +kernel) (Aa (qv 1) (Aa (Db (v:=.ty "int") (by rfl) T.int (by decide +kernel) rfl) Ab)))) (Ai (Ar (Hm (Bp (C8 K "int") (by rfl) T.isinstance (by decide +kernel) (Aa (qv 0) (Aa (Db (v:=.ty "int") (by rfl) T.int (by decide +kernel) rfl) Ab))) (Hm (Zcv (Bp (C8 K "bool") (by rfl) T.isinstance (by decide +kernel) (Aa (qv 0) (Aa (Db (v:=.ty "bool") (by rfl) T.bool (by decide +kernel) rfl) Ab)))) (Jk (Gj (Bd K hr.u200) (qv 0) (qv 1) (Aw _))))))) Ay)
   (Ad (As (Dy (Bp (C8 K "str") (by rfl) T.isinstance (by decide +kernel) (Aa (qv 1) (Aa (Db (v:=.ty "str") (by rfl) T.str (by decide +kernel) rfl) Ab)))) (Ai (Ar (Hm (Bp (C8 K "str") (by rfl) T.isinstance (by decide +kernel) (Aa (qv 0) (Aa (Db (v:=.ty "str") (by rfl) T.str (by decide +kernel) rfl) Ab))) (Jk (Gj (Bd K hr.u200) (qv 0) (qv 1) (Aw _)))))) Ay)
   (Ad (As (Fg (Hl (qv 1))) (Ai (Ar (Ng (Hl (qv 0))))) Ay)
   (Ad (As (Dy (Bp (C8 K "tuple") (by rfl) T.isinstance (by decide +kernel) (Aa (qv 1) (Aa (Db (v:=.ty "tuple") (by rfl) T.tuple (by decide +kernel) rfl) Ab)))) (Ai (As (Gn (Dy (Bp (C8 K "tuple") (by rfl) T.isinstance (by decide +kernel) (Aa (qv 0) (Aa (Db (v:=.ty "tuple") (by rfl) T.tuple (by decide +kernel) rfl) Ab))))) (Ai (Ar Dx)) Ay)) (Ai (As (Gn (Dy (Bp (C8 K "list") (by rfl) T.isinstance (by decide +kernel) (Aa (qv 0) (Aa (Db (v:=.ty "list") (by rfl) T.list (by decide +kernel) rfl) Ab))))) (Ai (Ar Dx)) Ay)))
   (Ad (As (Ax (Jn K hr.u200) (Bp (Cp K) (by rfl) T.len (by decide +kernel) (Aa (qv 0) Ab)) (Bp (Cp K) (by rfl) T.len (by decide +kernel) (Aa (qv 1) Ab)) (Aw _)) (Ai (Ar Dx)) Ay)
   (Ad (Da Ph rfl (Hu rfl T.range (Aa (Bp (Cp K) (by rfl) T.len (by decide +kernel) (Aa (qv 1) Ab)) Ab)) (Av (i:=2) sc_law_same.nd rfl (Or.inl rfl)) (Ai (As (Gn (Dy (Bc C__law_same (hr.mono (by omega)) (Aa (Ak K (qv 0) (qv 2)) (Aa (Ak K (qv 1) (qv 2)) Ab))))) (Ai (Ar Dx)) Ay)))
   (Ai (Ar Dx)))))))),?_⟩
  have bg:=big
  cases hx with
  | flat hv =>
   cases hy with
   | flat _ =>
   cases x with
   | non =>
    walk_at "r"
    refine Ci (b:=false) .non rfl ?_
    walk_at "r"
    refine Ci (b:=false) .non rfl ?_
    walk_at "r"
    refine Ci (b:=false) .non rfl ?_
    walk_at "r"
    rw [decide_eq_true (Eq.refl _)]
    walk_at "r"
    exact q H (Same.refl _)
   | bl b =>
    walk_at "r"
    refine Ci (b:=true) (.bl b) rfl ?_
    walk_at "r"
    refine Ci (b:=true) (.bl b) rfl ?_
    walk_at "r"
    rw [decide_eq_true (Eq.refl _)]
    walk_at "r"
    exact q H (Same.refl _)
   | int b =>
    walk_at "r"
    refine Ci (b:=false) (.int b) rfl ?_
    walk_at "r"
    refine Ci (b:=true) (.int b) rfl ?_
    walk_at "r"
    refine Ci (b:=true) (.int b) rfl ?_
    walk_at "r"
    refine Ci (b:=false) (.int b) rfl ?_
    walk_at "r"
    rw [decide_eq_true (Eq.refl _)]
    walk_at "r"
    exact q H (Same.refl _)
   | str b =>
    walk_at "r"
    refine Ci (b:=false) (.str b) rfl ?_
    walk_at "r"
    refine Ci (b:=false) (.str b) rfl ?_
    walk_at "r"
    refine Ci (b:=true) (.str b) rfl ?_
    walk_at "r"
    refine Ci (b:=true) (.str b) rfl ?_
    walk_at "r"
    rw [decide_eq_true (Eq.refl _)]
    walk_at "r"
    exact q H (Same.refl _)
   | _=>exact absurd hv (by simp [B6])
  | @tup k a vs ds qa la ha =>
   cases hy with
   | @tup _ c ws _ qc lc hc =>
   cases hd with
   | tup hl hds =>
   have eN:decide (V.ref c=V.non)=false:=decide_eq_false (fun z=>by cases z)
   walk_at "r"
   refine G1 (b:=false) qc rfl ?_
   walk_at "r"
   refine G1 (b:=false) qc rfl ?_
   walk_at "r"
   refine G1 (b:=false) qc rfl ?_
   walk_at "r"
   rw [eN]
   walk_at "r"
   refine G1 (b:=true) qc rfl ?_
   walk_at "r"
   refine G1 (b:=true) qa rfl ?_
   walk_at "r"
   refine Gb qa ?_
   walk_at "r"
   refine Gb qc ?_
   walk_at "r"
   rw [la,lc,decide_eq_true (Eq.refl _)]
   walk_at "r"
   refine Gb qc ?_
   walk_at "r"
   rw [lc]
   refine ⟨by omega,by omega,?_⟩
   refine Lv (n:=(ds.length:Int).toNat) (fun i σ' H'=>∃ v2,σ'=[some (.ref a),some (.ref c),v2]/\Same H H') ⟨none,rfl,Same.refl _⟩ ?_ ?_
   ·rintro i σ' H' hi ⟨v2,rfl,sm⟩
    have hi:i < ds.length:=by omega
    have e0:(0:Int)+(i:Int)=((i:Nat):Int):=by omega
    rw [e0]
    have hiv:i < vs.length:=by omega
    have hiw:i < ws.length:=by omega
    walk_at "r"
    refine Au (sm.tup qa) (Ct (Os hiv)) ?_
    walk_at "r"
    refine Au (sm.tup qc) (Ct (Os hiw)) ?_
    walk_at "r"
    refine ⟨vs[i],ws[i],ds[i],k,rfl,by omega,(ha i _ _ (Os hiv) (Os hi)).same sm,(hc i _ _ (Os hiw) (Os hi)).same sm,hds _ (Rm hi),fun H2 s2=>?_⟩
    walk_at "r"
    exact ⟨_,rfl,sm.trans s2⟩
   ·rintro σ' H' ⟨v2,rfl,sm⟩
    walk_at "r"
    exact q H' sm
  | @lst k a vs ds qa la ha =>
   cases hy with
   | @lst _ c ws _ qc lc hc =>
   cases hd with
   | lst hl hds =>
   have eN:decide (V.ref c=V.non)=false:=decide_eq_false (fun z=>by cases z)
   walk_at "r"
   refine Gr (b:=false) qc rfl ?_
   walk_at "r"
   refine Gr (b:=false) qc rfl ?_
   walk_at "r"
   refine Gr (b:=false) qc rfl ?_
   walk_at "r"
   rw [eN]
   walk_at "r"
   refine Gr (b:=false) qc rfl ?_
   walk_at "r"
   refine Gr (b:=true) qa rfl ?_
   walk_at "r"
   refine C7 qa ?_
   walk_at "r"
   refine C7 qc ?_
   walk_at "r"
   rw [la,lc,decide_eq_true (Eq.refl _)]
   walk_at "r"
   refine C7 qc ?_
   walk_at "r"
   rw [lc]
   refine ⟨by omega,by omega,?_⟩
   refine Lv (n:=(ds.length:Int).toNat) (fun i σ' H'=>∃ v2,σ'=[some (.ref a),some (.ref c),v2]/\Same H H') ⟨none,rfl,Same.refl _⟩ ?_ ?_
   ·rintro i σ' H' hi ⟨v2,rfl,sm⟩
    have hi:i < ds.length:=by omega
    have e0:(0:Int)+(i:Int)=((i:Nat):Int):=by omega
    rw [e0]
    have hiv:i < vs.length:=by omega
    have hiw:i < ws.length:=by omega
    walk_at "r"
    refine Bh (sm.seq qa) (Ct (Os hiv)) ?_
    walk_at "r"
    refine Bh (sm.seq qc) (Ct (Os hiw)) ?_
    walk_at "r"
    refine ⟨vs[i],ws[i],ds[i],k,rfl,by omega,(ha i _ _ (Os hiv) (Os hi)).same sm,(hc i _ _ (Os hiw) (Os hi)).same sm,hds _ (Rm hi),fun H2 s2=>?_⟩
    walk_at "r"
    exact ⟨_,rfl,sm.trans s2⟩
   ·rintro σ' H' ⟨v2,rfl,sm⟩
    walk_at "r"
    exact q H' sm
noncomputable def ShL (H:Hp)(v:V)(ms:List Int):Prop:=∃ p,v=.ref p/\H p=some (.lst (ms.map V.int))
noncomputable def Cg (mss:List (List Int)):Nat:=(mss.map S8).sum
theorem Zeq (mss:List (List Int))(ms:List Int):Cg (mss++[ms])=Cg mss+ms.length:=by simp [Cg]
noncomputable def K2 (K:Oo):Sp:=fun vs H Q _=>∃(a:Addr)(ns:List Int)(m:Nat)(z:Int),vs=[.ref a,.int (m:Nat),.int z]/\H a=some (.lst (ns.map V.int))/\ns.length<=63/\(m=2\/m=3) /\
 ∀(L:Addr)(us:List V)(mss:List (List Int))(H':Hp),Same H H'->H' L=some (.lst us)->Al (ShL H') us mss->mss.length=m->Cg mss=ns.length->Q (.ref L) H'
theorem L1 (ns:List Int)(lo hi:Option Int):∃ ms:List Int,Br (ns.map V.int) lo hi=ms.map V.int/\ms.length=min (HT.sIx ns.length ns.length hi - HT.sIx ns.length 0 lo) (ns.length - HT.sIx ns.length 0 lo):=by
 unfold Br
 rw [Ox,<- List.map_drop,<- List.map_take]
 exact ⟨_,rfl,by rw [Pz,Rk]⟩
theorem Zbr (ns:List Int)(lo hi:Nat)(h1:lo<=hi)(h2:hi<=ns.length):∃ ms:List Int,Br (ns.map V.int) (some (lo:Int)) (some (hi:Int))=ms.map V.int/\ms.length=hi - lo:=by
 obtain ⟨ms,e,l⟩:=L1 ns (some (lo:Int)) (some (hi:Int))
 refine ⟨ms,e,?_⟩
 rw [l,HT.sIx_nat,HT.sIx_nat]
 omega
noncomputable def ShJ (H:Hp)(D:Addr)(n:Nat)(ys:List V)(H':Hp)(i:Nat):Prop:=∃ mss,Al (fun v ms=>∃ p,v=.ref p/\p≠D/\H' p=some (.lst (ms.map V.int))) ys mss/\mss.length=i/\Cg mss=n/\Same H H'
theorem ShJ.put {H H' H2:Hp}{D p:Addr}{n n' i:Nat}{ys:List V}{ms:List Int}{o:HO}(h:ShJ H D n ys H' i)(hD:H D=none)(s:Same H' H2)(np:p≠D)(e:H2 p=some (.lst (ms.map V.int)))(hn:n+ms.length=n'):ShJ H D n' (ys++[.ref p]) (upd H2 D o) (i+1):=by
 obtain ⟨mss,al,hl,ht,sm⟩:=h
 refine ⟨mss++[ms],(al.mono ?_).snoc ⟨p,rfl,np,by rw [Af np];exact e⟩,by simp [hl],by rw [Zeq,ht,hn],(sm.trans s).over hD⟩
 rintro v x ⟨q,rfl,nq,eq⟩
 exact ⟨q,rfl,nq,by rw [Af nq];exact s _ _ eq⟩
theorem ShJ.fin {H H':Hp}{D:Addr}{n i:Nat}{ys:List V}(h:ShJ H D n ys H' i):∃ mss,Al (ShL H') ys mss/\mss.length=i/\Cg mss=n/\Same H H':=by
 obtain ⟨mss,al,hl,ht,sm⟩:=h
 exact ⟨mss,al.mono fun v x ⟨q,e,_,eq⟩=>⟨q,e,eq⟩,hl,ht,sm⟩
theorem ShJ.nil {H:Hp}{D:Addr}(hD:H D=none){o:HO}:ShJ H D 0 [] (upd H D o) 0:=⟨[],.nil,rfl,rfl,Same.upd hD⟩
theorem Zdh:(["_law_k", "_law_rest", "_law_at"]:List Str).Nodup:=by decide +kernel
theorem Zfi:(["_law_k", "_law_rest", "_law_many", "_law_size"]:List Str).Nodup:=by decide +kernel
theorem sc_law_shares:Bg ["_law_rest", "_law_many", "_law_turn", "_law_at", "_law_size"] ["_law_rest", "_law_many", "_law_turn"] (A3 Ft):=by walk_at "sc"
theorem Zdx {f:Addr}{fd:FuncData}(F:Fun K "_law_shares" "_law_shares" Ft f fd)(T:Txt K mg):Az P w K mg base A0 1 f fd ["_law_rest", "_law_many", "_law_turn"] (K2 K):=by
 refine F.okq sc_law_shares (fun vs H Q E h=>?_) (fun cdv A outer s H vs Q E hr h=>?_)
 ·obtain ⟨a,ns,m,z,rfl,_⟩:=h
  rfl
 ·obtain ⟨a,ns,m,z,rfl,ha,hn,hm,q⟩:=h
  refine ⟨_,Ad (As (Ax (Bd K hr.u200) (Ba Ea (qv 2) Ag) Ag (Aw _)) (Ad (Hj (i:=3) sc_law_shares.nd rfl (Or.inr rfl) (Ba Ea (Ba Fk (qv 2) Ag) (qv 1)))
   (Ai (Ar (Ew (N:=["_law_k", "_law_rest", "_law_at"]) (σ0:=Cm 1 [0,3]) rfl (De rfl (by decide +kernel) (by decide +kernel) (by decide +kernel)) (Hu rfl T.range (Aa (qv 1) Ab)) (Df rfl (by rfl)) (fun _ _ _ _=>Av (i:=0) Zdh rfl (Or.inl rfl)) (fun _ _ _ _=>E9) (fun _ _ _ _=>G5 (Ax (Bd K hr.u200) (qv 0) (qv 2) (Aw _)) (qv 1) (Bb Ab)))))) Ay)
   (Ad (Hj (i:=4) sc_law_shares.nd rfl (Or.inr rfl) (Bp (Cp K) (by rfl) T.len (by decide +kernel) (Aa (qv 0) Ab)))
   (Ai (Ar (Ew (N:=["_law_k", "_law_rest", "_law_many", "_law_size"]) (σ0:=Cm 1 [0,1,4]) rfl (De rfl (by decide +kernel) (by decide +kernel) (by decide +kernel)) (Hu rfl T.range (Aa (qv 1) Ab)) (Df rfl (by rfl)) (fun _ _ _ _=>Av (i:=0) Zfi rfl (Or.inl rfl)) (fun _ _ _ _=>E9) (fun _ _ _ _=>Fd (Fc K) (qv 1) (Dj (Ba Fk (Ba Hr (qv 3) (qv 0)) (qv 2))) (Dj (Ba Fk (Ba Hr (qv 3) (Ba (F3 K) (qv 0) Ag)) (qv 2)))))))),?_⟩
  have bg:=big
  have m0:(0:Int) < (m:Int):=by omega
  have m3:m<=3:=by omega
  walk_at "r"
  refine Bx (fun _=>?_) (fun _=>?_)
  ·walk_at "r"
   refine s_rI m0 ?_
   have z0:=Int.emod_nonneg (z / 3) (show (m:Int)≠0 by omega)
   have z1:=Int.emod_lt_of_pos (z / 3) m0
   generalize z / 3 % (m:Int)=k at z0 z1
   walk_at "r"
   refine ⟨by omega,by omega,fun D hD=>?_⟩
   have nD:=An ha hD
   refine Om (n:=(m:Int).toNat) (Pv:=fun i ys σ' H'=>∃ kv,σ'=[kv,some (.ref a),some (.int k)]/\ShJ H D (if k < (i:Int) then ns.length else 0) ys H' i) ⟨none,rfl,by rw [if_neg (by omega)];exact ShJ.nil hD⟩ ?_ ?_
   ·rintro i ys σ' H' hi hys ⟨kv,rfl,J⟩
    have hyl:ys.length=i:=by obtain ⟨mss,al,hl,_⟩:=J;rw [al.1,hl]
    have sm:Same H H':=by obtain ⟨mss,_,_,_,sm⟩:=J;exact sm
    walk_at "r"
    refine Bx (fun c=>?_) (fun c=>?_)
    ·have c:(0:Int)+(i:Int)=k:=by simpa using c
     walk_at "r"
     refine ⟨_,hys,by omega,_,Ac,_,rfl,J.put hD (Same.refl _) nD (sm _ _ ha) ?_⟩
     have n1:¬ k < (i:Int):=by omega
     have n2:k < ((i+1:Nat):Int):=by omega
     rw [if_neg n1,if_pos n2]
     omega
    ·have c:¬ (0:Int)+(i:Int)=k:=fun e=>c (by simpa using e)
     walk_at "r"
     refine ⟨Bf,fun p hp=>?_⟩
     have np:p≠D:=(An hys hp).symm
     refine ⟨_,(Same.upd hp) _ _ hys,by omega,_,Ac,_,rfl,J.put (ms:=[]) hD (Same.upd hp) np Ac ?_⟩
     by_cases h1:k < (i:Int)
     ·have n2:k < ((i+1:Nat):Int):=by omega
      rw [if_pos h1,if_pos n2]
      rfl
     ·have n2:¬ k < ((i+1:Nat):Int):=by omega
      rw [if_neg h1,if_neg n2]
      rfl
   ·rintro ys σ' H' hys ⟨kv,rfl,J⟩
    rw [if_pos (by omega)] at J
    obtain ⟨mss,al,hl,ht,sm⟩:=J.fin
    exact q D ys mss H' sm hys al (by omega) ht
  ·walk_at "r"
   refine C7 (SqL.of ha) ?_
   walk_at "r"
   refine ⟨by omega,by omega,fun D hD=>?_⟩
   have nD:=An ha hD
   have cast:∀ i:Nat,(((ns.map V.int).length:Nat):Int) * (i:Int) / (m:Int)=((ns.length * i / m:Nat):Int):=fun i=>by rw [Ox];push_cast;rfl
   have mono:∀ i:Nat,ns.length * i / m<=ns.length * (i+1) / m:=fun i=>Nat.div_le_div_right (Nat.mul_le_mul_left _ (by omega))
   have Aj:∀ i:Nat,i<=m->ns.length * i / m<=ns.length:=fun i hi=>Nat.div_le_of_le_mul (by rw [Nat.mul_comm m];exact Nat.mul_le_mul_left _ hi)
   refine Om (n:=(m:Int).toNat) (Pv:=fun i ys σ' H'=>∃ kv,σ'=[kv,some (.ref a),some (.int (m:Nat)),some (.int ((ns.map V.int).length:Nat))]/\ShJ H D (ns.length * i / m) ys H' i) ⟨none,rfl,by rw [Nat.mul_zero,Nat.zero_div];exact ShJ.nil hD⟩ ?_ ?_
   ·rintro i ys σ' H' hi hys ⟨kv,rfl,J⟩
    have hyl:ys.length=i:=by obtain ⟨mss,al,hl,_⟩:=J;rw [al.1,hl]
    have sm:Same H H':=by obtain ⟨mss,_,_,_,sm⟩:=J;exact sm
    have e0:(0:Int)+(i:Int)=(i:Int):=by omega
    have e1:(i:Int)+1=((i+1:Nat):Int):=by push_cast;rfl
    have hlm:(ns.map V.int).length=ns.length:=Ox ..
    rw [e0]
    walk_at "r"
    refine s_mul_r (by omega) (by omega) ?_
    walk_at "r"
    refine s_rI ⟨m0,by omega⟩ ?_
    walk_at "r"
    refine s_mul_r (by omega) (by omega) ?_
    walk_at "r"
    refine s_rI ⟨m0,by omega⟩ ?_
    rw [e1,cast i,cast (i+1)]
    walk_at "r"
    refine Hk (SqL.of (sm _ _ ha)) fun p hp=>?_
    obtain ⟨ms,ec,lc⟩:=Zbr ns _ _ (mono i) (Aj (i+1) (by omega))
    rw [ec]
    have np:p≠D:=(An hys hp).symm
    have:=mono i
    exact ⟨_,(Same.upd hp) _ _ hys,by omega,_,Ac,_,rfl,J.put hD (Same.upd hp) np Ac (by omega)⟩
   ·rintro ys σ' H' hys ⟨kv,rfl,J⟩
    have e:(m:Int).toNat=m:=rfl
    rw [e,Nat.mul_div_cancel _ (by omega)] at J
    obtain ⟨mss,al,hl,ht,sm⟩:=J.fin
    exact q D ys mss H' sm hys al hl ht
noncomputable def Ee (n:Nat):Nat:=max 1 (3 * n - 2)
noncomputable def Es (mss:List (List Int)):Nat:=(mss.map fun m=>Ee m.length).sum
theorem Zht (mss:List (List Int))(ms:List Int):Es (mss++[ms])=Es mss+Ee ms.length:=by simp [Es]
theorem Zj7 {mss:List (List Int)}{n:Nat}(h:mss.length=2\/mss.length=3)(hn:1<=n)(ht:Cg mss=n):Es mss<=3 * n:=by
 unfold Cg at ht
 unfold Es Ee
 match mss,h with
 | [a,b],_ =>
  simp at ht ⊢
  omega
 | [a,b,c],_ =>
  simp at ht ⊢
  omega
theorem Zg0 {ms:List Int}{mss:List (List Int)}(h:ms∈mss):ms.length<=Cg mss:=by
 induction mss with
 | nil=>cases h
 | cons x r ih =>
  have e:Cg (x::r)=x.length+Cg r:=by simp [Cg]
  rcases Oy.mp h with rfl | h
  ·omega
  ·have:=ih h
   omega
noncomputable def Eu (K:Oo)(n:Nat):Sp:=fun vs H Q _=>∃(a:Addr)(ns:List Int),vs=[.ref a]/\H a=some (.lst (ns.map V.int))/\ns.length < n/\ns.length<=63 /\
 ∀(v:V)(t:Tr)(H':Hp),Same H H'->TrAt K H' v t->Pt t->t.size<=Ee ns.length->Q v H'
theorem Zh7 {w:Str}{n:Dt}(h:w∈(["num", "truth", "gap"]:List Str)):Pt (.mk w n []):=by
 simp only [Oy,Pm,or_false] at h
 rcases h with rfl | rfl | rfl <;> exact .mk (by decide) (by decide) fun t h=>nomatch h
theorem Zin (w:Str)(n:Dt):(Tr.mk w n []).size=1:=by rw [Tr.size,Bo]
theorem Zdz (n:Nat):1<=Ee n:=by unfold Ee;omega
theorem Zjz (z:Int):∃ w:Str,B5 [V.str "plus",.str "minus",.str "less",.str "if",.str "if"] (z % 5)=some (.str w)/\w∈WA/\(ar w=2\/ar w=3)/\(2:Int)+(if decide (V.str w=V.str "if")=true then 1 else 0)=(ar w:Nat):=by
 rcases (show z % 5=0\/z % 5=1\/z % 5=2\/z % 5=3\/z % 5=4 by omega) with h | h | h | h | h <;> rw [h]
 ·exact ⟨"plus",rfl,by decide,by decide,by decide⟩
 ·exact ⟨"minus",rfl,by decide,by decide,by decide⟩
 ·exact ⟨"less",rfl,by decide,by decide,by decide⟩
 ·exact ⟨"if",rfl,by decide,by decide,by decide⟩
 ·exact ⟨"if",rfl,by decide,by decide,by decide⟩
theorem Zfp:(["_law_share"]:List Str).Nodup:=by decide +kernel
theorem Ie:Bg ["_law_cells", "_law_cell", "_law_word", "_law_many"] ["_law_cells"] (A3 E7):=by walk_at "sc"
theorem Zga {n:Nat}{f:Addr}{fd:FuncData}(F:Fun K "_law_tree" "_law_tree" E7 f fd)(T:Txt K mg)(C__law_shares:A6 P w K mg base 1 "_law_shares" ["_law_rest", "_law_many", "_law_turn"] (K2 K))(C__law_tree:A6 P w K mg base (n+2) "_law_tree" ["_law_cells"] (Eu K n)):Az P w K mg base A0 (n+3) f fd ["_law_cells"] (Eu K (n+1)):=by
 refine F.okq Ie (fun vs H Q E h=>?_) (fun cdv A outer s H vs Q E hr h=>?_)
 ·obtain ⟨a,ns,rfl,_⟩:=h
  rfl
 ·obtain ⟨a,ns,rfl,ha,hn,h63,q⟩:=h
  refine ⟨_,Ad (As (Ax (Bd K hr.u200) (Bp (Cp K) (by rfl) T.len (by decide +kernel) (Aa (qv 0) Ab)) Ag (Aw _)) (Ai (Ar (Ap (Aa Aq (Aa D7 (Aa (Ap Ab) Ab)))))) Ay)
   (Ad (Ao 1 Ie (Ak K (qv 0) Ag))
   (Ad (As (Ax (Bd K hr.u200) (Bp (Cp K) (by rfl) T.len (by decide +kernel) (Aa (qv 0) Ab)) Ag (Aw _)) (Ad (As (Ax (Bd K hr.u200) (Ba Ea (qv 1) Ag) Ag (Aw _)) (Ai (Ar (Ap (Aa Aq (Aa D7 (Aa (Ap Ab) Ab)))))) Ay)
   (Ad (As (Ax Ms (Ba Ea (qv 1) Ag) Ag (Aw _)) (Ai (Ar (Ap (Aa Aq (Aa (Gj (Bd K hr.u200) (Ba Ea (Ba Fk (qv 1) Ag) Ag) Ag (Aw _)) (Aa (Ap Ab) Ab)))))) Ay)
   (Ai (Ar (Ap (Aa Aq (Aa (Ba Ea (Ba Fk (qv 1) Ag) (Ba Ze3 Ag Ag)) (Aa (Ap Ab) Ab)))))))) Ay)
   (Ad (Ao 2 Ie (Ak K (Bb (Zew (xs:=[.str "plus",.str "minus",.str "less",.str "if",.str "if"]) rfl)) (Ba Ea (qv 1) Ag)))
   (Ad (Ao 3 Ie (Ba (F3 K) Ag (Fi Zdf (by rfl) T.int (by decide +kernel) (Aa (Gj (Bd K hr.u200) (qv 2) Aq (Aw _)) Ab))))
   (Ai (Ar (Ap (Aa (qv 2) (Aa D7 (Aa (Fi (Me K) (by rfl) T.tuple (by decide +kernel) (Aa (Ew (N:=["_law_share"]) (σ0:=Cm 1 []) rfl (De rfl (by decide +kernel) (by decide +kernel) (by decide +kernel)) (Cw K (Bc C__law_shares (hr.mono (by omega)) (Aa (Fd (Fc K) (qv 0) (Dj Ag) (Jq)) (Aa (qv 3) (Aa (Ba Fk (qv 1) Ag) Ab))))) (Df rfl (by rfl)) (fun _ _ _ _=>Av (i:=0) Zfp rfl (Or.inl rfl)) (fun _ _ _ _=>E9) (fun _ _ _ _=>Bc C__law_tree (hr.mono (by omega)) (Aa (qv 0) Ab))) Ab)) Ab)))))))))),?_⟩
  have bg:=big
  have leaf:∀(w:Str)(nv:V),w∈(["num", "truth", "gap"]:List Str)->B6 nv=true->∀ p,H p=none->∀ p2,upd H p (.tup []) p2=none->Q (.ref p2) (upd (upd H p (.tup [])) p2 (.tup [.str w,nv,.ref p])):=by
   intro w nv hw hf p hp p2 hp2
   have s2:=Same.upd (o:=.tup [.str w,nv,.ref p]) hp2
   exact q _ (.mk w (.flat nv) []) _ ((Same.upd hp).trans s2) (.mk (SqT.of Ac) (.inl ⟨hf,rfl⟩) (SqT.of (s2 _ _ Ac)) rfl fun j v t e _=>by simp at e) (Zh7 hw) (by rw [Zin];exact Zdz _)
  have gap:∀ p,H p=none->∀ p2,upd H p (.tup []) p2=none->Q (.ref p2) (upd (upd H p (.tup [])) p2 (.tup [.str "gap",.non,.ref p])):=leaf "gap" .non (by decide) rfl
  walk_at "r"
  refine C7 (SqL.of ha) ?_
  walk_at "r"
  refine Bx (fun c=>?_) (fun c=>?_)
  ·walk_at "r"
   refine ⟨Bf,fun p hp=>?_⟩
   walk_at "r"
   refine ⟨Bu,fun p2 hp2=>?_⟩
   exact gap p hp p2 hp2
  have hlm:(ns.map V.int).length=ns.length:=Ox ..
  have h0:ns.length≠0:=fun e=>c (by rw [hlm,e];rfl)
  obtain ⟨z,zs,rfl⟩:=List.exists_cons_of_ne_nil (show ns≠[] from fun e=>h0 (by rw [e];rfl))
  walk_at "r"
  have ez:B5 ((z::zs).map V.int) ((0:Nat):Int)=some (V.int z):=Ct rfl
  refine Bh (SqL.of ha) ez ?_
  walk_at "r"
  refine C7 (SqL.of ha) ?_
  walk_at "r"
  refine Bx (fun c=>?_) (fun c=>?_)
  ·walk_at "r"
   refine Bx (fun c=>?_) (fun c=>?_)
   ·walk_at "r"
    refine ⟨Bf,fun p hp=>?_⟩
    walk_at "r"
    refine ⟨Bu,fun p2 hp2=>?_⟩
    exact gap p hp p2 hp2
   walk_at "r"
   refine Bx (fun c=>?_) (fun c=>?_)
   ·walk_at "r"
    refine ⟨Bf,fun p hp=>?_⟩
    walk_at "r"
    refine ⟨Bu,fun p2 hp2=>?_⟩
    exact leaf "truth" _ (by decide) rfl p hp p2 hp2
   walk_at "r"
   refine ⟨Bf,fun p hp=>?_⟩
   walk_at "r"
   refine ⟨Bu,fun p2 hp2=>?_⟩
   exact leaf "num" _ (by decide) rfl p hp p2 hp2
  have h1:1<=zs.length:=by
   have:¬ (z::zs).length=1:=fun e=>c (by rw [hlm,e];rfl)
   rw [O8] at this
   omega
  walk_at "r"
  refine ⟨sz5,fun pw hpw=>?_⟩
  obtain ⟨wd,ew,hwa,har,em⟩:=Zjz z
  walk_at "r"
  refine Bh (SqL.of Ac) ew ?_
  walk_at "r"
  rw [em]
  have s1:=Same.upd (o:=.lst [V.str "plus",.str "minus",.str "less",.str "if",.str "if"]) hpw
  revert s1
  generalize upd H pw (.lst [V.str "plus",.str "minus",.str "less",.str "if",.str "if"])=H1
  intro s1
  refine Hk (SqL.of (s1 _ _ ha)) fun pc hpc=>?_
  have ec:Br ((z::zs).map V.int) (some 1) none=zs.map V.int:=by
   unfold Br
   have e1:HT.sIx ((z::zs).map V.int).length 0 (some 1)=1:=by rw [show (1:Int)=((1:Nat):Int) from rfl,HT.sIx_nat,Ox,O8];omega
   rw [e1,HT.sIx_none]
   simp
   exact Tg (by simp)
  rw [ec]
  walk_at "r"
  have s2:=s1.put (o:=.lst (zs.map V.int)) hpc
  rw [O8] at hn h63
  refine ⟨pc,zs,ar wd,_,rfl,Ac,by omega,har,fun L us mss H3 s3 eL al lm tm=>?_⟩
  have s4:=s2.trans s3
  refine .inl ⟨L,rfl,⟨_,SqL.of eL⟩,fun D hD=>?_⟩
  have nD:L≠D:=An eL hD
  refine Gv (K:=K) (a:=L) (xs:=us) (Pv:=fun i ys σ' H'=>∃ v0 ts,σ'=[v0]/\Al (TrAt K H') ys ts/\ts.length=i/\(∀ t∈ts,Pt t)/\Bo ts<=Es (mss.take i)/\Same H3 H') ⟨none,[],rfl,.nil,rfl,(fun t h=>nomatch h),by rw [Bo];exact Pd _,Same.upd hD⟩ ?_ ?_ ?_
  ·rintro i ys σ' H' _ ⟨_,_,_,_,_,_,_,sm⟩
   exact SqL.of (sm _ _ eL)
  ·rintro i x ys σ' H' hx hys ⟨v0,ts,rfl,aly,ht,hpt,hsz,sm⟩
   obtain ⟨ms,hms,p,rfl,ep⟩:=al.get hx
   have hi:=(O7.mp hms).1
   have hil:ms.length<=Cg mss:=Zg0 (Px hms)
   walk_at "r"
   refine ⟨p,ms,rfl,sm _ _ ep,by omega,by omega,fun v t H5 s5 tv pt sz=>?_⟩
   have t6:SameT H' (upd H5 D (.lst (ys++[v]))):=s5.t.trans (SameT.set (s5 _ _ hys))
   refine ⟨ys,s5 _ _ hys,by rw [aly.1,ht];omega,_,Ac,_,ts++[t],rfl,(aly.mono fun _ _ a=>a.sameT t6).snoc (tv.sameT (SameT.set (s5 _ _ hys))),by simp [ht],?_,?_,(sm.trans s5).over hD⟩
   ·intro x hx
    rcases Pr.mp hx with hx | hx
    ·exact hpt x hx
    ·rw [Py.mp hx];exact pt
   ·rw [Zeu,Bo,Bo,Q3,hms]
    show _<=Es (mss.take i++[ms])
    rw [Zht]
    omega
  ·rintro ys σ' H' hys ⟨v0,ts,rfl,aly,ht,hpt,hsz,sm⟩
   rw [al.1,Qz] at hsz
   have hb:=Zj7 (n:=zs.length) (by rw [lm];exact har) h1 tm
   walk_at "r"
   refine Od (SqL.of hys) fun pt hp1=>?_
   walk_at "r"
   refine ⟨Bu,fun pr hp2=>?_⟩
   have s6:=Same.upd (o:=.tup ys) hp1
   have s7:=Same.upd (o:=.tup [.str wd,.non,.ref pt]) hp2
   have aly':=aly.mono fun _ _ a=>a.same (s6.trans s7)
   refine q _ (.mk wd (.flat .non) ts) _ (((s4.trans sm).trans s6).trans s7) (.mk (SqT.of Ac) (.inl ⟨rfl,rfl⟩) (SqT.of (s7 _ _ Ac)) aly'.1 aly'.2) (.mk hwa (by rw [ht,al.1,lm]) hpt) ?_
   rw [Tr.size,O8]
   unfold Ee
   omega
noncomputable def KdD (K:Oo)(H:Hp)(x:V)(a:Option Bool):Prop:=(a=none/\x=.non)\/∃ b c,a=some b/\x=.ref c/\SqT K H c [.str (kd b)]
theorem KdD.same {H H':Hp}{x:V}{a:Option Bool}(h:KdD K H x a)(e:SameT H H'):KdD K H' x a:=by
 rcases h with h | ⟨b,c,h1,h2,h3⟩
 ·exact .inl h
 ·exact .inr ⟨b,c,h1,h2,e.tup h3⟩
noncomputable def LkAt (K:Oo)(H:Hp)(v:V)(r:Rw):Prop:=∃(e p:Addr)(g a:V),v=.ref e/\SqT K H e [.ref p,g,a,.str (mk r)]/\SqT K H p (A8 r.1)/\KdD K H g r.2.1/\KdD K H a r.2.2
theorem LkAt.same {H H':Hp}(e:SameT H H')(v:V)(r:Rw)(h:LkAt K H v r):LkAt K H' v r:=by
 obtain ⟨c,p,g,a,h1,h2,h3,h4,h5⟩:=h
 exact ⟨c,p,g,a,h1,e.tup h2,e.tup h3,h4.same e,h5.same e⟩
noncomputable abbrev En:=List Nat×Option Bool×Tr
noncomputable def EnAt (K:Oo)(H:Hp)(v:V)(x:En):Prop:=∃(e p:Addr)(u a:V),v=.ref e/\SqT K H e [.ref p,u,a]/\SqT K H p (A8 x.1)/\TrAt K H u x.2.2/\KdD K H a x.2.1
theorem EnAt.same {H H':Hp}(e:SameT H H')(v:V)(x:En)(h:EnAt K H v x):EnAt K H' v x:=by
 obtain ⟨c,p,u,a,h1,h2,h3,h4,h5⟩:=h
 exact ⟨c,p,u,a,h1,e.tup h2,e.tup h3,h4.sameT e,h5.same e⟩
noncomputable def Bz (pl:List Nat)(w:Str)(a:Option Bool):Nat->List Tr->List En
 | _,[]=>[]
 | i,t::r=>(pl++[i],wish w a i,t)::Bz pl w a (i+1) r
noncomputable def Ca (st:List En):List Rw:=st.reverse.flatMap fun x=>Am x.1 x.2.1 x.2.2
theorem Zas (pl:List Nat)(w:Str)(a:Option Bool):∀(i:Nat)(ts:List Tr),(Bz pl w a i ts).length=ts.length
 | _,[]=>rfl
 | i,t::r=>by rw [Bz,O8,O8,Zas]
theorem Zax (pl:List Nat)(w:Str)(a:Option Bool):∀(i j:Nat)(ts:List Tr),(Bz pl w a i ts)[j]?=(ts[j]?).map fun t=>(pl++[i+j],wish w a (i+j),t)
 | i,j,[]=>by simp [Bz]
 | i,0,t::r=>by simp [Bz]
 | i,j+1,t::r=>by
  rw [Bz,Sc,Sc,Zax pl w a (i+1) j r,show i+1+j=i+(j+1) by omega]
theorem M7 (pl:List Nat)(w:Str)(a:Option Bool):∀(i:Nat)(ts:List Tr),Bm pl w a i ts=(Bz pl w a i ts).flatMap fun x=>Am x.1 x.2.1 x.2.2
 | _,[]=>by rw [Bm];rfl
 | i,t::r=>by rw [Bm,Bz,Sl,M7 pl w a (i+1) r]
theorem Zdy (st:List En)(pl:List Nat)(a:Option Bool)(w:Str)(n:Dt)(ts:List Tr):Ca (st++[(pl,a,.mk w n ts)])=(pl,gv w a,a)::Ca (st++(Bz pl w a 0 ts).reverse):=by
 unfold Ca
 rw [Rg,Rg,List.reverse_reverse,Qv,Qv,List.reverse_singleton,List.flatMap_singleton,Am,M7]
 rfl
theorem Zgn (st:List En):st.length<=(Ca st).length:=by
 have key:∀ xs:List En,xs.length<=(xs.flatMap fun x=>Am x.1 x.2.1 x.2.2).length:=fun xs=>by
  induction xs with
  | nil=>exact Oq _
  | cons x r ih =>
   rw [Sl,O3,O8]
   have:1<=(Am x.1 x.2.1 x.2.2).length:=by
    cases x.2.2 with
    | mk w n ts=>rw [Am,O8];omega
   omega
 unfold Ca
 rw [<- To]
 exact key _
theorem Zio {pl:List Nat}{w:Str}{a:Option Bool}{ts:List Tr}(h:∀ t∈ts,Pt t)(i:Nat):∀ x∈Bz pl w a i ts,Pt x.2.2:=by
 induction ts generalizing i with
 | nil=>intro x hx;cases hx
 | cons t r ih =>
  intro x hx
  rw [Bz] at hx
  rcases Oy.mp hx with rfl | hx
  ·exact h t (by simp)
  ·exact ih (fun y hy=>h y (by simp [hy])) (i+1) x hx
noncomputable def Za3 (K:Oo):Sp:=fun vs H Q _=>∃(v:V)(t:Tr),vs=[v]/\TrAt K H v t/\Pt t/\t.wd∈WO/\t.size<=40/\∀(p:Addr)(rows:List V)(H':Hp),Same H H'->H' p=some (.lst rows)->Al (LkAt K H') rows (Am [] none t)->Q (.ref p) H'
theorem Zco {w:Str}(h:w∈WA):Ec (.str w) [.str "num",.str "plus",.str "minus"]=decide (w∈WN):=by
 rcases G8 h with rfl | rfl | rfl | rfl | rfl | rfl | rfl <;> decide
theorem Zis {w:Str}(h:w∈WA):Ec (.str w) [.str "truth",.str "less"]=decide (w∈WT):=by
 rcases G8 h with rfl | rfl | rfl | rfl | rfl | rfl | rfl <;> decide
theorem Zjk (b c:Bool):decide (kd b=kd c)=(b == c):=by cases b <;> cases c <;> decide
theorem Zh2 {w:Str}(a:Option Bool)(h:a≠none):gv w a≠none:=by
 unfold gv
 split
 ·simp
 ·split
  ·simp
  ·exact h
theorem Zbk (pl:List Nat):A8 pl=(pl.map fun i=>((i:Nat):Int)).map V.int:=by unfold A8;rw [List.map_map];rfl
theorem Za8 {H:Hp}{w:Str}{a:Option Bool}{x g:V}{pn pt:Addr}(hn:SqT K H pn [.str "num"])(ht:SqT K H pt [.str "truth"])(hx:KdD K H x a)(h1:w∈WN->g=.ref pn)(h2:w ∉ WN->w∈WT->g=.ref pt)(h3:w ∉ WN->w ∉ WT->g=x):KdD K H g (gv w a):=by
 unfold gv
 by_cases c1:w∈WN
 ·rw [if_pos c1]
  exact .inr ⟨false,pn,rfl,h1 c1,hn⟩
 ·rw [if_neg c1]
  by_cases c2:w∈WT
  ·rw [if_pos c2]
   exact .inr ⟨true,pt,rfl,h2 c1 c2,ht⟩
  ·rw [if_neg c2,h3 c1 c2]
   exact hx
noncomputable def Fl (w:Str)(x:V)(pn pt:Addr):List V:=if w = "if" then [.ref pt,x,x] else [.ref pn,.ref pn]
theorem Zd5 {H:Hp}{w:Str}{a:Option Bool}{x:V}{pn pt:Addr}{j:Nat}(hn:SqT K H pn [.str "num"])(ht:SqT K H pt [.str "truth"])(hx:KdD K H x a)(hj:j < ar w):∃ y,(Fl w x pn pt)[j]?=some y/\KdD K H y (wish w a j):=by
 unfold Fl wish
 unfold ar at hj
 by_cases h:w = "if"
 ·rw [if_pos h] at hj ⊢
  rw [if_pos h]
  match j,hj with
  | 0,_=>exact ⟨_,rfl,.inr ⟨true,pt,rfl,rfl,ht⟩⟩
  | 1,_=>exact ⟨_,rfl,hx⟩
  | 2,_=>exact ⟨_,rfl,hx⟩
 ·rw [if_neg h] at hj ⊢
  rw [if_neg h]
  have hk:KdD K H (.ref pn) (some false):=.inr ⟨false,pn,rfl,rfl,hn⟩
  match j,hj with
  | 0,_=>exact ⟨_,rfl,hk⟩
  | 1,_=>exact ⟨_,rfl,hk⟩
  | j+2,hj=>exfalso;split at hj <;> omega
theorem sc_law_due:Bg ["_law_tree_here", "_law_num", "_law_truth", "_law_rows", "_law_left", "_law_place", "_law_form", "_law_asked", "_law_given", "_law_wishes", "_law_k", "_law_at"] ["_law_tree_here"] (A3 F9):=by walk_at "sc"
structure DuJ (K:Oo)(H:Hp)(t:Tr)(pn pt pr pw:Addr)(H':Hp)(rv wv:List V)(dn:List Rw)(st:List En):Prop where
 er:H' pr=some (.lst rv)
 ew:H' pw=some (.lst wv)
 ar:Al (LkAt K H') rv dn
 aw:Al (EnAt K H') wv st
 eq:dn++Ca st=Am [] none t
 kp:∀ x∈st,Pt x.2.2
 hn:SqT K H' pn [.str "num"]
 ht:SqT K H' pt [.str "truth"]
 sm:Same H H'
theorem Zeo {f:Addr}{fd:FuncData}(F:Fun K "_law_due" "_law_due" F9 f fd)(T:Txt K mg):Az P w K mg base A0 1 f fd ["_law_tree_here"] (Za3 K):=by
 refine F.okq sc_law_due (fun vs H Q E h=>?_) (fun cdv A outer s H vs Q E hr h=>?_)
 ·obtain ⟨v,t,rfl,_⟩:=h
  rfl
 ·obtain ⟨v,t,rfl,ht,hpt,hwo,hsz,q⟩:=h
  refine ⟨_,Ad (Ao 1 sc_law_due (Ap (Aa Aq Ab)))
   (Ad (Ao 2 sc_law_due (Ap (Aa Aq Ab)))
   (Ad (Ao 3 sc_law_due (Bb Ab))
   (Ad (Ao 4 sc_law_due (Bb (Aa (Ap (Aa (Ap Ab) (Aa (qv 0) (Aa D7 Ab)))) Ab)))
   (Ad (Fn Ph (Ax Za0 (Bp (Cp K) (by rfl) T.len (by decide +kernel) (Aa (qv 4) Ab)) Ag (Aw _)) (Ad (Fq (G7 K Pi Rb Rc Gz (qv 4)) (Cy K (n:=3) rfl (Be (Av (i:=5) sc_law_due.nd rfl (Or.inl rfl)) (Be (Av (i:=6) sc_law_due.nd rfl (Or.inl rfl)) (Be (Av (i:=7) sc_law_due.nd rfl (Or.inl rfl)) (C0))))))
   (Ad (Ao 8 sc_law_due (qv 7))
   (Ad (As (Ax (Hf K) (Ak K (qv 6) Ag) (Ap (Aa Aq (Aa Aq (Aa Aq Ab)))) (by rfl)) (Ai (Ao 8 sc_law_due (qv 1))) Ay)
   (Ad (As (Ax (Hf K) (Ak K (qv 6) Ag) (Ap (Aa Aq (Aa Aq Ab))) (by rfl)) (Ai (Ao 8 sc_law_due (qv 2))) Ay)
   (Ad (C3 (Dr K Pi P6 P7 Du (qv 3) (Aa (Ap (Aa (qv 5) (Aa (qv 8) (Aa (qv 7) (Aa (G5 (QW.qt (Zb7 (Ax (I0 K hr.u200) (qv 5) (Ap Ab) (Aw _)) (Zbq (Ax (I0 K hr.u200) (qv 8) (qv 7) (Aw _))))) Aq Aq) Ab))))) Ab)))
   (Ad (Ao 9 sc_law_due (Bb (Aa (qv 1) (Aa (qv 1) Ab))))
   (Ad (As (Ax (I0 K hr.u200) (Ak K (qv 6) Ag) Aq (Aw _)) (Ai (Ao 9 sc_law_due (Bb (Aa (qv 2) (Aa (qv 7) (Aa (qv 7) Ab)))))) Ay)
   (Ai (Da Ph rfl (Hu rfl T.range (Aa (Bp (Cp K) (by rfl) T.len (by decide +kernel) (Aa (Ak K (qv 6) Ag) Ab)) Ab)) (Av (i:=10) sc_law_due.nd rfl (Or.inl rfl)) (Ad (Ao 11 sc_law_due (Ba Jd (Ba Jd (Bp (Cp K) (by rfl) T.len (by decide +kernel) (Aa (Ak K (qv 6) Ag) Ab)) Ag) (qv 10)))
   (Ai (C3 (Dr K Pi P6 P7 Du (qv 4) (Aa (Ap (Aa (Ba (F3 K) (qv 5) (Ap (Aa (qv 11) Ab))) (Aa (Ak K (Ak K (qv 6) Ag) (qv 11)) (Aa (Ak K (qv 9) (qv 11)) Ab)))) Ab)))))))))))))))
   (Ai (Ar (qv 3))))))),?_⟩
  have bg:=big
  walk_at "r"
  refine ⟨Cn,fun pn hpn=>?_⟩
  walk_at "r"
  refine ⟨Cn,fun pt hpt1=>?_⟩
  walk_at "r"
  refine ⟨Bf,fun pr hpr=>?_⟩
  walk_at "r"
  refine ⟨Bf,fun p0 hp0=>?_⟩
  walk_at "r"
  refine ⟨Bu,fun p1 hp1=>?_⟩
  walk_at "r"
  refine ⟨Cn,fun pw hpw=>?_⟩
  walk_at "r"
  have a1:=Same.upd (o:=.tup [.str "num"]) hpn
  have a2:=Same.upd (o:=.tup [.str "truth"]) hpt1
  have a3:=Same.upd (o:=.lst []) hpr
  have a4:=Same.upd (o:=.tup []) hp0
  have a5:=Same.upd (o:=.tup [.ref p0,v,.non]) hp1
  have a6:=Same.upd (o:=.lst [.ref p1]) hpw
  have en:=((((a2.trans a3).trans a4).trans a5).trans a6) pn _ Ac
  have et:=(((a3.trans a4).trans a5).trans a6) pt _ Ac
  have er:=((a4.trans a5).trans a6) pr _ Ac
  have e0:=(a5.trans a6) p0 _ Ac
  have e1:=a6 p1 _ Ac
  have npw:pr≠pw:=An ((a4.trans a5) pr _ Ac) hpw
  have sH:=((((a1.trans a2).trans a3).trans a4).trans a5).trans a6
  have hpr0:H pr=none:=(a1.trans a2).free hpr
  have hpw0:H pw=none:=((((a1.trans a2).trans a3).trans a4).trans a5).free hpw
  have ew:upd (upd (upd (upd (upd (upd H pn (.tup [.str "num"])) pt (.tup [.str "truth"])) pr (.lst [])) p0 (.tup [])) p1 (.tup [.ref p0,v,.non])) pw (.lst [.ref p1]) pw=some (.lst [.ref p1]):=Ac
  revert en et er e0 e1 sH ew
  generalize upd (upd (upd (upd (upd (upd H pn (.tup [.str "num"])) pt (.tup [.str "truth"])) pr (.lst [])) p0 (.tup [])) p1 (.tup [.ref p0,v,.non])) pw (.lst [.ref p1])=H0
  intro en et er e0 e1 sH ew
  have hdl0:(Am [] none t).length=t.size:=by rw [<- Ox (f:=fun r:Rw=>r.1),Eb,Ox,El]
  refine ⟨fun m σ' H'=>∃ v5 v6 v7 v8 v9 v10 v11 rv wv dn st,σ'=[some v,some (.ref pn),some (.ref pt),some (.ref pr),some (.ref pw),v5,v6,v7,v8,v9,v10,v11]/\DuJ K H t pn pt pr pw H' rv wv dn st/\m=(Ca st).length,
   ⟨_,none,none,none,none,none,none,none,[],[.ref p1],[],[([],none,t)],rfl,⟨er,ew,.nil,Al.nil.snoc ⟨p1,p0,v,.non,rfl,SqT.of e1,SqT.of e0,ht.same sH,.inl ⟨rfl,rfl⟩⟩,by simp [Ca],fun x hx=>by rw [Py.mp hx];exact hpt,SqT.of en,SqT.of et,sH⟩,rfl⟩,?_⟩
  rintro m σ' H1 ⟨v5,v6,v7,v8,v9,v10,v11,rv,wv,dn,st,rfl,J,rfl⟩
  have hdl:dn.length+(Ca st).length=t.size:=by
   have:=congrArg S8 J.eq
   rw [O3,hdl0] at this
   exact this
  have hrl:rv.length=dn.length:=J.ar.1
  walk_at "r"
  refine C7 (SqL.of J.ew) ?_
  walk_at "r"
  by_cases hwv:wv=[]
  ·subst hwv
   have hst:st=[]:=Tb J.aw.1.symm
   subst hst
   refine iteF ?_
   walk_at "r"
   have eq:=J.eq
   have e:Ca []=[]:=rfl
   rw [e,P0] at eq
   have ar:=J.ar
   rw [eq] at ar
   exact q pr rv H1 J.sm J.er ar
  obtain ⟨wv',tp,st',x,rfl,rfl,aw',hen⟩:=J.aw.last hwv
  have hne:decide ((0:Int) < ((wv'++[tp]).length:Int))=true:=decide_eq_true (by rw [O3,Pq];omega)
  rw [hne]
  refine iteT ?_
  obtain ⟨pl,a,tx⟩:=x
  obtain ⟨e,p,u,x,rfl,qe,qp,qu,qx⟩:=hen
  have ptx:Pt tx:=J.kp _ (Pn _ (Py.mpr rfl))
  cases ptx with
  | @mk wd n ts hwd hl hpts =>
  have hpop:=Zdy st' pl a wd n ts
  have hmem:(pl,gv wd a,a)∈Am [] none t:=by rw [<- J.eq,hpop];simp
  have hpl:pl.length<=40:=by
   have h1:pl∈(walk [] t).map (·.1):=by rw [<- Eb [] none t];exact P3.mpr ⟨_,hmem,rfl⟩
   obtain ⟨y,hy,rfl⟩:=P3.mp h1
   have:=F0 [] t y hy
   simp at this
   omega
  have hroot:pl≠[]->a≠none:=by
   exact fun h0=>Zei h0 hwo hmem
  refine ⟨fun σ2 H2=>∃ m',m' < (Ca (st'++[(pl,a,.mk wd n ts)])).length/\∃ v5 v6 v7 v8 v9 v10 v11 rv wv dn st,σ2=[some v,some (.ref pn),some (.ref pt),some (.ref pr),some (.ref pw),v5,v6,v7,v8,v9,v10,v11]/\DuJ K H t pn pt pr pw H2 rv wv dn st/\m'=(Ca st).length,fun _ _ h=>h,?_⟩
  walk_at "r"
  refine B7 (SqL.of J.ew) ?_
  refine Gs J.ew ?_
  have t1:SameT H1 (upd H1 pw (.lst wv')):=SameT.set J.ew
  have er2:upd H1 pw (.lst wv') pr=some (.lst rv):=by rw [Af npw];exact J.er
  have ew2:upd H1 pw (.lst wv') pw=some (.lst wv'):=Ac
  have sm2:=J.sm.over (o:=.lst wv') hpw0
  have qe2:=t1.tup qe
  have qp2:=t1.tup qp
  have qu2:=qu.sameT t1
  have qx2:KdD K (upd H1 pw (.lst wv')) x a:=qx.same t1
  have hn2:=t1.tup J.hn
  have ht2:=t1.tup J.ht
  have ar2:=J.ar.mono (LkAt.same t1)
  have aw2:=aw'.mono (EnAt.same t1)
  revert er2 ew2 sm2 qe2 qp2 qu2 qx2 hn2 ht2 ar2 aw2
  generalize upd H1 pw (.lst wv')=H2
  intro er2 ew2 sm2 qe2 qp2 qu2 qx2 hn2 ht2 ar2 aw2
  cases qu2 with
  | @mk b pp _ nv _ us _ qb hno qpp hul hch =>
  refine C9 qe2 rfl ?_
  walk_at "q"
  refine Jp (R:=fun σ' H'=>∃ g,σ'=[some v,some (.ref pn),some (.ref pt),some (.ref pr),some (.ref pw),some (.ref p),some (.ref b),some x,some g,v9,v10,v11]/\(wd∈WN->g=.ref pn)/\(wd ∉ WN->g=x)/\Same H2 H') ?_ ?_
  ·intro Y hY
   walk_at "r"
   refine Au qb rfl ?_
   walk_at "r"
   refine ⟨Bu,fun p3 h3=>?_⟩
   refine Hv (.inr (SqT.of Ac)) rfl rfl ?_
   rw [if_neg Oz,Zco hwd]
   walk_at "r"
   refine Bx (fun c=>?_) (fun c=>?_)
   ·walk_at "r"
    exact hY _ _ ⟨_,rfl,fun _=>rfl,fun h=>absurd (of_decide_eq_true c) h,Same.upd h3⟩
   ·exact hY _ _ ⟨_,rfl,fun h=>absurd (decide_eq_true h) c,fun _=>rfl,Same.upd h3⟩
  rintro _ H3 ⟨g1,rfl,g11,g12,s3⟩
  walk_at "q"
  refine Jp (R:=fun σ' H'=>∃ g,σ'=[some v,some (.ref pn),some (.ref pt),some (.ref pr),some (.ref pw),some (.ref p),some (.ref b),some x,some g,v9,v10,v11]/\KdD K H2 g (gv wd a)/\Same H2 H') ?_ ?_
  ·intro Y hY
   walk_at "r"
   refine Au (s3.tup qb) rfl ?_
   walk_at "r"
   refine ⟨Cc,fun p3 h3=>?_⟩
   refine Hv (.inr (SqT.of Ac)) rfl rfl ?_
   rw [if_neg Oz,Zis hwd]
   walk_at "r"
   refine Bx (fun c=>?_) (fun c=>?_)
   ·have c:=of_decide_eq_true c
    walk_at "r"
    exact hY _ _ ⟨_,rfl,Za8 hn2 ht2 qx2 (fun h=>absurd h (Zhi c)) (fun _ _=>rfl) (fun _ h=>absurd c h),s3.put h3⟩
   ·have c:wd ∉ WT:=fun h=>c (decide_eq_true h)
    exact hY _ _ ⟨_,rfl,Za8 hn2 ht2 qx2 g11 (fun _ h=>absurd h c) (fun h _=>g12 h),s3.put h3⟩
  rintro _ H4 ⟨g,rfl,hg,s4⟩
  walk_at "r"
  refine B7 (SqL.of (s4 _ _ er2)) ?_
  walk_at "q"
  refine viaE (R:=fun v' H'=>v'=.str (mk (pl,gv wd a,a))/\Same H2 H') ?_ ?_
  ·intro Y hY
   walk_at "r"
   refine ⟨Bf,fun p5 h5=>?_⟩
   have s5:=s4.put (o:=.tup []) h5
   refine Zb9 (xs:=pl.map fun i=>((i:Nat):Int)) (ys:=[]) (by rw [<- Zbk];exact s5.tup qp2) (SqT.of Ac) ?_
   have fin:∀ k:Bool,(k=true↔(pl=[]\/gv wd a=a))->Y (.str (if k=true then "" else "unlike")) (upd H4 p5 (.tup [])):=fun k hk=>by
    refine hY _ _ ⟨?_,s5⟩
    unfold mk
    by_cases h:pl=[]\/gv wd a=a
    ·rw [if_pos (hk.mpr h),if_pos h]
    ·rw [if_neg fun c=>h (hk.mp c),if_neg h]
   by_cases hp0:pl=[]
   ·rw [decide_eq_true (by rw [hp0];rfl)]
    walk_at "r"
    exact fin true ⟨fun _=>.inl hp0,fun _=>rfl⟩
   ·rw [decide_eq_false (by simpa using hp0)]
    walk_at "r"
    obtain ⟨ab,ha⟩:=Q9.mp (hroot hp0)
    obtain ⟨gb,hgb⟩:=Q9.mp (Zh2 (w:=wd) a (hroot hp0))
    rcases hg.same s5.t with ⟨h,_⟩ | ⟨b1,c1,h1,rfl,h3⟩
    ·rw [h] at hgb;cases hgb
    rcases qx2.same s5.t with ⟨h,_⟩ | ⟨b2,c2,h4,rfl,h6⟩
    ·rw [h] at ha;cases ha
    refine Zcz h3 h6 ?_
    rw [Zjk]
    have e:(b1 == b2)=true↔(pl=[]\/gv wd a=a):=by
     have h4:a=some b2:=h4
     rw [h1,h4]
     cases b1 <;> cases b2 <;> simp [hp0]
    walk_at "r"
    refine Bx (fun c=>?_) (fun c=>?_)
    ·walk_at "r"
     exact fin true ⟨fun _=>e.mp c,fun _=>rfl⟩
    ·walk_at "r"
     exact fin false ⟨fun h=>(by cases h),fun h=>absurd (e.mpr h) c⟩
  rintro _ H5 ⟨rfl,s5⟩
  walk_at "q"
  refine ⟨sz4,fun p6 h6=>?_⟩
  walk_at "q"
  have s6:=s5.put (o:=.tup [.ref p,g,x,.str (mk (pl,gv wd a,a))]) h6
  have er6:=s6 _ _ er2
  refine C6 er6 (by omega) ?_
  have t7:SameT H2 (upd (upd H5 p6 (.tup [.ref p,g,x,.str (mk (pl,gv wd a,a))])) pr (.lst (rv++[.ref p6]))):=s6.t.trans (SameT.set er6)
  have t76:=SameT.set (o:=.lst (rv++[.ref p6])) er6
  have hrow:LkAt K (upd (upd H5 p6 (.tup [.ref p,g,x,.str (mk (pl,gv wd a,a))])) pr (.lst (rv++[.ref p6]))) (.ref p6) (pl,gv wd a,a):=⟨p6,p,g,x,rfl,t76.tup (SqT.of Ac),t7.tup qp2,hg.same t7,qx2.same t7⟩
  have ar7:=(ar2.mono (LkAt.same t7)).snoc hrow
  have aw7:=aw2.mono (EnAt.same t7)
  have sm7:Same H (upd (upd H5 p6 (.tup [.ref p,g,x,.str (mk (pl,gv wd a,a))])) pr (.lst (rv++[.ref p6]))):=(sm2.trans s6).over hpr0
  have er7:upd (upd H5 p6 (.tup [.ref p,g,x,.str (mk (pl,gv wd a,a))])) pr (.lst (rv++[.ref p6])) pr=some (.lst (rv++[.ref p6])):=Ac
  have ew7:upd (upd H5 p6 (.tup [.ref p,g,x,.str (mk (pl,gv wd a,a))])) pr (.lst (rv++[.ref p6])) pw=some (.lst wv'):=by rw [Af npw.symm];exact s6 _ _ ew2
  revert t7 ar7 aw7 sm7 er7 ew7
  generalize upd (upd H5 p6 (.tup [.ref p,g,x,.str (mk (pl,gv wd a,a))])) pr (.lst (rv++[.ref p6]))=H7
  intro t7 ar7 aw7 sm7 er7 ew7
  have qb7:=t7.tup qb
  have qp7:=t7.tup qp2
  have qpp7:=t7.tup qpp
  have hn7:=t7.tup hn2
  have ht7:=t7.tup ht2
  have qx7:=qx2.same t7
  have hch7:=fun j v t e1 e2=>(hch j v t e1 e2).sameT t7
  walk_at "q"
  refine ⟨Cc,fun pq hpq=>?_⟩
  walk_at "q"
  refine Jp (R:=fun σ' H'=>∃ pq,σ'=[some v,some (.ref pn),some (.ref pt),some (.ref pr),some (.ref pw),some (.ref p),some (.ref b),some x,some g,some (.ref pq),v10,v11]/\H' pq=some (.lst (Fl wd x pn pt))/\H7 pq=none/\Same H7 H') ?_ ?_
  ·intro Y hY
   have s8:=Same.upd (o:=.lst [.ref pn,.ref pn]) hpq
   walk_at "r"
   refine Au (s8.tup qb7) rfl ?_
   walk_at "r"
   refine Zbp rfl ?_
   walk_at "r"
   refine Bx (fun c=>?_) (fun c=>?_)
   ·have c:wd = "if" := by simpa using c
    walk_at "r"
    refine ⟨Bu,fun p9 h9=>?_⟩
    walk_at "r"
    exact hY _ _ ⟨p9,rfl,by rw [Ac,Fl,if_pos c],s8.free h9,s8.put h9⟩
   ·have c:wd ≠ "if" := fun e=>c (by simp [e])
    exact hY _ _ ⟨pq,rfl,by rw [Ac,Fl,if_neg c],hpq,s8⟩
  rintro _ H8 ⟨pz,rfl,ez,fz,s8⟩
  have nzw:pw≠pz:=An ew7 fz
  have nzr:pr≠pz:=An er7 fz
  walk_at "r"
  refine Au (s8.tup qb7) rfl ?_
  walk_at "r"
  refine Gb (s8.tup qpp7) ?_
  walk_at "r"
  have har3:ar wd<=3:=by unfold ar;split <;> (try split) <;> omega
  refine ⟨by omega,by omega,?_⟩
  have hkl:(Bz pl wd a 0 ts).length=us.length:=by rw [Zas];omega
  refine Lv (n:=(us.length:Int).toNat) (fun j σ5 H5=>∃(B8 B9:Option V)(wv5:List V),σ5=[some v,some (.ref pn),some (.ref pt),some (.ref pr),some (.ref pw),some (.ref p),some (.ref b),some x,some g,some (.ref pz),B8,B9]/\H5 pr=some (.lst (rv++[.ref p6]))/\H5 pw=some (.lst wv5)/\H5 pz=some (.lst (Fl wd x pn pt))/\Al (EnAt K H5) wv5 (st'++((Bz pl wd a 0 ts).drop (us.length - j)).reverse)/\SameT H7 H5/\Same H H5)
   ⟨_,_,wv',rfl,s8 _ _ er7,s8 _ _ ew7,ez,by rw [Nat.sub_zero,Sf (by omega)];simpa using aw7.mono (EnAt.same s8.t),s8.t,sm7.trans s8⟩ ?_ ?_
  ·rintro i σ5 H9 hi ⟨B8,B9,wv5,rfl,e9r,e9w,e9z,al9,t9,sm9⟩
   have hi:i < us.length:=by omega
   have hk:(us.length:Int) - 1 - (0+(i:Int))=((us.length - 1 - i:Nat):Int):=by omega
   have hj:us.length - 1 - i < us.length:=by omega
   have hj':us.length - 1 - i < ts.length:=by omega
   walk_at "r"
   refine Au (t9.tup qb7) rfl ?_
   walk_at "r"
   refine Gb (t9.tup qpp7) ?_
   walk_at "r"
   rw [hk]
   refine B7 (SqL.of e9w) ?_
   walk_at "r"
   refine ⟨Cn,fun pa ha=>?_⟩
   refine Mp ((t9.trans (SameT.new ha)).tup qp7) (SqT.of Ac) (by show (A8 pl).length+1<=sizeLine;unfold A8;rw [Ox];omega) fun r Hb sb qr=>?_
   have sA:Same H9 Hb:=(Same.upd ha).trans sb
   walk_at "r"
   refine Au ((t9.trans sA.t).tup qb7) rfl ?_
   walk_at "r"
   refine Au ((t9.trans sA.t).tup qpp7) (Ct (Os hj)) ?_
   walk_at "r"
   obtain ⟨y,ey,ky⟩:=Zd5 (w:=wd) (j:=us.length - 1 - i) hn7 ht7 qx7 (by omega)
   refine Bh (SqL.of (sA _ _ e9z)) (Ct ey) ?_
   walk_at "r"
   refine ⟨Bu,fun pc hc=>?_⟩
   walk_at "r"
   have sC:=sA.put (o:=.tup [.ref r,us[us.length - 1 - i],y]) hc
   have hlw:wv5.length=st'.length+((Bz pl wd a 0 ts).drop (us.length - i)).length:=by have:=al9.1;simp at this ⊢;omega
   have hdr:((Bz pl wd a 0 ts).drop (us.length - i)).length<=us.length:=by rw [Rk];omega
   have hst:st'.length<=t.size:=by
    have h1:(Ca st').length<=(Ca (st'++[(pl,a,.mk wd n ts)])).length:=by
     unfold Ca
     rw [Rg,Qv,O3]
     omega
    have h2:=Zgn st'
    omega
   have ecw:=sC _ _ e9w
   refine C6 ecw (by omega) ?_
   have tD:SameT H9 (upd (upd Hb pc (.tup [.ref r,us[us.length - 1 - i],y])) pw (.lst (wv5++[.ref pc]))):=sC.t.trans (SameT.set ecw)
   have hat:=hch7 _ _ _ (Os hj) (Os hj')
   have hkid:(Bz pl wd a 0 ts)[us.length - 1 - i]?=some (pl++[us.length - 1 - i],wish wd a (us.length - 1 - i),ts[us.length - 1 - i]):=by
    rw [Zax,Os hj']
    simp
   refine ⟨_,_,wv5++[.ref pc],rfl,?_,Ac,?_,?_,t9.trans tD,(sm9.trans sC).over hpw0⟩
   ·rw [Af npw];exact sC _ _ e9r
   ·rw [Af nzw.symm];exact sC _ _ e9z
   ·rw [Zal hkl hi hkid,<- Qh]
    refine (al9.mono (EnAt.same tD)).snoc ⟨pc,r,_,y,rfl,(SameT.set ecw).tup (SqT.of Ac),?_,hat.sameT (t9.trans tD),ky.same (t9.trans tD)⟩
    have q9:=((SameT.new (o:=.tup [.ref r,us[us.length - 1 - i],y]) hc).trans (SameT.set (o:=.lst (wv5++[.ref pc])) ecw)).tup qr
    have e:A8 (pl++[us.length - 1 - i])=A8 pl++[.int ((us.length - 1 - i:Nat):Int)]:=by unfold A8;rw [Ps];rfl
    show SqT K _ r (A8 (pl++[us.length - 1 - i]))
    rw [e]
    exact q9
  ·rintro σ5 H9 ⟨B8,B9,wv5,rfl,e9r,e9w,e9z,al9,t9,sm9⟩
   have e:(us.length:Int).toNat=us.length:=rfl
   rw [e,Q5,List.drop_zero] at al9
   refine ⟨_,?_,_,_,_,_,_,_,_,rv++[.ref p6],wv5,dn++[(pl,gv wd a,a)],_,rfl,⟨e9r,e9w,ar7.mono (LkAt.same t9),al9,?_,?_,t9.tup hn7,t9.tup ht7,sm9⟩,rfl⟩
   ·rw [hpop,O8]
    exact Nat.lt_succ_self _
   ·rw [<- J.eq,hpop,Qh]
    rfl
   ·intro z hz
    rcases Pr.mp hz with hz | hz
    ·exact J.kp z (Ti _ hz)
    ·exact Zio hpts 0 z (List.mem_reverse.mp hz)
theorem Fb {w x:Str}(h:w∈WA)(hx:x ∉ WA):decide (V.str w=V.str x)=false:=decide_eq_false fun e=>hx (by injection e with e;rw [<- e];exact h)
noncomputable def Nj (K:Oo):Sp:=fun vs H Q _=>∃(v:V)(w:Str)(n:Dt)(ps:List Tr)(k:Int),vs=[v,.int k]/\TrAt K H v (.mk w n ps)/\w∈WA/\∀ p,H p=none->Q (.ref p) (upd H p (.lst []))
theorem Zfb:Bg ["form", "number"] ["form", "number"] (A3 Fx):=by walk_at "sc"
theorem Zcu {f:Addr}{fd:FuncData}(F:Fun K "names_bound" "names_bound" Fx f fd)(T:Txt K mg):Az P w K mg base A0 1 f fd ["form", "number"] (Nj K):=by
 refine F.okq Zfb (fun vs H Q E h=>?_) (fun cdv A outer s H vs Q E hr h=>?_)
 ·obtain ⟨v,w,n,ps,k,rfl,_⟩:=h
  rfl
 ·obtain ⟨v,w,n,ps,k,rfl,ht,hw,q⟩:=h
  refine ⟨_,Ad (As (Ax (Bd K hr.u200) (Ak K (qv 0) Ag) Aq (Aw _)) (Ce) Ay)
   (Ad (As (Ax (Bd K hr.u200) (Ak K (qv 0) Ag) Aq (Aw _)) (Ce) Ay)
   (Ad (As (QW.qt (Lm (Ax (Bd K hr.u200) (Ak K (qv 0) Ag) Aq (Aw _)) (Kh (Ax (Bd K hr.u200) (qv 1) Ag (Aw _))))) (Ce) Ay)
   (Ai (Ar (Bb Ab))))),?_⟩
  cases ht with
  | @mk b pp _ nv _ us _ qb hn qp l hch =>
  walk_at "r"
  refine Au qb rfl ?_
  walk_at "r"
  rw [Fb hw (by decide)]
  walk_at "r"
  refine Au qb rfl ?_
  walk_at "r"
  rw [Fb hw (by decide)]
  walk_at "r"
  refine Au qb rfl ?_
  walk_at "r"
  rw [Fb hw (by decide)]
  walk_at "r"
  exact ⟨Bf,q⟩
noncomputable def Mc:Sp:=fun vs H Q _=>∃(a:Addr)(x:V)(us:List V),vs=[.ref a,x]/\H a=some (.lst us)/\us.length < 5000/\Q (.int (us.length:Nat)) (upd H a (.lst (us++[x])))
theorem Zjd:Bg ["shapes", "shape"] ["shapes", "shape"] (A3 F7):=by walk_at "sc"
theorem Zj2 {f:Addr}{fd:FuncData}(F:Fun K "new_kind" "new_kind" F7 f fd)(T:Txt K mg):Az P w K mg base A0 1 f fd ["shapes", "shape"] Mc:=by
 refine F.okq Zjd (fun vs H Q E h=>?_) (fun cdv A outer s H vs Q E hr h=>?_)
 ·obtain ⟨a,x,us,rfl,_⟩:=h
  rfl
 ·obtain ⟨a,x,us,rfl,ha,hl,q⟩:=h
  refine ⟨_,Ad (C3 (Dr K Pi P6 P7 Du (qv 0) (Aa (qv 1) Ab)))
   (Ai (Ar (Ba Jd (Bp (Cp K) (by rfl) T.len (by decide +kernel) (Aa (qv 0) Ab)) Ag))),?_⟩
  have bg:=big
  walk_at "r"
  refine B7 (SqL.of ha) ?_
  walk_at "r"
  refine C6 ha (by omega) ?_
  walk_at "r"
  refine C7 (SqL.of Ac) ?_
  walk_at "r"
  rw [O3,Pq,show ((us.length+1:Nat):Int) - 1=(us.length:Nat) by omega]
  exact q
noncomputable def Fj (i:Nat)(v:Option Bool):List V:=match v with
 | some b=>if i=kn b then [.str (kd b)] else [.str "same",.int (kn b:Nat)]
 | none=>[.str "any"]
structure ShA (K:Oo)(H:Hp)(a:Addr)(f:Va)(m:Nat):Prop where
 ex:∃ us:List V,H a=some (.lst us)/\us.length=m/\∀(i:Nat)(u:V),us[i]?=some u->∃ p,u=.ref p/\SqT K H p (Fj i (f i))
theorem ShA.same {H H':Hp}{a:Addr}{f:Va}{m:Nat}(h:ShA K H a f m)(s:Same H H'):ShA K H' a f m:=by
 obtain ⟨us,e,l,q⟩:=h.ex
 exact ⟨us,s _ _ e,l,fun i u hu=>let ⟨p,e1,e2⟩:=q i u hu;⟨p,e1,s.tup e2⟩⟩
noncomputable def Bt (a:Addr)(H H':Hp):Prop:=∀ x o,x≠a->H x=some o->H' x=some o
theorem G9 {H H':Hp}(s:Same H H')(a:Addr):Bt a H H':=fun x o _ h=>s x o h
theorem Bt.trans {a:Addr}{H H1 H2:Hp}(h:Bt a H H1)(g:Bt a H1 H2):Bt a H H2:=fun x o n e=>g x o n (h x o n e)
theorem Bt.upd {a:Addr}{H:Hp}{o:HO}:Bt a H (upd H a o):=fun x o' n e=>by rw [Af n];exact e
theorem Bt.t {a:Addr}{H H':Hp}{us:List V}(h:Bt a H H')(e:H a=some (.lst us)):SameT H H':=fun b =>
 ⟨fun xs e1=>h b _ (fun z=>by rw [z,e] at e1;cases e1) e1,fun o u e1=>h b _ (fun z=>by rw [z,e] at e1;cases e1) e1⟩
theorem ShA.snoc {H:Hp}{a p:Addr}{us:List V}{m:Nat}(hm:2<=m)(e:H a=some (.lst us))(l:us.length=m)(q:∀(i:Nat)(u:V),us[i]?=some u->∃ p,u=.ref p/\SqT K H p (Fj i (v0 i)))(hp:SqT K H p [.str "any"]):ShA K (upd H a (.lst (us++[.ref p]))) a v0 (m+1):=by
 refine ⟨us++[.ref p],Ac,by simp [l],fun i u hu=>?_⟩
 have st:SameT H (upd H a (.lst (us++[.ref p]))):=SameT.set e
 by_cases hi:i < us.length
 ·rw [Qf hi] at hu
  obtain ⟨p',e1,e2⟩:=q i u hu
  exact ⟨p',e1,st.tup e2⟩
 ·have hl:=(O7.mp hu).1
  rw [O3,Pq] at hl
  have:i=us.length:=by omega
  subst this
  rw [Qp (Oq _),Q5] at hu
  have hu:V.ref p=u:=by simpa using hu
  have hv:v0 us.length=none:=v0_ok.fr _ (by omega)
  exact ⟨p,hu.symm,by rw [hv];exact st.tup hp⟩
noncomputable def A2 (ns:List Nat):List V:=ns.map fun n=>V.int ((n:Nat):Int)
noncomputable def Zai (K:Oo):Sp:=fun vs H Q _=>∃(a:Addr)(w:Str)(m:Nat),vs=[.ref a,.str w]/\w∈WA/\2<=m/\m<=1000/\ShA K H a v0 m /\
 ∀(r b c:Addr)(H':Hp),Bt a H H'->ShA K H' a v0 (nx w m)->SqT K H' r [.int (gk w m:Nat),.ref b,.ref c]->H' b=some (.lst (A2 (A5 w (gk w m))))->H b=none->b≠a->H' c=some (.lst [])->H c=none->c≠a->c≠b->Q (.ref r) H'
theorem Zc7 {w:Str}(h:w∈WA):Ec (.str w) [.str "plus",.str "minus"]=decide (w = "plus" \/ w = "minus"):=by
 rcases G8 h with rfl | rfl | rfl | rfl | rfl | rfl | rfl <;> decide
theorem Zbx {w:Str}(h:w∈WA):Ec (.str w) [.str "gap",.str "odd",.str "name"]=decide (w = "gap"):=by
 rcases G8 h with rfl | rfl | rfl | rfl | rfl | rfl | rfl <;> decide
theorem Er {x y:Str}:decide (V.str x=V.str y)=decide (x=y):=by
 by_cases h:x=y
 ·subst h;simp
 ·rw [decide_eq_false h,decide_eq_false (fun e=>h (by injection e))]
theorem Zao:Bg ["shapes", "word", "one", "other", "function"] ["shapes", "word"] (A3 Ge):=by walk_at "sc"
theorem Zeb {f:Addr}{fd:FuncData}(F:Fun K "kinds_of_word" "kinds_of_word" Ge f fd)(T:Txt K mg)(G_NUM:Ds mg "NUM" (.int 0))(G_TRUTH:Ds mg "TRUTH" (.int 1))(C_new_kind:A6 P w K mg base 1 "new_kind" ["shapes", "shape"] Mc):Az P w K mg base A0 2 f fd ["shapes", "word"] (Zai K):=by
 refine F.okq Zao (fun vs H Q E h=>?_) (fun cdv A outer s H vs Q E hr h=>?_)
 ·obtain ⟨a,w,m,rfl,_⟩:=h
  rfl
 ·obtain ⟨a,w,m,rfl,hw,hm,hm2,S,q⟩:=h
  refine ⟨_,Ad (As (Ax (Bd K hr.u200) (qv 1) Aq (Aw _)) (Ai (Ar (Ap (Aa (C1 G_NUM) (Aa (Bb Ab) (Aa (Bb Ab) Ab)))))) Ay)
   (Ad (As (Ax (Bd K hr.u200) (qv 1) Aq (Aw _)) (Ai (Ar (Ap (Aa (C1 G_TRUTH) (Aa (Bb Ab) (Aa (Bb Ab) Ab)))))) Ay)
   (Ad (As (Ax (Hf K) (qv 1) (Ap (Aa Aq (Aa Aq Ab))) (by rfl)) (Ai (Ar (Ap (Aa (C1 G_NUM) (Aa (Bb (Aa (C1 G_NUM) (Aa (C1 G_NUM) Ab))) (Aa (Bb Ab) Ab)))))) Ay)
   (Ad (As (Ax (Bd K hr.u200) (qv 1) Aq (Aw _)) (Ai (Ar (Ap (Aa (C1 G_TRUTH) (Aa (Bb (Aa (C1 G_NUM) (Aa (C1 G_NUM) Ab))) (Aa (Bb Ab) Ab)))))) Ay)
   (Ad (Ao 2 Zao (Bc C_new_kind hr.m (Aa (qv 0) (Aa (Ap (Aa Aq Ab)) Ab))))
   (Ad (As (Ax (Bd K hr.u200) (qv 1) Aq (Aw _)) (Ai (Ar (Ap (Aa (qv 2) (Aa (Bb (Aa (C1 G_TRUTH) (Aa (qv 2) (Aa (qv 2) Ab)))) (Aa (Bb Ab) Ab)))))) Ay)
   (Ad (As (Ax (Hf K) (qv 1) (Ap (Aa Aq (Aa Aq (Aa Aq Ab)))) (by rfl)) (Ai (Ar (Ap (Aa (qv 2) (Aa (Bb Ab) (Aa (Bb Ab) Ab)))))) Ay)
   (Ce))))))),?_⟩
  have bg:=big
  obtain ⟨us,ea,la,qa⟩:=S.ex
  have fin:∀(H1:Hp)(g:Nat)(xs:List Nat)(us1:List V),Bt a H H1->H1 a=some (.lst us1)->ShA K H1 a v0 (nx w m)->g=gk w m->xs=A5 w (gk w m)->∀ b,H1 b=none->∀ c,upd H1 b (.lst (A2 xs)) c=none->∀ r,upd (upd H1 b (.lst (A2 xs))) c (.lst []) r=none->Q (.ref r) (upd (upd (upd H1 b (.lst (A2 xs))) c (.lst [])) r (.tup [.int (g:Nat),.ref b,.ref c])):=by
   rintro H1 g xs us1 hb e1 S1 rfl rfl b h1 c h2 r h3
   have s1:=Same.upd (o:=.lst (A2 (A5 w (gk w m)))) h1
   have s2:=Same.upd (o:=.lst []) h2
   have s3:=Same.upd (o:=.tup [.int (gk w m:Nat),.ref b,.ref c]) h3
   have fr:∀{x:Addr},H1 x=none->H x=none:=fun {x} hx=>by
    cases e:H x with
    | none=>rfl
    | some o=>rw [hb x o (fun z=>by rw [z,e1] at hx;cases hx) e] at hx;cases hx
   exact q r b c _ (hb.trans (G9 ((s1.trans s2).trans s3) a)) (S1.same ((s1.trans s2).trans s3)) (SqT.of Ac) ((s2.trans s3) _ _ Ac) (fr h1) (An e1 h1).symm (s3 _ _ Ac) (fr (s1.free h2)) (An (s1 _ _ e1) h2).symm (An Ac h2).symm
  have old:∀(H1:Hp)(g:Nat)(xs:List Nat),Same H H1->nx w m=m->g=gk w m->xs=A5 w (gk w m)->∀ b,H1 b=none->∀ c,upd H1 b (.lst (A2 xs)) c=none->∀ r,upd (upd H1 b (.lst (A2 xs))) c (.lst []) r=none->Q (.ref r) (upd (upd (upd H1 b (.lst (A2 xs))) c (.lst [])) r (.tup [.int (g:Nat),.ref b,.ref c])):=fun H1 g xs s1 hn=>fin H1 g xs us (G9 s1 a) (s1 _ _ ea) (by rw [hn];exact S.same s1)
  walk_at "r"
  rw [Er]
  refine Bx (fun c=>?_) (fun c1=>?_)
  ·have c:=of_decide_eq_true c
   subst c
   walk_at "r"
   refine ⟨Bf,fun b hb=>?_⟩
   walk_at "r"
   refine ⟨Bf,fun c hc=>?_⟩
   walk_at "r"
   refine ⟨Bu,fun r hr'=>?_⟩
   exact old H 0 [] (Same.refl _) (by unfold nx;rw [if_pos (by decide)]) (by unfold gk;rw [if_pos (by decide)]) (by unfold A5;rw [if_neg (by decide),if_neg (by decide)]) b hb c hc r hr'
  walk_at "r"
  rw [Er]
  refine Bx (fun c=>?_) (fun c2=>?_)
  ·have c:=of_decide_eq_true c
   subst c
   walk_at "r"
   refine ⟨Bf,fun b hb=>?_⟩
   walk_at "r"
   refine ⟨Bf,fun c hc=>?_⟩
   walk_at "r"
   refine ⟨Bu,fun r hr'=>?_⟩
   exact old H 1 [] (Same.refl _) (by unfold nx;rw [if_neg (by decide),if_pos (by decide)]) (by unfold gk;rw [if_neg (by decide),if_pos (by decide)]) (by unfold A5;rw [if_neg (by decide),if_neg (by decide)]) b hb c hc r hr'
  walk_at "r"
  refine ⟨Cc,fun p1 h1=>?_⟩
  refine Hv (.inr (SqT.of Ac)) rfl rfl ?_
  rw [if_neg Oz,Zc7 hw]
  have s1:Same H (upd H p1 (.tup [.str "plus",.str "minus"])):=Same.upd h1
  revert s1
  generalize upd H p1 (.tup [.str "plus",.str "minus"])=H1
  intro s1
  walk_at "r"
  refine Bx (fun c=>?_) (fun c3=>?_)
  ·have c0:=of_decide_eq_true c
   walk_at "r"
   refine ⟨Cc,fun b hb=>?_⟩
   walk_at "r"
   refine ⟨Bf,fun c hc=>?_⟩
   walk_at "r"
   refine ⟨Bu,fun r hr'=>?_⟩
   exact old H1 0 [0,0] s1 (by rcases c0 with rfl | rfl <;> rfl) (by rcases c0 with rfl | rfl <;> rfl) (by rcases c0 with rfl | rfl <;> rfl) b hb c hc r hr'
  walk_at "r"
  rw [Er]
  refine Bx (fun c=>?_) (fun c4=>?_)
  ·have c:=of_decide_eq_true c
   subst c
   walk_at "r"
   refine ⟨Cc,fun b hb=>?_⟩
   walk_at "r"
   refine ⟨Bf,fun c hc=>?_⟩
   walk_at "r"
   refine ⟨Bu,fun r hr'=>?_⟩
   exact old H1 1 [0,0] s1 rfl rfl rfl b hb c hc r hr'
  walk_at "r"
  refine ⟨Cn,fun p2 h2=>?_⟩
  walk_at "r"
  have s2:=s1.put (o:=.tup [.str "any"]) h2
  have ea2:=s2 _ _ ea
  refine ⟨a,.ref p2,us,rfl,ea2,by omega,?_⟩
  have S2:=ShA.snoc (K:=K) hm ea2 la (fun i u hu=>let ⟨p,e1,e2⟩:=qa i u hu;⟨p,e1,s2.tup e2⟩) (SqT.of Ac)
  have b2:Bt a H (upd (upd H1 p2 (.tup [.str "any"])) a (.lst (us++[.ref p2]))):=(G9 s2 a).trans Bt.upd
  have ea3:upd (upd H1 p2 (.tup [.str "any"])) a (.lst (us++[.ref p2])) a=some (.lst (us++[.ref p2])):=Ac
  revert S2 b2 ea3
  generalize upd (upd H1 p2 (.tup [.str "any"])) a (.lst (us++[.ref p2]))=H2
  intro S2 b2 ea3
  have hrest:w = "if" \/ w = "gap" := by
   have n1:¬ w = "num" := fun e=>c1 (decide_eq_true e)
   have n2:¬ w = "truth" := fun e=>c2 (decide_eq_true e)
   have n3:¬ (w = "plus" \/ w = "minus"):=fun e=>c3 (decide_eq_true e)
   have n4:¬ w = "less" := fun e=>c4 (decide_eq_true e)
   rcases G8 hw with h | h | h | h | h | h | h
   ·exact absurd h n1
   ·exact absurd h n2
   ·exact .inr h
   ·exact absurd (.inl h) n3
   ·exact absurd (.inr h) n3
   ·exact absurd h n4
   ·exact .inl h
  have hnx:nx w m=m+1:=by rcases hrest with rfl | rfl <;> rfl
  have hgk:gk w m=m:=by rcases hrest with rfl | rfl <;> rfl
  rw [la]
  walk_at "r"
  rw [Er]
  refine Bx (fun c=>?_) (fun c5=>?_)
  ·have c:=of_decide_eq_true c
   subst c
   walk_at "r"
   refine ⟨Bu,fun b hb=>?_⟩
   walk_at "r"
   refine ⟨Bf,fun c hc=>?_⟩
   walk_at "r"
   refine ⟨Bu,fun r hr'=>?_⟩
   exact fin H2 m [1,m,m] _ b2 ea3 (by rw [hnx];exact S2) hgk.symm rfl b hb c hc r hr'
  have hg:w = "gap" := hrest.resolve_left fun e=>c5 (decide_eq_true e)
  walk_at "r"
  refine ⟨Bu,fun p3 h3=>?_⟩
  refine Hv (.inr (SqT.of Ac)) rfl rfl ?_
  rw [if_neg Oz,Zbx hw,decide_eq_true hg]
  have s3:=Same.upd (o:=.tup [.str "gap",.str "odd",.str "name"]) h3
  walk_at "r"
  refine ⟨Bf,fun b hb=>?_⟩
  walk_at "r"
  refine ⟨Bf,fun c hc=>?_⟩
  walk_at "r"
  refine ⟨Bu,fun r hr'=>?_⟩
  subst hg
  exact fin _ m [] _ (b2.trans (G9 s3 a)) (s3 _ _ ea3) (by rw [hnx];exact S2.same s3) hgk.symm rfl b hb c hc r hr'
noncomputable def Za2 (K:Oo):Sp:=fun vs H Q _=>∃(e n k:Addr),vs=[.ref e,.ref n,.ref k]/\H e=some (.dK [])/\H n=some (.lst [])/\H k=some (.lst [])/\∀ p,H p=none->Q (.ref p) (upd H p (.dK []))
theorem sc_with_names:Bg ["around", "names", "kinds", "made", "name", "kind"] ["around", "names", "kinds"] (A3 Fs):=by walk_at "sc"
theorem Zg4 {f:Addr}{fd:FuncData}(F:Fun K "with_names" "with_names" Fs f fd)(T:Txt K mg):Az P w K mg base A0 1 f fd ["around", "names", "kinds"] (Za2 K):=by
 refine F.okq sc_with_names (fun vs H Q E h=>?_) (fun cdv A outer s H vs Q E hr h=>?_)
 ·obtain ⟨e,n,k,rfl,_⟩:=h
  rfl
 ·obtain ⟨e,n,k,rfl,he,hn,hk,q⟩:=h
  refine ⟨_,Ad (Ao 3 sc_with_names (Fi Zhm (by rfl) T.dict (by decide +kernel) (Aa (qv 0) Ab)))
   (Ad (Da Ph rfl (Zh1 K rfl T.zip (Aa (qv 1) (Aa (qv 2) Ab))) (Cy K (n:=2) rfl (Be (Av (i:=4) sc_with_names.nd rfl (Or.inl rfl)) (Be (Av (i:=5) sc_with_names.nd rfl (Or.inl rfl)) (C0)))) (Ce))
   (Ai (Ar (qv 3)))),?_⟩
  walk_at "r"
  refine ⟨e,[],rfl,he,fun p hp=>?_⟩
  have s1:=Same.upd (o:=.dK []) hp
  walk_at "r"
  refine ⟨n,k,rfl,SqL.of (s1 _ _ hn),SqL.of (s1 _ _ hk),?_⟩
  refine Zc9 (SqL.of (s1 _ _ hn)) (SqL.of (s1 _ _ hk)) ?_
  walk_at "r"
  exact q p hp
noncomputable def B0 (f:Va)(i:Nat):Nat:=match f i with
 | some b=>kn b
 | none=>i
structure VB (f:Va):Prop where
 n0:f 0=some false
 n1:f 1=some true
theorem VB.kn {f:Va}(h:VB f)(b:Bool):f (kn b)=some b:=by
 cases b
 ·exact h.n0
 ·exact h.n1
theorem ShA.at {H:Hp}{a:Addr}{f:Va}{m i:Nat}(h:ShA K H a f m)(hi:i < m):∃ us p,H a=some (.lst us)/\B5 us ((i:Nat):Int)=some (.ref p)/\SqT K H p (Fj i (f i)):=by
 obtain ⟨us,e,l,q⟩:=h.ex
 have hu:=Os (l:=us) (i:=i) (by omega)
 obtain ⟨p,e1,e2⟩:=q i _ hu
 rw [e1] at hu
 exact ⟨us,p,e,Ct hu,e2⟩
theorem Gf (b:Bool):Fj (kn b) (some b)=[.str (kd b)]:=if_pos rfl
theorem N7 {i:Nat}{b:Bool}(h:i≠kn b):Fj i (some b)=[.str "same",.int (kn b:Nat)]:=if_neg h
theorem Fo {b:Bool}{x:Str}(h:x ∉ (["num", "truth"]:List Str)):decide (V.str (kd b)=V.str x)=false:=decide_eq_false fun e=>h (by injection e with e;rw [<- e];cases b <;> decide)
theorem Fp (b:Bool):kn b < 2:=by cases b <;> decide
noncomputable def Hw (K:Oo):Sp:=fun vs H Q _=>∃(a:Addr)(f:Va)(m i:Nat),vs=[.ref a,.int (i:Nat)]/\ShA K H a f m/\VB f/\i < m/\2<=m/\Q (.int (B0 f i:Nat)) H
theorem Lj:Bg ["shapes", "kind", "last"] ["shapes", "kind"] (A3 Go):=by walk_at "sc"
theorem Zhb {f:Addr}{fd:FuncData}(F:Fun K "last_same" "last_same" Go f fd)(T:Txt K mg):Az P w K mg base A0 1 f fd ["shapes", "kind"] (Hw K):=by
 refine F.okq Lj (fun vs H Q E h=>?_) (fun cdv A outer s H vs Q E hr h=>?_)
 ·obtain ⟨a,f,m,i,rfl,_⟩:=h
  rfl
 ·obtain ⟨a,f,m,i,rfl,S,B,hi,hm,q⟩:=h
  refine ⟨_,Ad (Ao 2 Lj (qv 1))
   (Ad (Fn Ph (Ax (Bd K hr.u200) (Ak K (Ak K (qv 0) (qv 2)) Ag) Aq (Aw _)) (Ai (Ao 2 Lj (Ak K (Ak K (qv 0) (qv 2)) Ag))))
   (Ai (Ar (qv 2)))),?_⟩
  walk_at "r"
  refine ⟨fun n σ' H'=>H'=H/\∃ j:Nat,σ'=[some (.ref a),some (.int (i:Nat)),some (.int (j:Nat))]/\((n=1/\j=i)\/(n=0/\∃ b,f i=some b/\j=kn b)),⟨1,rfl,i,rfl,.inl ⟨rfl,rfl⟩⟩,?_⟩
  rintro n σ' H' ⟨rfl,j,rfl,hj⟩
  have hjm:j < m:=by
   rcases hj with ⟨_,rfl⟩ | ⟨_,b,_,rfl⟩
   ·exact hi
   ·have:=Fp b;omega
  obtain ⟨us,p,e,eu,qp⟩:=S.at hjm
  have hend:∀ b,f i=some b->j=kn b->Q (.int (j:Nat)) H':=fun b h1 h2=>by
   have:B0 f i=kn b:=by unfold B0;rw [h1]
   rw [h2,<- this]
   exact q
  walk_at "r"
  refine Bh (SqL.of e) eu ?_
  walk_at "r"
  cases hf:f j with
  | none =>
   rw [hf] at qp
   rcases hj with ⟨rfl,rfl⟩ | ⟨_,b,_,rfl⟩
   ·refine Au qp rfl ?_
    walk_at "r"
    rw [show decide (V.str "any" = V.str "same")=false by decide]
    walk_at "r"
    have:B0 f j=j:=by unfold B0;rw [hf]
    rw [this] at q
    exact q
   ·rw [B.kn b] at hf
    cases hf
  | some b =>
   rw [hf] at qp
   by_cases hk:j=kn b
   ·rw [hk,Gf] at qp
    refine Au qp rfl ?_
    walk_at "r"
    rw [Fo (by decide)]
    walk_at "r"
    refine hend b ?_ hk
    rcases hj with ⟨_,rfl⟩ | ⟨_,b',h1,h2⟩
    ·exact hf
    ·rw [h2,B.kn b'] at hf
     rw [h1,hf]
   ·rw [N7 hk] at qp
    rcases hj with ⟨rfl,rfl⟩ | ⟨_,b',h1,h2⟩
    ·refine Au qp rfl ?_
     walk_at "r"
     rw [show decide (V.str "same" = V.str "same")=true by decide]
     refine iteT ?_
     refine ⟨fun σ2 H2=>∃ m',m' < 1/\H2=H'/\∃ j':Nat,σ2=[some (.ref a),some (.int (j:Nat)),some (.int (j':Nat))]/\((m'=1/\j'=j)\/(m'=0/\∃ b,f j=some b/\j'=kn b)),fun _ _ h=>h,?_⟩
     walk_at "r"
     refine Bh (SqL.of e) eu ?_
     walk_at "r"
     refine Au qp rfl ?_
     walk_at "r"
     exact ⟨0,by decide,rfl,kn b,rfl,.inr ⟨rfl,b,hf,rfl⟩⟩
    ·rw [h2,B.kn b'] at hf
     cases hf
     exact absurd h2 hk
noncomputable def M6 (K:Oo):Sp:=fun vs H Q _=>∃(a:Addr)(f:Va)(m i:Nat)(b:Bool),vs=[.ref a,.int (i:Nat)]/\ShA K H a f m/\VB f/\i < m/\2<=m/\f i=some b/\∀ H',Same H H'->Q (.bl false) H'
theorem sc_holds_itself:Bg ["shapes", "kind", "passed", "waiting", "top", "part", "inner"] ["shapes", "kind"] (A3 Fy):=by walk_at "sc"
theorem Zcp {f:Addr}{fd:FuncData}(F:Fun K "holds_itself" "holds_itself" Fy f fd)(T:Txt K mg)(C_last_same:A6 P w K mg base 1 "last_same" ["shapes", "kind"] (Hw K)):Az P w K mg base A0 2 f fd ["shapes", "kind"] (M6 K):=by
 refine F.okq sc_holds_itself (fun vs H Q E h=>?_) (fun cdv A outer s H vs Q E hr h=>?_)
 ·obtain ⟨a,f,m,i,b,rfl,_⟩:=h
  rfl
 ·obtain ⟨a,f,m,i,b,rfl,S,B,hi,hm,hb,q⟩:=h
  refine ⟨_,Ad (Ao 2 sc_holds_itself (K6))
   (Ad (Ao 3 sc_holds_itself (Bb (Aa (Bc C_last_same hr.m (Aa (qv 0) (Aa (qv 1) Ab))) Ab)))
   (Ad (Fn Ph (Ex K (qv 3) (by intro _;rfl)) (Ad (Ao 4 sc_holds_itself (Ak K (qv 3) (Zbc M0 Ag)))
   (Ad (As (Fg (Oh hr.u1 (qv 4) (qv 2))) (Ad (Gm hr.u1 (qv 2) (qv 4) Dx)
   (Ad (C3 (G7 K Pi Rb Rc Gz (qv 3)))
   (Ai (Md)))) Ay)
   (Ad (Gm hr.u1 (qv 2) (qv 4) Dx)
   (Ai (Da Ph rfl (Cw K (Fd (Fc K) (Ak K (qv 0) (qv 4)) (Dj Ag) (Jq))) (Av (i:=5) sc_holds_itself.nd rfl (Or.inl rfl)) (Ce)))))))
   (Ai (Ar Dx)))),?_⟩
  have bg:=big
  have hrt:B0 f i=kn b:=by unfold B0;rw [hb]
  walk_at "r"
  refine fun pd hpd=>?_
  have s1:=Same.upd (o:=.dK []) hpd
  walk_at "r"
  refine ⟨a,f,m,i,rfl,S.same s1,B,hi,hm,?_⟩
  rw [hrt]
  walk_at "r"
  refine ⟨Cn,fun pw hpw=>?_⟩
  have s2:=Same.upd (o:=.lst [.int (kn b:Nat)]) hpw
  have nd:pd≠pw:=An Ac hpw
  have hpw0:=s1.free hpw
  walk_at "r"
  refine ⟨fun n σ' H'=>∃ v4 v5 v6 kvs wv,σ'=[some (.ref a),some (.int (i:Nat)),some (.ref pd),some (.ref pw),v4,v5,v6]/\H' pd=some (.dK kvs)/\H' pw=some (.lst wv)/\Same H H'/\((n=2/\kvs=[]/\wv=[.int (kn b:Nat)])\/(n=1/\kvs=[(.inl ((kn b:Nat):Int),.bl false)]/\wv=[.int (kn b:Nat)])\/(n=0/\wv=[])),
   ⟨2,none,none,none,[],_,rfl,s2 _ _ Ac,Ac,s1.trans s2,.inl ⟨rfl,rfl,rfl⟩⟩,?_⟩
  rintro n σ' H1 ⟨v4,v5,v6,kvs,wv,rfl,ed,ew,sm,hc⟩
  walk_at "r"
  refine F6 (SqL.of ew) ?_
  rcases hc with ⟨rfl,rfl,rfl⟩ | ⟨rfl,rfl,rfl⟩ | ⟨rfl,rfl⟩
  ·refine iteT ?_
   refine ⟨fun σ2 H2=>∃ m',m' < 2/\∃ v4 v5 v6 kvs wv,σ2=[some (.ref a),some (.int (i:Nat)),some (.ref pd),some (.ref pw),v4,v5,v6]/\H2 pd=some (.dK kvs)/\H2 pw=some (.lst wv)/\Same H H2/\((m'=2/\kvs=[]/\wv=[.int (kn b:Nat)])\/(m'=1/\kvs=[(.inl ((kn b:Nat):Int),.bl false)]/\wv=[.int (kn b:Nat)])\/(m'=0/\wv=[])),fun _ _ h=>h,?_⟩
   walk_at "r"
   refine Bh (SqL.of ew) rfl ?_
   walk_at "r"
   refine ⟨pd,_,rfl,DGet.k (k:=.inl ((kn b:Nat):Int)) ed,?_⟩
   refine ⟨false,rfl,?_⟩
   walk_at "r"
   refine ⟨pd,_,rfl,DPut.k (k:=.inl ((kn b:Nat):Int)) ed (by show 0 < sizeLine;decide),?_⟩
   have ed2:upd H1 pd (.dK (A1 [] (.inl ((kn b:Nat):Int)) (.bl false))) pd=some (.dK [(.inl ((kn b:Nat):Int),.bl false)]):=Ac
   have ew2:upd H1 pd (.dK (A1 [] (.inl ((kn b:Nat):Int)) (.bl false))) pw=some (.lst [.int (kn b:Nat)]):=by rw [Af nd.symm];exact ew
   have sm2:Same H (upd H1 pd (.dK (A1 [] (.inl ((kn b:Nat):Int)) (.bl false)))):=sm.over hpd
   revert ed2 ew2 sm2
   generalize upd H1 pd (.dK (A1 [] (.inl ((kn b:Nat):Int)) (.bl false)))=H2
   intro ed2 ew2 sm2
   obtain ⟨us,p,e,eu,qp⟩:=(S.same sm2).at (i:=kn b) (by have:=Fp b;omega)
   rw [B.kn b,Gf] at qp
   walk_at "r"
   refine Bh (SqL.of e) eu ?_
   walk_at "r"
   refine .inr (.inr ⟨p,_,rfl,qp,by show ¬ (HT.sIx 1 0 (some 1)=0/\HT.sIx 1 1 none=1);decide,fun p3 h3=>?_⟩)
   have s3:=Same.upd (o:=.tup (Br [.str (kd b)] (some 1) none)) h3
   refine .inr (.inl ⟨p3,rfl,⟨_,SqT.of Ac⟩,?_⟩)
   refine Zd2 (SqT.of Ac) ?_
   exact ⟨1,by decide,_,_,_,_,_,rfl,s3 _ _ ed2,s3 _ _ ew2,sm2.trans s3,.inr (.inl ⟨rfl,rfl,rfl⟩)⟩
  ·refine iteT ?_
   refine ⟨fun σ2 H2=>∃ m',m' < 1/\∃ v4 v5 v6 kvs wv,σ2=[some (.ref a),some (.int (i:Nat)),some (.ref pd),some (.ref pw),v4,v5,v6]/\H2 pd=some (.dK kvs)/\H2 pw=some (.lst wv)/\Same H H2/\((m'=2/\kvs=[]/\wv=[.int (kn b:Nat)])\/(m'=1/\kvs=[(.inl ((kn b:Nat):Int),.bl false)]/\wv=[.int (kn b:Nat)])\/(m'=0/\wv=[])),fun _ _ h=>h,?_⟩
   walk_at "r"
   refine Bh (SqL.of ew) rfl ?_
   walk_at "r"
   refine ⟨pd,_,rfl,DGet.k (k:=.inl ((kn b:Nat):Int)) ed,?_⟩
   rw [Cs rfl]
   refine ⟨true,rfl,?_⟩
   walk_at "r"
   refine ⟨pd,_,rfl,DPut.k (k:=.inl ((kn b:Nat):Int)) ed (by show 1 < sizeLine;decide),?_⟩
   walk_at "r"
   refine B7 (SqL.of (by rw [Af nd.symm];exact ew)) ?_
   refine Gs (xs:=[]) (by rw [Af nd.symm];exact ew) ?_
   exact ⟨0,by decide,_,_,_,_,_,rfl,by rw [Af nd];exact Ac,Ac,(sm.over hpd).over hpw0,.inr (.inr ⟨rfl,rfl⟩)⟩
  ·refine iteF ?_
   walk_at "r"
   exact q _ sm
noncomputable def Lb (f:Va)(i:Nat)(b:Bool)(f':Va):Prop:=(f i=none/\f'=Dw f i b)\/(f i=some b/\f'=f)
theorem ShA.off {H:Hp}{a x:Addr}{f:Va}{m:Nat}{zs:List V}{o:HO}(h:ShA K H a f m)(n:a≠x)(e:H x=some (.lst zs)):ShA K (upd H x o) a f m:=by
 obtain ⟨us,e1,l,q⟩:=h.ex
 exact ⟨us,by rw [Af n];exact e1,l,fun i u hu=>let ⟨p,e2,e3⟩:=q i u hu;⟨p,e2,(SameT.set e).tup e3⟩⟩
theorem ShA.put {H:Hp}{a p:Addr}{f:Va}{m i:Nat}{b:Bool}{us:List V}(e:H a=some (.lst us))(l:us.length=m)(q:∀(i:Nat)(u:V),us[i]?=some u->∃ p,u=.ref p/\SqT K H p (Fj i (f i)))(hk:i≠kn b)(hp:SqT K H p [.str "same",.int (kn b:Nat)]):ShA K (upd H a (.lst (us.set i (.ref p)))) a (Dw f i b) m:=by
 have st:SameT H (upd H a (.lst (us.set i (.ref p)))):=SameT.set e
 refine ⟨us.set i (.ref p),Ac,by simp [l],fun k u hu=>?_⟩
 by_cases hki:k=i
 ·subst hki
  have hl:=(O7.mp hu).1
  rw [List.length_set] at hl
  rw [Te hl] at hu
  have hu:V.ref p=u:=by simpa using hu
  refine ⟨p,hu.symm,?_⟩
  rw [show Dw f k b k=some b from if_pos rfl,N7 hk]
  exact st.tup hp
 ·rw [Tj (fun z=>hki z.symm)] at hu
  obtain ⟨p',e1,e2⟩:=q k u hu
  refine ⟨p',e1,?_⟩
  rw [show Dw f i b k=f k from if_neg hki]
  exact st.tup e2
theorem VB.set {f:Va}{i:Nat}{b:Bool}(h:VB f)(hi:f i=none):VB (Dw f i b):=⟨(if_neg (fun z=>by rw [<- z,h.n0] at hi;cases hi)).trans h.n0,(if_neg (fun z=>by rw [<- z,h.n1] at hi;cases hi)).trans h.n1⟩
noncomputable def Zbm (K:Oo):Sp:=fun vs H Q _=>∃(a:Addr)(f:Va)(m i j:Nat)(b:Bool),vs=[.ref a,.int (i:Nat),.int (j:Nat)]/\ShA K H a f m/\VB f/\i < m/\j < m/\2<=m/\f j=some b /\
 (∀ a' f' H',Same H H'->H a'=none->Lb f i b f'->VB f'->ShA K H' a' f' m->Q (.ref a') H')/\(∀ c H',Same H H'->f i=some c->c≠b->Q .non H')
theorem Zej {b c:Bool}:decide (V.int ((kn c:Nat):Int)=V.int ((kn b:Nat):Int))=(c == b):=by cases b <;> cases c <;> decide
theorem sc_joined:Bg ["shapes", "one", "other", "made", "waiting", "pair", "left", "right"] ["shapes", "one", "other"] (A3 Gw):=by walk_at "sc"
theorem Zdp {f:Addr}{fd:FuncData}(F:Fun K "joined" "joined" Gw f fd)(T:Txt K mg)(C_last_same:A6 P w K mg base 1 "last_same" ["shapes", "kind"] (Hw K))(C_holds_itself:A6 P w K mg base 2 "holds_itself" ["shapes", "kind"] (M6 K)):Az P w K mg base A0 3 f fd ["shapes", "one", "other"] (Zbm K):=by
 refine F.okq sc_joined (fun vs H Q E h=>?_) (fun cdv A outer s H vs Q E hr h=>?_)
 ·obtain ⟨a,f,m,i,j,b,rfl,_⟩:=h
  rfl
 ·obtain ⟨a,f,m,i,j,b,rfl,S,B,hi,hj,hm,hb,q,qn⟩:=h
  refine ⟨_,Ad (Ao 3 sc_joined (Fi (Mu K) (by rfl) T.list (by decide +kernel) (Aa (qv 0) Ab)))
   (Ad (Ao 4 sc_joined (Bb (Aa (Ap (Aa (qv 1) (Aa (qv 2) Ab))) Ab)))
   (Ad (Fn Ph (Ex K (qv 4) (by intro _;rfl)) (Ad (Ao 5 sc_joined (G7 K Pi Rb Rc Gz (qv 4)))
   (Ad (Zhg (i:=6) (j:=7) rfl sc_joined.nd rfl rfl (by decide) rfl rfl (Aa (Bc C_last_same hr.m (Aa (qv 3) (Aa (Ak K (qv 5) Ag) Ab))) (Aa (Bc C_last_same hr.m (Aa (qv 3) (Aa (Ak K (qv 5) Ag) Ab))) Ab)))
   (Ad (As (Ax (Bd K hr.u200) (qv 6) (qv 7) (Aw _)) (Ai (Md)) Ay)
   (Ad (As (Ax (Bd K hr.u200) (Ak K (Ak K (qv 3) (qv 7)) Ag) Aq (Aw _)) (Ce) Ay)
   (Ad (As (QW.qt (Lm (Ax (Bd K hr.u200) (Ak K (Ak K (qv 3) (qv 6)) Ag) Aq (Aw _)) (Kh (Ax (Bd K hr.u200) (Ak K (Ak K (qv 3) (qv 7)) Ag) Aq (Aw _))))) (Ce) (Ai (As (Ax (Jn K hr.u200) (Ak K (Ak K (qv 3) (qv 6)) Ag) Aq (Aw _)) (Ai (Ar D7)) Ay)))
   (Ai (Fq (Ap (Aa Aq (Aa (qv 7) Ab))) (Zfa (qv 3) (qv 6) Zd4)))))))))
   (Ai (Ar (G5 (Dy (Bc C_holds_itself hr.m (Aa (qv 3) (Aa (qv 1) Ab)))) D7 (qv 3)))))),?_⟩
  have bg:=big
  have hrj:B0 f j=kn b:=by unfold B0;rw [hb]
  obtain ⟨us,ea,la,qa⟩:=S.ex
  walk_at "r"
  refine ⟨a,us,rfl,.inl (SqL.of ea),fun am ham=>?_⟩
  have s1:=Same.upd (o:=.lst us) ham
  have S1:ShA K (upd H am (.lst us)) am f m:=⟨us,Ac,la,fun i u hu=>let ⟨p,e1,e2⟩:=qa i u hu;⟨p,e1,s1.tup e2⟩⟩
  have em1:upd H am (.lst us) am=some (.lst us):=Ac
  revert s1 S1 em1
  generalize upd H am (.lst us)=H1
  intro s1 S1 em1
  walk_at "r"
  refine ⟨Cc,fun pt hpt=>?_⟩
  walk_at "r"
  refine ⟨Cn,fun pw hpw=>?_⟩
  walk_at "r"
  have s2:=Same.upd (o:=.tup [.int (i:Nat),.int (j:Nat)]) hpt
  have s3:=Same.upd (o:=.lst [.ref pt]) hpw
  have npw:am≠pw:=An (s2 _ _ em1) hpw
  have hpw0:H pw=none:=(s1.trans s2).free hpw
  have ham0:H am=none:=ham
  refine ⟨fun n σ' H'=>∃ v5 v6 v7 wv f',σ'=[some (.ref a),some (.int (i:Nat)),some (.int (j:Nat)),some (.ref am),some (.ref pw),v5,v6,v7]/\H' pw=some (.lst wv)/\ShA K H' am f' m/\VB f'/\Same H H'/\((n=1/\wv=[.ref pt]/\f'=f/\SqT K H' pt [.int (i:Nat),.int (j:Nat)])\/(n=0/\wv=[]/\Lb f i b f')),
   ⟨1,none,none,none,_,f,rfl,Ac,S1.same (s2.trans s3),B,(s1.trans s2).trans s3,.inl ⟨rfl,rfl,rfl,SqT.of (s3 _ _ Ac)⟩⟩,?_⟩
  rintro n σ' H2 ⟨v5,v6,v7,wv,f',rfl,ew,S2,B2,sm,hc⟩
  walk_at "r"
  refine F6 (SqL.of ew) ?_
  rcases hc with ⟨rfl,rfl,rfl,qpt⟩ | ⟨rfl,rfl,hJ⟩
  ·refine iteT ?_
   refine ⟨fun σ2 H2=>∃ m',m' < 1/\∃ v5 v6 v7 wv f2,σ2=[some (.ref a),some (.int (i:Nat)),some (.int (j:Nat)),some (.ref am),some (.ref pw),v5,v6,v7]/\H2 pw=some (.lst wv)/\ShA K H2 am f2 m/\VB f2/\Same H H2/\((m'=1/\wv=[.ref pt]/\f2=f'/\SqT K H2 pt [.int (i:Nat),.int (j:Nat)])\/(m'=0/\wv=[]/\Lb f' i b f2)),fun _ _ h=>h,?_⟩
   walk_at "r"
   refine B7 (SqL.of ew) ?_
   refine Gs (xs:=[]) ew ?_
   have ew3:upd H2 pw (.lst []) pw=some (.lst []):=Ac
   have S3:=S2.off (o:=.lst []) npw ew
   have sm3:=sm.over (o:=.lst []) hpw0
   have qpt3:=(SameT.set (o:=.lst []) ew).tup qpt
   revert ew3 S3 sm3 qpt3
   generalize upd H2 pw (.lst [])=H3
   intro ew3 S3 sm3 qpt3
   walk_at "r"
   refine Au qpt3 rfl ?_
   walk_at "r"
   refine ⟨am,f',m,i,rfl,S3,B2,hi,hm,?_⟩
   walk_at "r"
   refine Au qpt3 rfl ?_
   walk_at "r"
   refine ⟨am,f',m,j,rfl,S3,B2,hj,hm,?_⟩
   rw [hrj]
   walk_at "r"
   refine ⟨_,_,rfl,?_⟩
   have ew4:=ew3
   have S4:=S3
   have sm4:=sm3
   obtain ⟨us4,pk,e4,eu4,qk⟩:=S4.at (i:=kn b) (by have:=Fp b;omega)
   rw [B2.kn b,Gf] at qk
   cases hf:f' i with
   | some c =>
    have hri:B0 f' i=kn c:=by unfold B0;rw [hf]
    rw [hri]
    walk_at "r"
    rw [Zej]
    by_cases hcb:c=b
    ·subst hcb
     rw [show (c == c)=true by cases c <;> rfl]
     walk_at "r"
     exact ⟨0,by decide,_,_,_,_,f',rfl,ew4,S4,B2,sm4,.inr ⟨rfl,rfl,.inr ⟨hf,rfl⟩⟩⟩
    ·rw [show (c == b)=false by cases c <;> cases b <;> first | rfl | exact absurd rfl hcb]
     obtain ⟨us5,pi,e5,eu5,qi⟩:=S4.at (i:=kn c) (by have:=Fp c;omega)
     rw [B2.kn c,Gf] at qi
     walk_at "r"
     refine Bh (SqL.of e4) eu4 ?_
     walk_at "r"
     refine Au qk rfl ?_
     walk_at "r"
     rw [Fo (by decide)]
     walk_at "r"
     refine Bh (SqL.of e5) eu5 ?_
     walk_at "r"
     refine Au qi rfl ?_
     walk_at "r"
     rw [Fo (by decide)]
     walk_at "r"
     refine Bh (SqL.of e5) eu5 ?_
     walk_at "r"
     refine Au qi rfl ?_
     walk_at "r"
     rw [Fo (by decide)]
     walk_at "r"
     exact qn c _ sm4 hf hcb
   | none =>
    have hri:B0 f' i=i:=by unfold B0;rw [hf]
    rw [hri]
    have hik:i≠kn b:=fun z=>by rw [z,B2.kn b] at hf;cases hf
    obtain ⟨us5,e5,l5,q5⟩:=S4.ex
    obtain ⟨us6,pi,e6,eu6,qi⟩:=S4.at hi
    rw [e5] at e6
    cases e6
    rw [hf] at qi
    have qi:SqT K H3 pi [.str "any"]:=qi
    walk_at "r"
    rw [decide_eq_false (show ¬ V.int ((i:Nat):Int)=V.int ((kn b:Nat):Int) from fun z=>hik (by injection z with z;omega))]
    walk_at "r"
    refine Bh (SqL.of e4) eu4 ?_
    walk_at "r"
    refine Au qk rfl ?_
    walk_at "r"
    rw [Fo (by decide)]
    walk_at "r"
    refine Bh (SqL.of e5) eu6 ?_
    walk_at "r"
    refine Au qi rfl ?_
    walk_at "r"
    rw [show decide (V.str "any" = V.str "to")=false by decide]
    walk_at "r"
    refine Bh (SqL.of e5) eu6 ?_
    walk_at "r"
    refine Au qi rfl ?_
    walk_at "r"
    rw [show decide (V.str "any" = V.str "any")=true by decide]
    walk_at "r"
    refine ⟨Cc,fun p7 h7=>?_⟩
    have s7:=Same.upd (o:=.tup [.str "same",.int (kn b:Nat)]) h7
    walk_at "r"
    refine Zg1 (j:=i) (s7 _ _ e5) (by unfold Cu;rw [l5];simp [hi]) ?_
    refine ⟨0,by decide,_,_,_,_,Dw f' i b,rfl,?_,ShA.put (s7 _ _ e5) l5 (fun k u hu=>let ⟨p,e1,e2⟩:=q5 k u hu;⟨p,e1,s7.tup e2⟩) hik (SqT.of Ac),B2.set hf,(sm4.trans s7).over ham0,.inr ⟨rfl,rfl,.inl ⟨hf,rfl⟩⟩⟩
    rw [Af npw.symm]
    exact s7 _ _ ew4
  ·refine iteF ?_
   have hfi:f' i=some b:=by
    rcases hJ with ⟨_,rfl⟩ | ⟨h,rfl⟩
    ·exact if_pos rfl
    ·exact h
   walk_at "r"
   refine ⟨am,f',m,i,b,rfl,S2,B2,hi,hm,hfi,fun H3 s3=>?_⟩
   walk_at "r"
   exact q am f' H3 (sm.trans s3) ham0 hJ B2 (S2.same s3)
noncomputable def PaAt (K:Oo)(H:Hp)(v:V)(x:Nat×Nat):Prop:=∃ a,v=.ref a/\SqT K H a [.int (x.1:Nat),.int (x.2:Nat)]
theorem PaAt.same {H H':Hp}(e:SameT H H')(v:V)(x:Nat×Nat)(h:PaAt K H v x):PaAt K H' v x:=let ⟨a,e1,q⟩:=h;⟨a,e1,e.tup q⟩
noncomputable def Zac (K:Oo):Sp:=fun vs H Q _=>∃(a b:Addr)(f f':Va)(m:Nat)(pv:List V)(ps:List (Nat×Nat))(fs:List Bool),vs=[.ref a,.ref b]/\ShA K H a f m/\VB f/\2<=m/\H b=some (.lst pv)/\Al (PaAt K H) pv ps/\(∀ p∈ps,p.1 < m/\p.2 < m)/\Fit ps f fs f'/\ps.length<=1000 /\
 ∀ r a' c H',Same H H'->SqT K H' r [.ref a',.ref c]->H' c=some (.lst (fs.map V.bl))->ShA K H' a' f' m->VB f'->Q (.ref r) H'
theorem sc_fitted:Bg ["shapes", "pairs", "made", "fits", "given", "asked", "after"] ["shapes", "pairs"] (A3 Gi):=by walk_at "sc"
theorem Ze4 {f:Addr}{fd:FuncData}(F:Fun K "fitted" "fitted" Gi f fd)(T:Txt K mg)(C_joined:A6 P w K mg base 3 "joined" ["shapes", "one", "other"] (Zbm K)):Az P w K mg base A0 4 f fd ["shapes", "pairs"] (Zac K):=by
 refine F.okq sc_fitted (fun vs H Q E h=>?_) (fun cdv A outer s H vs Q E hr h=>?_)
 ·obtain ⟨a,b,f,f',m,pv,ps,fs,rfl,_⟩:=h
  rfl
 ·obtain ⟨a,b,f,f',m,pv,ps,fs,rfl,S,B,hm,eb,al,hlt,hfit,hl,q⟩:=h
  refine ⟨_,Ad (Ao 2 sc_fitted (qv 0))
   (Ad (Ao 3 sc_fitted (Bb Ab))
   (Ad (Da Ph rfl (Cw K (qv 1)) (Cy K (n:=2) rfl (Be (Av (i:=4) sc_fitted.nd rfl (Or.inl rfl)) (Be (Av (i:=5) sc_fitted.nd rfl (Or.inl rfl)) (C0)))) (Ad (Ao 6 sc_fitted (Bc C_joined hr.m (Aa (qv 2) (Aa (qv 4) (Aa (qv 5) Ab)))))
   (Ad (C3 (Dr K Pi P6 P7 Du (qv 3) (Aa (Ng (Zjo (qv 6))) Ab)))
   (Ai (Ao 2 sc_fitted (G5 (Fg (Hl (qv 6))) (qv 2) (qv 6)))))))
   (Ai (Ar (Ap (Aa (qv 2) (Aa (qv 3) Ab))))))),?_⟩
  have bg:=big
  have eN:∀ c:Addr,decide (V.ref c=V.non)=false:=fun c=>decide_eq_false (fun z=>by cases z)
  walk_at "r"
  refine ⟨Bf,fun pf hpf=>?_⟩
  have s1:=Same.upd (o:=.lst []) hpf
  obtain ⟨us,ea,_,_⟩:=S.ex
  walk_at "r"
  refine .inl ⟨b,rfl,⟨_,SqL.of (s1 _ _ eb)⟩,?_⟩
  refine Lq (K:=K) (a:=b) (xs:=pv) (fun i σ' H'=>∃ v4 v5 v6 am f1 fd1 fr,σ'=[some (.ref a),some (.ref b),some (.ref am),some (.ref pf),v4,v5,v6]/\H' pf=some (.lst (fd1.map V.bl))/\fd1.length=i/\ShA K H' am f1 m/\VB f1/\am≠pf/\Same H H'/\Fit (ps.drop i) f1 fr f'/\fd1++fr=fs)
   ⟨none,none,none,a,f,[],fs,rfl,Ac,rfl,S.same s1,B,An ea hpf,s1,hfit,rfl⟩ ?_ ?_ ?_
  ·rintro i σ' H' _ ⟨_,_,_,_,_,_,_,_,_,_,_,_,_,sm,_⟩
   exact SqL.of (sm _ _ eb)
  ·rintro i x σ' H1 hx ⟨v4,v5,v6,am,f1,fd1,fr,rfl,ef,lf,S1,B1,nf,sm,ft,efs⟩
   obtain ⟨y,hy,p,rfl,qp⟩:=al.get hx
   obtain ⟨g,k⟩:=y
   have hi:=(O7.mp hy).1
   have hpy:=hlt _ (Px hy)
   have hdr:ps.drop i=(g,k)::ps.drop (i+1):=by
    rw [P5 hi]
    rw [Os hi] at hy
    rw [O4 hy]
   rw [hdr] at ft
   have step:∀(f2:Va)(bl:Bool)(fr2:List Bool)(am2:Addr)(H2:Hp)(v:V),Same H1 H2->ShA K H2 am2 f2 m->VB f2->am2≠pf->Fit (ps.drop (i+1)) f2 fr2 f'->fr=bl::fr2->upd H2 pf (.lst (fd1.map V.bl++[.bl bl])) pf=some (.lst ((fd1++[bl]).map V.bl))/\(fd1++[bl]).length=i+1/\ShA K (upd H2 pf (.lst (fd1.map V.bl++[.bl bl]))) am2 f2 m/\Same H (upd H2 pf (.lst (fd1.map V.bl++[.bl bl])))/\(fd1++[bl])++fr2=fs:=by
    intro f2 bl fr2 am2 H2 v s2 S2 B2 n2 ft2 hfr
    refine ⟨by rw [Ac,Ps];rfl,by simp [lf],S2.off n2 (s2 _ _ ef),(sm.trans s2).over hpf,?_⟩
    rw [<- efs,hfr,Qh]
    rfl
   walk_at "r"
   refine C9 (sm.tup qp) rfl ?_
   walk_at "r"
   have hlen:(fd1.map V.bl).length < sizeLine:=by rw [Ox];omega
   cases ft with
   | @old _ _ b1 c1 _ _ _ fs2 hg ha kf =>
    refine ⟨am,f1,m,g,k,b1,rfl,S1,B1,hpy.1,hpy.2,hm,ha,fun a' f2 H2 s2 hn hJ B2 S2=>?_,fun c H2 s2 hc hne=>?_⟩
    ·have hcb:c1=b1/\f2=f1:=by
      rcases hJ with ⟨h,_⟩ | ⟨h,h2⟩
      ·rw [hg] at h;cases h
      ·rw [hg] at h;exact ⟨O4 h,h2⟩
     obtain ⟨rfl,rfl⟩:=hcb
     obtain ⟨e1,e2,e3,e4,e5⟩:=step f2 true fs2 a' H2 .non s2 S2 B2 (An ef hn).symm kf (by cases c1 <;> rfl)
     walk_at "r"
     refine B7 (SqL.of (s2 _ _ ef)) ?_
     walk_at "r"
     refine C6 (s2 _ _ ef) hlen ?_
     rw [eN a']
     walk_at "r"
     rw [eN a']
     walk_at "r"
     exact ⟨_,_,_,a',f2,fd1++[true],fs2,rfl,e1,e2,e3,B2,(An ef hn).symm,e4,kf,e5⟩
    ·rw [hg] at hc
     cases hc
     obtain ⟨e1,e2,e3,e4,e5⟩:=step f1 false fs2 am H2 .non s2 (S1.same s2) B1 nf kf (by cases c1 <;> cases b1 <;> first | rfl | exact absurd rfl hne)
     walk_at "r"
     refine B7 (SqL.of (s2 _ _ ef)) ?_
     walk_at "r"
     refine C6 (s2 _ _ ef) hlen ?_
     rw [decide_eq_true (Eq.refl V.non)]
     walk_at "r"
     rw [decide_eq_true (Eq.refl V.non)]
     walk_at "r"
     exact ⟨_,_,_,am,f1,fd1++[false],fs2,rfl,e1,e2,e3,B1,nf,e4,kf,e5⟩
   | @new _ _ b1 _ _ _ fs2 hg ha kf =>
    refine ⟨am,f1,m,g,k,b1,rfl,S1,B1,hpy.1,hpy.2,hm,ha,fun a' f2 H2 s2 hn hJ B2 S2=>?_,fun c H2 s2 hc hne=>by rw [hg] at hc;cases hc⟩
    have hcb:f2=Dw f1 g b1:=by
     rcases hJ with ⟨_,h⟩ | ⟨h,_⟩
     ·exact h
     ·rw [hg] at h;cases h
    subst hcb
    obtain ⟨e1,e2,e3,e4,e5⟩:=step _ true fs2 a' H2 .non s2 S2 B2 (An ef hn).symm kf rfl
    walk_at "r"
    refine B7 (SqL.of (s2 _ _ ef)) ?_
    walk_at "r"
    refine C6 (s2 _ _ ef) hlen ?_
    rw [eN a']
    walk_at "r"
    rw [eN a']
    walk_at "r"
    exact ⟨_,_,_,a',_,fd1++[true],fs2,rfl,e1,e2,e3,B2,(An ef hn).symm,e4,kf,e5⟩
  ·rintro σ' H1 ⟨v4,v5,v6,am,f1,fd1,fr,rfl,ef,lf,S1,B1,nf,sm,ft,efs⟩
   rw [al.1,T3] at ft
   cases ft
   rw [P0] at efs
   subst efs
   walk_at "r"
   refine ⟨Cc,fun r hr'=>?_⟩
   have s2:=Same.upd (o:=.tup [.ref am,.ref pf]) hr'
   exact q r am pf _ (sm.trans s2) (SqT.of Ac) (s2 _ _ ef) (S1.same s2) B1
noncomputable def Told (K:Oo)(H:Hp)(kvs:List (Ah×V)):Prop:=∀(b:Bool)(v:V),A7 kvs (.inl ((kn b:Nat):Int))=some v->∃ p,v=.ref p/\SqT K H p [.str (kd b)]
theorem Told.same {H H':Hp}{kvs:List (Ah×V)}(h:Told K H kvs)(e:SameT H H'):Told K H' kvs:=fun b v hv=>let ⟨p,e1,q⟩:=h b v hv;⟨p,e1,e.tup q⟩
noncomputable def has (kvs:List (Ah×V))(b:Bool):Bool:=(A7 kvs (.inl ((kn b:Nat):Int))).isSome
noncomputable def Ev (kvs:List (Ah×V)):Nat:=(cond (has kvs false) 0 1)+(cond (has kvs true) 0 1)
theorem Zau {b c:Bool}(h:(Sum.inl ((kn b:Nat):Int):Ah)=.inl ((kn c:Nat):Int)):b=c:=by
 have h:((kn b:Nat):Int)=((kn c:Nat):Int):=Sum.inl.inj h
 revert h
 cases b <;> cases c <;> decide
theorem Je (kvs:List (Ah×V))(b c:Bool)(v:V):has (A1 kvs (.inl ((kn b:Nat):Int)) v) c=(c == b || has kvs c):=by
 unfold has
 rw [Ip]
 by_cases h:c=b
 ·subst h
  rw [if_pos rfl]
  cases c <;> rfl
 ·rw [if_neg fun z=>h (Zau z)]
  have:(c == b)=false:=by cases c <;> cases b <;> first | rfl | exact absurd rfl h
  rw [this,Bool.false_or]
theorem Zh3 {kvs:List (Ah×V)}{b:Bool}(v:V)(h:has kvs b=false):Ev (A1 kvs (.inl ((kn b:Nat):Int)) v) < Ev kvs:=by
 unfold Ev
 rw [Je,Je]
 cases b
 ·rw [h]
  cases has kvs true <;> decide
 ·rw [h]
  cases has kvs false <;> decide
theorem Zgl {H:Hp}{kvs:List (Ah×V)}{b:Bool}{p:Addr}(h:Told K H kvs)(q:SqT K H p [.str (kd b)]):Told K H (A1 kvs (.inl ((kn b:Nat):Int)) (.ref p)):=fun c v hv=>by
 rw [Ip] at hv
 by_cases hc:c=b
 ·subst hc
  rw [if_pos rfl] at hv
  cases hv
  exact ⟨p,rfl,q⟩
 ·rw [if_neg fun z=>hc (Zau z)] at hv
  exact h c v hv
noncomputable def Zbh (K:Oo):Sp:=fun vs H Q _=>∃(a b:Addr)(f:Va)(m:Nat)(ws:List Nat),vs=[.ref a,.ref b]/\ShA K H a f m/\VB f/\2<=m/\H b=some (.lst (A2 ws))/\(∀ n∈ws,n < m/\f n≠none)/\ws.length<=1000 /\
 ∀ c us H',Same H H'->H c=none->H' c=some (.lst us)->Al (fun v n=>KdD K H' v (f n)) us ws->Q (.ref c) H'
structure ToJ (K:Oo)(H:Hp)(f:Va)(ws:List Nat)(pd pw:Addr)(kvs:List (Ah×V))(k:Nat)(H':Hp):Prop where
 ed:H' pd=some (.dK kvs)
 kl:k<=ws.length
 ew:H' pw=some (.lst (A2 (ws.drop k)).reverse)
 td:Told K H' kvs
 sz:kvs.length+Ev kvs<=2
 dn:∀ j,j < k->∀ n c,ws[j]?=some n->f n=some c->has kvs c=true
 sm:Same H H'
theorem Zct:(["part", "shapes"]:List Str).Nodup:=by decide +kernel
theorem Zfz:(["part", "told"]:List Str).Nodup:=by decide +kernel
theorem Zd3:(["part", "told"]:List Str).Nodup:=by decide +kernel
theorem Zhq:(["kind", "told", "shapes"]:List Str).Nodup:=by decide +kernel
theorem sc_kinds_told:Bg ["shapes", "wanted", "told", "many_unknown", "waiting", "kind", "parts", "missing"] ["shapes", "wanted"] (A3 F4):=by walk_at "sc"
theorem Zic {f:Addr}{fd:FuncData}(F:Fun K "kinds_told" "kinds_told" F4 f fd)(T:Txt K mg)(C_last_same:A6 P w K mg base 1 "last_same" ["shapes", "kind"] (Hw K)):Az P w K mg base A0 2 f fd ["shapes", "wanted"] (Zbh K):=by
 refine F.okq sc_kinds_told (fun vs H Q E h=>?_) (fun cdv A outer s H vs Q E hr h=>?_)
 ·obtain ⟨a,b,f,m,ws,rfl,_⟩:=h
  rfl
 ·obtain ⟨a,b,f,m,ws,rfl,S,B,hm,eb,hws,hl,q⟩:=h
  refine ⟨_,Ad (Hj (i:=2) sc_kinds_told.nd rfl (Or.inr rfl) (K6))
   (Ad (Ao 3 sc_kinds_told Ag)
   (Ad (Ao 4 sc_kinds_told (Zfg K (by rfl) T.list (by rfl) T.reversed (Aa (qv 1) Ab)))
   (Ad (Fn Ph (Ex K (qv 4) (by intro _;rfl)) (Ad (Ao 5 sc_kinds_told (Bc C_last_same hr.m (Aa (qv 0) (Aa (Ak K (qv 4) (Zbc M0 Ag)) Ab))))
   (Ad (Zba (i:=6) (N:=["part", "shapes"]) (σ0:=Cm 1 [0]) rfl (De rfl (by decide +kernel) (by decide +kernel) (by decide +kernel)) (Cw K (Fd (Fc K) (Ak K (qv 0) (qv 5)) (Dj Ag) (Jq))) (Df rfl (by rfl)) (fun _ _ _ _=>Av (i:=0) Zct rfl (Or.inl rfl)) (fun _ _ _ _=>E9) (fun _ _ _ _=>Ir) sc_kinds_told.nd rfl (Or.inl rfl))
   (Ad (Zba (i:=7) (N:=["part", "told"]) (σ0:=Cm 1 [2]) rfl (De rfl (by decide +kernel) (by decide +kernel) (by decide +kernel)) (Cw K (qv 6)) (Df rfl (by rfl)) (fun _ _ _ _=>Av (i:=0) Zfz rfl (Or.inl rfl)) (fun _ _ _ _=>Ji (Fg (Zce hr.u1 (qv 0) (qv 1)))) (fun _ _ _ _=>qv 0) sc_kinds_told.nd rfl (Or.inl rfl))
   (Ai (As (Fg (Oh hr.u1 (qv 5) (qv 2))) (Ai (C3 (G7 K Pi Rb Rc Gz (qv 4)))) (Ai (As (Ex K (qv 7) (by intro _;rfl)) (Ce) (Ai (As (Ax (Bd K hr.u200) (Ak K (Ak K (qv 0) (qv 5)) Ag) Aq (Aw _)) (Ce) (Ai (Gm hr.u1 (qv 2) (qv 5) (Ba (F3 K) (Ap (Aa (Ak K (Ak K (qv 0) (qv 5)) Ag) Ab)) (Fi (Me K) (by rfl) T.tuple (by decide +kernel) (Aa (Ew (N:=["part", "told"]) (σ0:=Cm 1 [2]) rfl (De rfl (by decide +kernel) (by decide +kernel) (by decide +kernel)) (Cw K (qv 6)) (Df rfl (by rfl)) (fun _ _ _ _=>Av (i:=0) Zd3 rfl (Or.inl rfl)) (fun _ _ _ _=>E9) (fun _ _ _ _=>Ir)) Ab)))))))))))))))
   (Ai (Ar (Ew (N:=["kind", "told", "shapes"]) (σ0:=Cm 1 [2,0]) rfl (De rfl (by decide +kernel) (by decide +kernel) (by decide +kernel)) (Cw K (qv 1)) (Df rfl (by rfl)) (fun _ _ _ _=>Av (i:=0) Zhq rfl (Or.inl rfl)) (fun _ _ _ _=>E9) (fun _ _ _ _=>Nr hr.u1 (qv 1) (Bc C_last_same hr.m (Aa (qv 2) (Aa (qv 0) Ab))) (fun _ _=>rfl)))))))),?_⟩
  have bg:=big
  walk_at "r"
  refine fun pd hpd=>?_
  have s1:=Same.upd (o:=.dK []) hpd
  walk_at "r"
  refine ⟨b,A2 ws,rfl,SqL.of (s1 _ _ eb),fun pw H2 hpw s2 ew=>?_⟩
  have nd:pd≠pw:=An Ac hpw
  have hpw0:H pw=none:=s1.free hpw
  have eN:∀{z:Addr}{H':Hp},Same H H'->ShA K H' a f m:=fun sm=>S.same sm
  walk_at "r"
  refine ⟨fun n σ' H'=>∃ v5 v6 v7 kvs k,σ'=[some (.ref a),some (.ref b),some (.ref pd),some (.int 0),some (.ref pw),v5,v6,v7]/\ToJ K H f ws pd pw kvs k H'/\n=(ws.length - k)+Ev kvs,
   ⟨_,none,none,none,[],0,rfl,⟨s2 _ _ Ac,Pd _,ew,(fun b v h=>by rw [Zb6] at h;cases h),(by decide),fun j hj=>absurd hj (Sv _),s1.trans s2⟩,rfl⟩,?_⟩
  rintro n σ' H3 ⟨v5,v6,v7,kvs,k,rfl,J,rfl⟩
  walk_at "r"
  refine F6 (SqL.of J.ew) ?_
  by_cases hk:k=ws.length
  ·have e:ws.drop k=[]:=by rw [hk,T3]
   rw [e]
   refine iteF ?_
   walk_at "r"
   refine .inl ⟨b,rfl,⟨_,SqL.of (J.sm _ _ eb)⟩,fun D hD=>?_⟩
   have hD0:H D=none:=J.sm.free hD
   have nD:D≠b:=(An (J.sm _ _ eb) hD).symm
   have nDd:D≠pd:=(An J.ed hD).symm
   refine Gv (K:=K) (a:=b) (xs:=A2 ws) (Pv:=fun i ys σ' H'=>∃ x0,σ'=[x0,some (.ref pd),some (.ref a)]/\H' pd=some (.dK kvs)/\Al (fun v n=>KdD K H' v (f n)) ys (ws.take i)/\Told K H' kvs/\Same H H') ⟨none,rfl,by rw [Af nDd.symm];exact J.ed,.nil,J.td.same (SameT.new hD),J.sm.put hD⟩ ?_ ?_ ?_
   ·rintro i ys σ' H' _ ⟨_,_,_,_,_,sm⟩
    exact SqL.of (sm _ _ eb)
   ·rintro i x ys σ' H' hx hys ⟨x0,rfl,ed,aly,td,sm⟩
    have hi:i < ws.length:=by have:=(O7.mp hx).1;unfold A2 at this;rwa [Ox] at this
    have hx':x=.int (ws[i]:Nat):=by unfold A2 at hx;rw [Pg,Os hi] at hx;exact (O4 hx).symm
    subst hx'
    obtain ⟨hm1,hm2⟩:=hws _ (Rm hi)
    obtain ⟨c,hc⟩:=Q9.mp hm2
    have hrt:B0 f ws[i]=kn c:=by unfold B0;rw [hc]
    have hh:=J.dn i (by omega) ws[i] c (Os hi) hc
    obtain ⟨v,hv⟩:=Qr.mp hh
    obtain ⟨p,rfl,qp⟩:=td c v hv
    walk_at "r"
    refine ⟨a,f,m,ws[i],rfl,S.same sm,B,hm1,hm,?_⟩
    rw [hrt]
    refine ⟨pd,.ref p,rfl,?_,?_⟩
    ·rw [<- hv]
     exact DGet.k (k:=.inl ((kn c:Nat):Int)) ed
    have t6:SameT H' (upd H' D (.lst (ys++[.ref p]))):=SameT.set hys
    refine ⟨ys,hys,by rw [aly.1,Pz];omega,_,Ac,_,rfl,by rw [Af nDd.symm];exact ed,?_,td.same t6,sm.over hD0⟩
    rw [Q3,Os hi]
    exact (aly.mono fun _ _ h=>h.same t6).snoc (.inr ⟨c,p,hc,rfl,t6.tup qp⟩)
   ·rintro ys σ' H' hys ⟨x0,rfl,ed,aly,td,sm⟩
    have e2:(A2 ws).length=ws.length:=by unfold A2;exact Ox ..
    rw [e2,Qz] at aly
    exact q D ys H' sm hD0 hys aly
  have hkl:k < ws.length:=by have:=J.kl;omega
  have hdr:ws.drop k=ws[k]::ws.drop (k+1):=P5 hkl
  have ew3:=J.ew
  have erv:(A2 (ws.drop k)).reverse=(A2 (ws.drop (k+1))).reverse++[.int (ws[k]:Nat)]:=by rw [hdr];unfold A2;rw [Pk,List.reverse_cons]
  rw [erv] at ew3 ⊢
  rw [show (!((A2 (ws.drop (k+1))).reverse++[V.int ((ws[k]:Nat):Int)]).isEmpty)=true by simp]
  refine iteT ?_
  obtain ⟨hm1,hm2⟩:=hws _ (Rm hkl)
  obtain ⟨c,hc⟩:=Q9.mp hm2
  have hrt:B0 f ws[k]=kn c:=by unfold B0;rw [hc]
  refine ⟨fun σ2 H2=>∃ m',m' < (ws.length - k)+Ev kvs/\∃ v5 v6 v7 kvs k,σ2=[some (.ref a),some (.ref b),some (.ref pd),some (.int 0),some (.ref pw),v5,v6,v7]/\ToJ K H f ws pd pw kvs k H2/\m'=(ws.length - k)+Ev kvs,fun _ _ h=>h,?_⟩
  walk_at "r"
  refine Bh (SqL.of ew3) (Ze2 _ _) ?_
  walk_at "r"
  refine ⟨a,f,m,ws[k],rfl,S.same J.sm,B,hm1,hm,?_⟩
  rw [hrt]
  walk_at "r"
  obtain ⟨us,p,e,eu,qp⟩:=(S.same J.sm).at (i:=kn c) (by have:=Fp c;omega)
  rw [B.kn c,Gf] at qp
  refine Bh (SqL.of e) eu ?_
  walk_at "r"
  refine .inr (.inr ⟨p,_,rfl,qp,by show ¬ (HT.sIx 1 0 (some 1)=0/\HT.sIx 1 1 none=1);decide,fun p3 h3=>?_⟩)
  have s4:=Same.upd (o:=.tup (Br [.str (kd c)] (some 1) none)) h3
  refine .inr (.inl ⟨p3,rfl,⟨_,SqT.of Ac⟩,fun D hD=>?_⟩)
  have s5:=Same.upd (o:=.lst []) hD
  refine Zha (s5.tup (SqT.of Ac)) ?_
  walk_at "r"
  refine .inl ⟨D,rfl,⟨_,SqL.of Ac⟩,fun D2 hD2=>?_⟩
  have s6:=Same.upd (o:=.lst []) hD2
  refine Mb (SqL.of (s6 _ _ Ac)) ?_
  have eD:=s6 _ _ (show upd (upd H3 p3 (.tup (Br [.str (kd c)] (some 1) none))) D (.lst []) D=some (.lst []) from Ac)
  have eD2:upd (upd (upd H3 p3 (.tup (Br [.str (kd c)] (some 1) none))) D (.lst [])) D2 (.lst []) D2=some (.lst []):=Ac
  have s7:=(s4.trans s5).trans s6
  revert eD eD2 s7
  generalize upd (upd (upd H3 p3 (.tup (Br [.str (kd c)] (some 1) none))) D (.lst [])) D2 (.lst [])=H7
  intro eD eD2 s7
  walk_at "r"
  refine ⟨pd,_,rfl,DGet.k (k:=.inl ((kn c:Nat):Int)) (s7 _ _ J.ed),?_⟩
  cases hh:has kvs c with
  | true =>
   refine ⟨true,by unfold has at hh;rw [hh],?_⟩
   walk_at "r"
   refine B7 (SqL.of (s7 _ _ ew3)) ?_
   refine Gs (s7 _ _ ew3) ?_
   refine ⟨_,?_,_,_,_,kvs,k+1,rfl,⟨by rw [Af nd];exact s7 _ _ J.ed,hkl,Ac,(J.td.same s7.t).same (SameT.set (s7 _ _ ew3)),J.sz,fun j hj n' c' h1 h2=>?_,(J.sm.trans s7).over hpw0⟩,rfl⟩
   ·omega
   ·by_cases hjk:j < k
    ·exact J.dn j hjk n' c' h1 h2
    ·have:j=k:=by omega
     subst this
     rw [Os hkl] at h1
     rw [<- O4 h1,hc] at h2
     rw [<- O4 h2]
     exact hh
  | false =>
   refine ⟨false,by unfold has at hh;rw [hh],?_⟩
   walk_at "r"
   refine F6 (SqL.of eD2) ?_
   refine iteF ?_
   walk_at "r"
   refine Bh (SqL.of (s7 _ _ e)) eu ?_
   walk_at "r"
   refine Au (s7.tup qp) rfl ?_
   walk_at "r"
   rw [Fo (by decide)]
   walk_at "r"
   refine Bh (SqL.of (s7 _ _ e)) eu ?_
   walk_at "r"
   refine Au (s7.tup qp) rfl ?_
   walk_at "r"
   refine ⟨Cn,fun p8 h8=>?_⟩
   have s8:=Same.upd (o:=.tup [.str (kd c)]) h8
   walk_at "r"
   refine .inl ⟨D,rfl,⟨_,SqL.of (s8 _ _ eD)⟩,fun D9 h9=>?_⟩
   have s9:=Same.upd (o:=.lst []) h9
   refine Mb (SqL.of (s9 _ _ (s8 _ _ eD))) ?_
   walk_at "r"
   refine Od (SqL.of Ac) fun pa ha=>?_
   have sa:=Same.upd (o:=.tup []) ha
   refine Mp (((s9.trans sa)).tup (SqT.of Ac)) (SqT.of Ac) Cn fun r Hb sb qr=>?_
   have sB:Same H3 Hb:=s7.trans (((s8.trans s9).trans sa).trans sb)
   walk_at "r"
   have hsz:kvs.length < sizeLine:=by have:=J.sz;omega
   refine ⟨pd,_,rfl,DPut.k (k:=.inl ((kn c:Nat):Int)) (sB _ _ J.ed) hsz,?_⟩
   have tP:SameT Hb (upd Hb pd (.dK (A1 kvs (.inl ((kn c:Nat):Int)) (.ref r)))):=fun x=>⟨fun xs h=>by rw [Af (Dl h (sB _ _ J.ed) (by intro z;cases z))];exact h,fun o u h=>by rw [Af (Dl h (sB _ _ J.ed) (by intro z;cases z))];exact h⟩
   have hmp:=Zh3 (.ref r) hh
   refine ⟨_,?_,_,_,_,A1 kvs (.inl ((kn c:Nat):Int)) (.ref r),k,rfl,⟨Ac,J.kl,by rw [Af nd.symm];exact sB _ _ J.ew,Zgl ((J.td.same sB.t).same tP) (tP.tup qr),?_,fun j hj n' c' h1 h2=>?_,(J.sm.trans sB).over hpd⟩,rfl⟩
   ·omega
   ·have:=E2 kvs (.inl ((kn c:Nat):Int)) (.ref r)
    have:=J.sz
    omega
   ·rw [Je,J.dn j hj n' c' h1 h2,Bool.or_true]
noncomputable def Nb (K:Oo):Sp:=fun vs H Q _=>∃(v:V)(t:Tr),vs=[v]/\TrAt K H v t/\t.size<=2000/\∀(p:Addr)(rows:List V)(H':Hp),Same H H'->H p=none->H' p=some (.lst rows)->Al (RowT K H') rows (walk [] t)->Q (.ref p) H'
theorem sc_placed_forms:Bg ["tree", "told", "waiting", "pair", "number", "part"] ["tree"] (A3 G0):=by walk_at "sc"
noncomputable def PlJ (K:Oo)(H:Hp)(v:V)(t:Tr)(pt pw:Addr)(m:Nat)(σ:St)(H':Hp):Prop:=∃(v3 v4 v5:Option V)(tv wv:List V)(dn st:List (List Nat×Tr)),σ=[some v,some (.ref pt),some (.ref pw),v3,v4,v5]/\H' pt=some (.lst tv)/\H' pw=some (.lst wv) /\
 Al (RowT K H') tv dn/\Al (RowT K H') wv st/\dn++Eh st=walk [] t/\m=C5 st/\Same H H'
theorem Zia {f:Addr}{fd:FuncData}(F:Fun K "placed_forms" "placed_forms" G0 f fd)(T:Txt K mg):Az P w K mg base A0 1 f fd ["tree"] (Nb K):=by
 refine F.okq sc_placed_forms (fun vs H Q E h=>?_) (fun cdv A outer s H vs Q E hr h=>?_)
 ·obtain ⟨v,t,rfl,_⟩:=h
  rfl
 ·obtain ⟨v,t,rfl,ht,hz,q⟩:=h
  refine ⟨_,Ad (Ao 1 sc_placed_forms (Bb Ab))
   (Ad (Ao 2 sc_placed_forms (Bb (Aa (Ap (Aa (Ap Ab) (Aa (qv 0) Ab))) Ab)))
   (Ad (Fn Ph (Ex K (qv 2) (by intro _;rfl)) (Ad (Ao 3 sc_placed_forms (G7 K Pi Rb Rc Gz (qv 2)))
   (Ad (C3 (Dr K Pi P6 P7 Du (qv 1) (Aa (qv 3) Ab)))
   (Ai (Da Ph rfl (Zi6 K rfl T.reversed (Aa (Zjl K (by rfl) T.list (by rfl) T.enumerate (Aa (Ak K (Ak K (qv 3) Ag) Ag) Ab)) Ab)) (Cy K (n:=2) rfl (Be (Av (i:=4) sc_placed_forms.nd rfl (Or.inl rfl)) (Be (Av (i:=5) sc_placed_forms.nd rfl (Or.inl rfl)) (C0)))) (Ai (C3 (Dr K Pi P6 P7 Du (qv 2) (Aa (Ap (Aa (Ba (Zar K) (Ak K (qv 3) Ag) (Ap (Aa (qv 4) Ab))) (Aa (qv 5) Ab))) Ab)))))))))
   (Ai (Ar (qv 1))))),?_⟩
  have bg:=big
  walk_at "r"
  refine ⟨Bf,fun pt hpt=>?_⟩
  walk_at "r"
  refine ⟨Bf,fun p0 hp0=>?_⟩
  walk_at "r"
  refine ⟨Cc,fun p1 hp1=>?_⟩
  walk_at "r"
  refine ⟨Cn,fun pw hpw=>?_⟩
  walk_at "r"
  have s0:Same (upd H pt (.lst [])) _:=((Same.upd (o:=.tup []) hp0).put (o:=.tup [.ref p0,v]) hp1).put (o:=.lst [.ref p1]) hpw
  have s1:Same (upd (upd H pt (.lst [])) p0 (.tup [])) _:=(Same.upd (o:=.tup [.ref p0,v]) hp1).put (o:=.lst [.ref p1]) hpw
  have s2:=Same.upd (o:=.lst [.ref p1]) hpw
  have sH:=(Same.upd (o:=.lst []) hpt).trans s0
  have ept:=s0 pt _ Ac
  have epw:upd (upd (upd (upd H pt (.lst [])) p0 (.tup [])) p1 (.tup [.ref p0,v])) pw (.lst [.ref p1]) pw=some (.lst [.ref p1]):=Ac
  have ep0:=s1 p0 _ Ac
  have ep1:=s2 p1 _ Ac
  have npw:pt≠pw:=fun z=>by rw [z] at ept;rw [Ac] at ept;cases ept
  have hpw0:H pw=none:=((Same.upd (o:=.lst []) hpt).trans ((Same.upd (o:=.tup []) hp0).put (o:=.tup [.ref p0,v]) hp1)).free hpw
  refine ⟨PlJ K H v t pt pw,⟨_,none,none,none,[],[.ref p1],[],[([],t)],rfl,ept,epw,.nil,Al.nil.snoc ⟨p1,p0,v,rfl,SqT.of ep1,ep0,ht.same sH⟩,by simp [Eh],rfl,sH⟩,?_⟩
  rintro m σ' H' ⟨v3,v4,v5,tv,wv,dn,st,rfl,et,ew,al1,al2,hw,rfl,sm⟩
  have hdl:dn.length+C5 st=t.size:=by
   have:=congrArg S8 hw
   rw [O3,El] at this
   exact this
  have htl:tv.length=dn.length:=al1.1
  walk_at "r"
  refine F6 (SqL.of ew) ?_
  by_cases hwv:wv=[]
  ·subst hwv
   have hst:st=[]:=Tb al2.1.symm
   subst hst
   refine iteF ?_
   walk_at "r"
   rw [Zj6,P0] at hw
   rw [hw] at al1
   exact q pt tv H' sm hpt et al1
  obtain ⟨wv',tp,st',x,rfl,rfl,al3,hrow⟩:=al2.last hwv
  have hne:(!(wv'++[tp]).isEmpty)=true:=by simp
  rw [hne]
  refine iteT ?_
  obtain ⟨pl,tx⟩:=x
  have hx:(pl,tx)∈walk [] t:=by rw [<- hw,K3];simp
  have hpl:pl.length<=2000:=by have:=F0 [] t _ hx;simp at this;omega
  have hload:=Zj3 st' (pl,tx)
  have hll:=Zdb (st'++(Bl pl 0 tx.ps).reverse)
  refine ⟨fun σ2 H2=>∃ m',m' < C5 (st'++[(pl,tx)])/\PlJ K H v t pt pw m' σ2 H2,fun _ _ h=>h,?_⟩
  walk_at "r"
  refine B7 (SqL.of ew) ?_
  refine Gs ew ?_
  have t1:SameT H' (upd H' pw (.lst wv')):=SameT.set ew
  have et2:upd H' pw (.lst wv') pt=some (.lst tv):=by rw [Af npw];exact et
  walk_at "r"
  refine B7 (SqL.of et2) ?_
  walk_at "r"
  refine C6 et2 (by omega) ?_
  have t2:SameT H' (upd (upd H' pw (.lst wv')) pt (.lst (tv++[tp]))):=t1.trans (SameT.set et2)
  have et3:upd (upd H' pw (.lst wv')) pt (.lst (tv++[tp])) pt=some (.lst (tv++[tp])):=Ac
  have ew3:upd (upd H' pw (.lst wv')) pt (.lst (tv++[tp])) pw=some (.lst wv'):=by rw [Af npw.symm,Ac]
  have sm3:Same H (upd (upd H' pw (.lst wv')) pt (.lst (tv++[tp]))):=(sm.over hpw0).over hpt
  revert t2 et3 ew3 sm3
  generalize upd (upd H' pw (.lst wv')) pt (.lst (tv++[tp]))=H3
  intro t2 et3 ew3 sm3
  have hrow3:=RowT.same t2 _ _ hrow
  obtain ⟨a,p,u,rfl,qa,qp,hu⟩:=id hrow3
  cases hu with
  | @mk b pp wd nv n vs ts qb hn qpp hl hch =>
  walk_at "r"
  refine Au qa rfl ?_
  walk_at "r"
  refine Au qb rfl ?_
  walk_at "r"
  refine ⟨pp,vs,rfl,qpp,fun S ys H4 hS s4 hl4 hpairs hS4=>?_⟩
  walk_at "r"
  refine ⟨S,ys,rfl,SqL.of hS4,?_⟩
  have nSp:pw≠S:=An ew3 hS
  have nSt:pt≠S:=An et3 hS
  have al4:Al (RowT K H4) wv' st':=al3.mono (RowT.same (t2.trans s4.t))
  have hkl:(Bl pl 0 ts).length=ys.length:=by rw [Mg];omega
  refine Zcc (K:=K) (a:=S) (xs:=ys) (fun j σ5 H5=>∃(v4 v5:Option V)(wv5:List V),σ5=[some v,some (.ref pt),some (.ref pw),some (.ref a),v4,v5]/\H5 pt=some (.lst (tv++[.ref a]))/\H5 pw=some (.lst wv5)/\H5 S=some (.lst ys)/\Al (RowT K H5) wv5 (st'++((Bl pl 0 ts).drop (ys.length - j)).reverse)/\SameT H4 H5/\Same H H5)
   ⟨_,_,wv',rfl,s4 _ _ et3,s4 _ _ ew3,hS4,by rw [Nat.sub_zero,Sf (by omega)];simpa using al4,SameT.refl _,sm3.trans s4⟩ ?_ ?_ ?_
  ·rintro j σ5 H5 _ ⟨_,_,_,_,_,_,e,_⟩
   exact SqL.of e
  ·rintro i y σ5 H5 hi hy ⟨v4',v5',wv5,rfl,e5t,e5w,e5s,al5,t5,sm5⟩
   obtain ⟨tt,xw,rfl,hxw,htt⟩:=hpairs _ _ hy
   have htt5:=(t5 tt).1 _ htt
   walk_at "r"
   refine C9 (SqT.of htt5) rfl ?_
   walk_at "r"
   refine B7 (SqL.of e5w) ?_
   walk_at "r"
   have T5:SameT H3 H5:=s4.t.trans t5
   refine Au (T5.tup qa) rfl ?_
   walk_at "r"
   refine ⟨Cn,fun p6 h6=>?_⟩
   refine Zhj (((T5.trans (SameT.new h6)) p).1 _ qp) Ac (by show (A8 pl).length+1<=sizeLine;unfold A8;rw [Ox];omega) fun r H7 s7 q7=>?_
   walk_at "r"
   refine ⟨Cc,fun p7 h7=>?_⟩
   walk_at "r"
   have s57:Same H5 H7:=(Same.upd h6).trans s7
   have s58:=s57.put (o:=.tup [.ref r,xw]) h7
   have hlw:wv5.length=st'.length+((Bl pl 0 ts).drop (ys.length - i)).length:=by have:=al5.1;simp at this ⊢;omega
   have hlk:(st'++(Bl pl 0 ts).reverse).length=st'.length+ys.length:=by rw [O3,To,hkl]
   have hll':(st'++(Bl pl 0 ts).reverse).length<=2000:=by
    have h1:C5 (st'++(Bl pl 0 (Tr.mk wd n ts).ps).reverse) < C5 (st'++[(pl,Tr.mk wd n ts)]):=hload
    have h2:(st'++(Bl pl 0 (Tr.mk wd n ts).ps).reverse).length<=C5 (st'++(Bl pl 0 (Tr.mk wd n ts).ps).reverse):=hll
    have h3:(Tr.mk wd n ts).ps=ts:=rfl
    rw [h3] at h1 h2
    omega
   have hdr:((Bl pl 0 ts).drop (ys.length - i)).length<=ys.length:=by rw [Rk];omega
   refine C6 (s58 _ _ e5w) (by omega) ?_
   have e8w:=s58 _ _ e5w
   have t9:SameT H5 (upd (upd H7 p7 (.tup [.ref r,xw])) pw (.lst (wv5++[.ref p7]))):=s58.t.trans (SameT.set e8w)
   obtain ⟨tk,htk,hat⟩:∃ tk,ts[ys.length - 1 - i]?=some tk/\TrAt K H3 xw tk:=by
    have hj:=(O7.mp hxw).1
    have hj':ys.length - 1 - i < ts.length:=by omega
    exact ⟨_,Os hj',hch _ _ _ hxw (Os hj')⟩
   have hkid:(Bl pl 0 ts)[ys.length - 1 - i]?=some (pl++[ys.length - 1 - i],tk):=by
    rw [Nm,htk]
    simp
   refine ⟨_,_,wv5++[.ref p7],rfl,?_,Ac,?_,?_,t5.trans t9,(sm5.trans s58).over hpw0⟩
   ·rw [Af npw];exact s58 _ _ e5t
   ·rw [Af nSp.symm];exact s58 _ _ e5s
   ·rw [Zal hkl hi hkid,<- Qh]
    refine (al5.mono (RowT.same t9)).snoc ⟨p7,r,xw,rfl,(SameT.set e8w).tup (SqT.of Ac),?_,hat.sameT (T5.trans t9)⟩
    have q9:=(((SameT.new (o:=.tup [.ref r,xw]) h7).trans (SameT.set (o:=.lst (wv5++[.ref p7])) e8w)) r).1 _ q7
    have e:A8 (pl++[ys.length - 1 - i])=A8 pl++[.int ((ys.length - 1 - i:Nat):Int)]:=by unfold A8;rw [Ps];rfl
    show upd _ _ _ r=some (.tup (A8 (pl++[ys.length - 1 - i])))
    rw [e]
    exact q9
  ·rintro σ5 H5 ⟨v4',v5',wv5,rfl,e5t,e5w,e5s,al5,t5,sm5⟩
   rw [Q5,List.drop_zero] at al5
   refine ⟨_,hload,_,_,_,tv++[.ref a],wv5,dn++[(pl,.mk wd n ts)],_,rfl,e5t,e5w,?_,al5,?_,rfl,sm5⟩
   ·exact (al1.mono (RowT.same (t2.trans (s4.t.trans t5)))).snoc (RowT.same (s4.t.trans t5) _ _ hrow3)
   ·rw [<- hw,K3,Qh]
    rfl
noncomputable def M5 (K:Oo):Sp:=fun vs H Q _=>∃(p:Addr)(rows:List V)(rs:List (List Nat×Tr))(ps:List (Nat×Nat))(m':Nat)(D':Dn),vs=[.ref p]/\H p=some (.lst rows)/\Al (RowT K H) rows rs/\rs.length<=40/\(∀ r∈rs,r.1.length<=40)/\Kin rs 2 (fun _=>none) ps m' D' /\
 ∀ r a b pv H',Same H H'->SqT K H' r [.ref a,.ref b]->ShA K H' a v0 m'->H' b=some (.lst pv)->Al (PaAt K H') pv ps->Q (.ref r) H'
structure KiF (H:Hp)(a b c d:Addr):Prop where
 ha:H a=none
 hb:H b=none
 hc:H c=none
 hd:H d=none
 ab:a≠b
 cd:c≠d
structure KiJ (K:Oo)(H:Hp)(a b c d:Addr)(m x:Nat)(D:Dn)(E:List Nat->Prop)(ps:List (Nat×Nat))(H':Hp):Prop where
 sh:ShA K H' a v0 m
 m2:2<=m
 pr:∃ pv,H' b=some (.lst pv)/\Al (PaAt K H') pv ps
 ac:∃ kc,H' c=some (.dT kc)/\kc.length<=x/\∀ q,A7 kc (A9 q)=(D q).map fun n=>V.int ((n:Nat):Int)
 ad:∃ kd,H' d=some (.dT kd)/\kd.length<=x+1/\∀ q,E q->∃ e,A7 kd (A9 q)=some (.ref e)/\H' e=some (.dK [])
 sm:Same H H'
theorem Bs {H:Hp}{x y:Addr}{o o':HO}(h:H x=some o)(h':H y=some o')(n:o≠o'):x≠y:=fun z=>by rw [z,h'] at h;exact n (O4 h).symm
theorem SameT.dt {H:Hp}{S:Addr}{kv:List (List Ah×V)}{o2:HO}(h:H S=some (.dT kv)):SameT H (upd H S o2):=fun b =>
 ⟨fun xs e=>by rw [Af (Bs e h (fun z=>by cases z))];exact e,fun o' u e=>by rw [Af (Bs e h (fun z=>by cases z))];exact e⟩
theorem KiJ.keep {H H1 H2:Hp}{a b c d:Addr}{m x:Nat}{D:Dn}{E:List Nat->Prop}{ps:List (Nat×Nat)}(J:KiJ K H a b c d m x D E ps H1)(s:Same H1 H2):KiJ K H a b c d m x D E ps H2:=by
 obtain ⟨pv,e1,al⟩:=J.pr
 obtain ⟨kc,e2,l2,v2⟩:=J.ac
 obtain ⟨kd,e3,l3,v3⟩:=J.ad
 exact ⟨J.sh.same s,J.m2,⟨pv,s _ _ e1,al.mono (PaAt.same s.t)⟩,⟨kc,s _ _ e2,l2,v2⟩,⟨kd,s _ _ e3,l3,fun q hq=>let ⟨e,h1,h2⟩:=v3 q hq;⟨e,h1,s _ _ h2⟩⟩,J.sm.trans s⟩
theorem KiJ.kind {H H1 H2:Hp}{a b c d:Addr}{m m' x:Nat}{D:Dn}{E:List Nat->Prop}{ps:List (Nat×Nat)}(J:KiJ K H a b c d m x D E ps H1)(F:KiF H a b c d)(h:Bt a H1 H2)(S:ShA K H2 a v0 m')(hm:m<=m'):KiJ K H a b c d m' x D E ps H2:=by
 obtain ⟨pv,e1,al⟩:=J.pr
 obtain ⟨kc,e2,l2,v2⟩:=J.ac
 obtain ⟨kd,e3,l3,v3⟩:=J.ad
 obtain ⟨us,ea,_,_⟩:=J.sh.ex
 have t:=h.t ea
 refine ⟨S,Pa J.m2 hm,⟨pv,h _ _ F.ab.symm e1,al.mono (PaAt.same t)⟩,⟨kc,h _ _ (Bs e2 ea (fun z=>by cases z)) e2,l2,v2⟩,⟨kd,h _ _ (Bs e3 ea (fun z=>by cases z)) e3,l3,fun q hq=>?_⟩,fun y o e=>h y o (fun z=>by rw [z,F.ha] at e;cases e) (J.sm y o e)⟩
 obtain ⟨e,h1,h2⟩:=v3 q hq
 exact ⟨e,h1,h _ _ (Bs h2 ea (fun z=>by cases z)) h2⟩
theorem KiJ.pair {H H1:Hp}{a b c d:Addr}{m x:Nat}{D:Dn}{E:List Nat->Prop}{ps:List (Nat×Nat)}{pv:List V}{v:V}{y:Nat×Nat}(J:KiJ K H a b c d m x D E ps H1)(F:KiF H a b c d)(eb:H1 b=some (.lst pv))(al:Al (PaAt K H1) pv ps)(hv:PaAt K H1 v y):KiJ K H a b c d m x D E (ps++[y]) (upd H1 b (.lst (pv++[v]))):=by
 obtain ⟨kc,e2,l2,v2⟩:=J.ac
 obtain ⟨kd,e3,l3,v3⟩:=J.ad
 have t:=SameT.set (o:=.lst (pv++[v])) eb
 refine ⟨J.sh.off F.ab eb,J.m2,⟨_,Ac,(al.mono (PaAt.same t)).snoc (PaAt.same t _ _ hv)⟩,⟨kc,by rw [Af (Bs e2 eb (fun z=>by cases z))];exact e2,l2,v2⟩,⟨kd,by rw [Af (Bs e3 eb (fun z=>by cases z))];exact e3,l3,fun q hq=>?_⟩,J.sm.over F.hb⟩
 obtain ⟨e,h1,h2⟩:=v3 q hq
 exact ⟨e,h1,by rw [Af (Bs h2 eb (fun z=>by cases z))];exact h2⟩
theorem Zan {kv:List (List Ah×V)}{q z:List Nat}{v:V}:A7 (A1 kv (A9 q) v) (A9 z)=if z=q then some v else A7 kv (A9 z):=by
 rw [Ip]
 by_cases h:z=q
 ·rw [if_pos h,if_pos (by rw [h])]
 ·rw [if_neg h,if_neg fun e=>h (Ze7 e)]
theorem KiJ.ask {H H1:Hp}{a b c d:Addr}{m x n:Nat}{D:Dn}{E:List Nat->Prop}{ps:List (Nat×Nat)}{kc:List (List Ah×V)}{q:List Nat}(J:KiJ K H a b c d m x D E ps H1)(F:KiF H a b c d)(ec:H1 c=some (.dT kc))(lc:kc.length<=x)(vc:∀ q,A7 kc (A9 q)=(D q).map fun n=>V.int ((n:Nat):Int)):KiJ K H a b c d m (x+1) (fun z=>if z=q then some n else D z) E ps (upd H1 c (.dT (A1 kc (A9 q) (.int (n:Nat))))):=by
 obtain ⟨pv,e1,al⟩:=J.pr
 obtain ⟨kd,e3,l3,v3⟩:=J.ad
 obtain ⟨us,ea,la,qa⟩:=J.sh.ex
 have t:=SameT.dt (o2:=.dT (A1 kc (A9 q) (.int (n:Nat)))) ec
 refine ⟨⟨us,by rw [Af (Bs ea ec (fun z=>by cases z))];exact ea,la,fun i u hu=>let ⟨p,h1,h2⟩:=qa i u hu;⟨p,h1,t.tup h2⟩⟩,J.m2,⟨pv,by rw [Af (Bs e1 ec (fun z=>by cases z))];exact e1,al.mono (PaAt.same t)⟩,⟨_,Ac,?_,fun z=>?_⟩,⟨kd,by rw [Af F.cd.symm];exact e3,by omega,fun q hq=>?_⟩,J.sm.over F.hc⟩
 ·have:=E2 kc (A9 q) (.int (n:Nat))
  omega
 ·rw [Zan,vc z]
  split <;> rfl
 ·obtain ⟨e,h1,h2⟩:=v3 q hq
  exact ⟨e,h1,by rw [Af (Bs h2 ec (fun z=>by cases z))];exact h2⟩
theorem KiJ.name {H H1:Hp}{a b c d e:Addr}{m x:Nat}{D:Dn}{E:List Nat->Prop}{ps:List (Nat×Nat)}{kd:List (List Ah×V)}{q:List Nat}(J:KiJ K H a b c d m (x+1) D E ps H1)(F:KiF H a b c d)(ed:H1 d=some (.dT kd))(ld:kd.length<=x+1)(vd:∀ q,E q->∃ e,A7 kd (A9 q)=some (.ref e)/\H1 e=some (.dK []))(he:H1 e=some (.dK [])):KiJ K H a b c d m (x+1) D (fun z=>z=q\/E z) ps (upd H1 d (.dT (A1 kd (A9 q) (.ref e)))):=by
 obtain ⟨pv,e1,al⟩:=J.pr
 obtain ⟨kc,e2,l2,v2⟩:=J.ac
 obtain ⟨us,ea,la,qa⟩:=J.sh.ex
 have t:=SameT.dt (o2:=.dT (A1 kd (A9 q) (.ref e))) ed
 refine ⟨⟨us,by rw [Af (Bs ea ed (fun z=>by cases z))];exact ea,la,fun i u hu=>let ⟨p,h1,h2⟩:=qa i u hu;⟨p,h1,t.tup h2⟩⟩,J.m2,⟨pv,by rw [Af (Bs e1 ed (fun z=>by cases z))];exact e1,al.mono (PaAt.same t)⟩,⟨kc,by rw [Af F.cd];exact e2,l2,v2⟩,⟨_,Ac,?_,fun z hz=>?_⟩,J.sm.over F.hd⟩
 ·have:=E2 kd (A9 q) (.ref e)
  omega
 ·rw [Zan]
  by_cases h:z=q
  ·rw [if_pos h]
   exact ⟨e,rfl,by rw [Af (Bs he ed (fun z=>by cases z))];exact he⟩
  ·rw [if_neg h]
   obtain ⟨e',h1,h2⟩:=vd z (hz.resolve_left h)
   exact ⟨e',h1,by rw [Af (Bs h2 ed (fun z=>by cases z))];exact h2⟩
theorem KiJ.imp {H H1:Hp}{a b c d:Addr}{m x x':Nat}{D D':Dn}{E E':List Nat->Prop}{ps:List (Nat×Nat)}(J:KiJ K H a b c d m x D E ps H1)(hx:x<=x')(hD:D=D')(hE:∀ q,E' q->E q):KiJ K H a b c d m x' D' E' ps H1:=by
 subst hD
 obtain ⟨kc,e2,l2,v2⟩:=J.ac
 obtain ⟨kd,e3,l3,v3⟩:=J.ad
 exact ⟨J.sh,J.m2,J.pr,⟨kc,e2,by omega,v2⟩,⟨kd,e3,by omega,fun q hq=>v3 q (hE q hq)⟩,J.sm⟩
theorem Zcj (w:Str)(m:Nat):nx w m<=m+1:=by unfold nx;split <;> (try split) <;> omega
theorem Zf8 (w:Str):ar w<=3:=by unfold ar;split <;> (try split) <;> omega
theorem Zhw (pl:List Nat)(j:Nat):A8 (pl++[j])=A8 pl++[.int ((j:Nat):Int)]:=by unfold A8;rw [Ps];rfl
theorem sc_kinds_in:Bg ["placed", "shapes", "pairs", "asked_at", "around_at", "place", "form", "given", "asked", "bound", "number", "kind", "part"] ["placed"] (A3 Gy):=by walk_at "sc"
theorem Zb5 {f:Addr}{fd:FuncData}(F:Fun K "kinds_in" "kinds_in" Gy f fd)(T:Txt K mg){fs s0 s1:Addr}(G_FIRST_SHAPES:Ds mg "FIRST_SHAPES" (.ref fs))(hfs:∀ H,SqT K H fs [.ref s0,.ref s1])(hs0:∀ H,SqT K H s0 [.str "num"])(hs1:∀ H,SqT K H s1 [.str "truth"])
  (C_kinds_of_word:A6 P w K mg base 2 "kinds_of_word" ["shapes", "word"] (Zai K)) (C_with_names:A6 P w K mg base 1 "with_names" ["around", "names", "kinds"] (Za2 K)) (C_names_bound:A6 P w K mg base 1 "names_bound" ["form", "number"] (Nj K)):Az P w K mg base A0 3 f fd ["placed"] (M5 K):=by
 refine F.okq sc_kinds_in (fun vs H Q E h=>?_) (fun cdv A outer s H vs Q E hr h=>?_)
 ·obtain ⟨p,rows,rs,ps,m',D',rfl,_⟩:=h
  rfl
 ·obtain ⟨p,rows,rs,ps,m',D',rfl,ep,al,hl,hpl,hK,q⟩:=h
  refine ⟨_,Ad (Ao 1 sc_kinds_in (Fi (Mu K) (by rfl) T.list (by decide +kernel) (Aa (C1 G_FIRST_SHAPES) Ab)))
   (Ad (Ao 2 sc_kinds_in (Bb Ab))
   (Ad (Ao 3 sc_kinds_in (Zhk))
   (Ad (Ao 4 sc_kinds_in (Zfe hr.u1 (Ap Ab) (K6)))
   (Ad (Da Ph rfl (Cw K (qv 0)) (Cy K (n:=2) rfl (Be (Av (i:=5) sc_kinds_in.nd rfl (Or.inl rfl)) (Be (Av (i:=6) sc_kinds_in.nd rfl (Or.inl rfl)) (C0)))) (Ad (Fq (Bc C_kinds_of_word hr.m (Aa (qv 1) (Aa (Ak K (qv 6) Ag) Ab))) (Cy K (n:=3) rfl (Be (Av (i:=7) sc_kinds_in.nd rfl (Or.inl rfl)) (Be (Av (i:=8) sc_kinds_in.nd rfl (Or.inl rfl)) (Be (Av (i:=9) sc_kinds_in.nd rfl (Or.inl rfl)) (C0))))))
   (Ad (As (Ax (Bd K hr.u200) (Ak K (qv 6) Ag) Aq (Aw _)) (Ce) Ay)
   (Ad (C3 (Dr K Pi P6 P7 Du (qv 2) (Aa (Ap (Aa (qv 7) (Aa (Zij hr.u1 (qv 3) (qv 5) (qv 7)) Ab))) Ab)))
   (Ai (Da Ph rfl (Zad K rfl T.enumerate (Aa (qv 8) Ab)) (Cy K (n:=2) rfl (Be (Av (i:=10) sc_kinds_in.nd rfl (Or.inl rfl)) (Be (Av (i:=11) sc_kinds_in.nd rfl (Or.inl rfl)) (C0)))) (Ad (Ao 12 sc_kinds_in (Ba (Zar K) (qv 5) (Ap (Aa (qv 10) Ab))))
   (Ad (Gm hr.u1 (qv 3) (qv 12) (qv 11))
   (Ai (Gm hr.u1 (qv 4) (qv 12) (Bc C_with_names hr.m (Aa (Nr hr.u1 (qv 4) (qv 5) (fun _ _=>rfl)) (Aa (Bc C_names_bound hr.m (Aa (qv 6) (Aa (qv 10) Ab))) (Aa (qv 9) Ab))))))))))))))
   (Ai (Ar (Ap (Aa (qv 1) (Aa (qv 2) Ab))))))))),?_⟩
  have bg:=big
  walk_at "r"
  refine ⟨fs,_,rfl,.inr (hfs H),fun a ha=>?_⟩
  have t1:=Same.upd (o:=.lst [.ref s0,.ref s1]) ha
  walk_at "r"
  refine ⟨Bf,fun b hb=>?_⟩
  have t2:=Same.upd (o:=.lst []) hb
  walk_at "r"
  refine fun c hc=>?_
  have t3:=Same.upd (o:=.dT []) hc
  walk_at "r"
  refine fun d hd=>?_
  have t4:=Same.upd (o:=.dT []) hd
  walk_at "r"
  refine ⟨Bf,fun e0 he0=>?_⟩
  have t5:=Same.upd (o:=.tup []) he0
  refine fun e1 he1=>?_
  have t6:=Same.upd (o:=.dK []) he1
  have ed:=(t5.trans t6) d _ Ac
  have ee0:=t6 e0 _ Ac
  refine ⟨_,DPut.t (k:=A9 []) ed (by show _=some (HO.tup []);exact ee0) (by show 0 < sizeLine;decide),?_⟩
  have sH:=((((t1.trans t2).trans t3).trans t4).trans t5).trans t6
  have fK:KiF H a b c d:=⟨ha,t1.free hb,(t1.trans t2).free hc,((t1.trans t2).trans t3).free hd,An Ac hb,An Ac hd⟩
  have J0:KiJ K H a b c d 2 0 (fun _=>none) (fun _=>False) [] _:=⟨⟨[.ref s0,.ref s1],((((t2.trans t3).trans t4).trans t5).trans t6) a _ Ac,rfl,fun i u hu=>by
    match i,hu with
    | 0,hu=>cases hu;exact ⟨s0,rfl,hs0 _⟩
    | 1,hu=>cases hu;exact ⟨s1,rfl,hs1 _⟩⟩,Oq _,⟨[],(((t3.trans t4).trans t5).trans t6) b _ Ac,.nil⟩,⟨[],((t4.trans t5).trans t6) c _ Ac,Oq _,fun q=>rfl⟩,⟨[],ed,Pd _,fun q h=>h.elim⟩,sH⟩
  have J1:=((J0.imp (x':=1) (by decide) rfl (fun _ h=>h)).name (x:=0) (q:=[]) (e:=e1) fK ed (Pd _) (fun q h=>h.elim) Ac)
  revert J1
  generalize upd _ d _=H1
  intro J1
  walk_at "r"
  refine .inl ⟨p,rfl,⟨_,SqL.of (J1.sm _ _ ep)⟩,?_⟩
  refine Lq (K:=K) (a:=p) (xs:=rows) (fun i σ' H'=>∃ v5 v6 v7 v8 v9 v10 v11 v12 m D ps1 ps2,σ'=[some (.ref p),some (.ref a),some (.ref b),some (.ref c),some (.ref d),v5,v6,v7,v8,v9,v10,v11,v12]/\KiJ K H a b c d m (1+3 * i) D (fun q=>q=[]\/(D q).isSome) ps1 H'/\m<=2+i/\ps1.length=i/\Kin (rs.drop i) m D ps2 m' D'/\ps1++ps2=ps)
   ⟨_,_,_,_,_,_,_,_,2,fun _=>none,[],ps,rfl,J1.imp (by decide) rfl (fun q hq=>hq.imp_right fun h=>by cases h),Oq _,rfl,hK,rfl⟩ ?_ ?_ ?_
  ·rintro i σ' H' _ ⟨_,_,_,_,_,_,_,_,_,_,_,_,_,J,_⟩
   exact SqL.of (J.sm _ _ ep)
  ·rintro i x σ' H2 hx ⟨v5,v6,v7,v8,v9,v10,v11,v12,m,D,ps1,ps2,rfl,J,hm,hpn,hKi,hps⟩
   obtain ⟨y,hy,hrow⟩:=al.get hx
   have hi:=(O7.mp hy).1
   obtain ⟨pl,t⟩:=y
   have hplen:pl.length<=40:=hpl _ (Px hy)
   have hdr:rs.drop i=(pl,t)::rs.drop (i+1):=by
    rw [P5 hi]
    rw [Os hi] at hy
    rw [O4 hy]
   rw [hdr] at hKi
   cases hKi with
   | @cons _ wd n ts _ _ _ _ _ ps3 hp hw hlt hK2 =>
   obtain ⟨ra,pp,u,rfl,qra,epp,hu⟩:=hrow
   have hu0:=hu
   cases hu with
   | @mk bq pq _ nv _ us _ qb hno qpp hul hch =>
   walk_at "r"
   refine C9 (J.sm.tup qra) rfl ?_
   walk_at "r"
   refine Au (J.sm.tup qb) rfl ?_
   walk_at "r"
   refine ⟨a,wd,m,rfl,hw,J.m2,by omega,J.sh,fun r bb cc H3 hbt S3 qr ebb hbb nbb ecc hcc ncc ncb=>?_⟩
   have J3:=J.kind fK hbt S3 (Jf wd m)
   have ebb3:=ebb
   obtain ⟨pv,eb3,alp⟩:=J3.pr
   obtain ⟨kc,ec3,lc3,vc3⟩:=J3.ac
   have hbb0:b≠bb:=by
    obtain ⟨pv0,eb0,_⟩:=J.pr
    exact An eb0 hbb
   have hbc0:b≠cc:=by
    obtain ⟨pv0,eb0,_⟩:=J.pr
    exact An eb0 hcc
   refine C9 qr rfl ?_
   walk_at "r"
   refine Au (J3.sm.tup qb) rfl ?_
   walk_at "r"
   rw [Fb hw (by decide)]
   walk_at "r"
   refine B7 (SqL.of eb3) ?_
   walk_at "r"
   refine ⟨c,rfl,.inr ⟨_,.inl ec3⟩,?_⟩
   have epp3:H3 pp=some (.tup ((A9 pl).map kV)):=by rw [Iv];exact J3.sm _ _ epp
   walk_at "r"
   refine ⟨_,DGet.t ec3 epp3,?_⟩
   have eg:(A7 kc (A9 pl)).getD (.int (gk wd m:Nat))=.int (((D pl).getD (gk wd m):Nat):Int):=by
    rw [vc3]
    cases D pl <;> rfl
   rw [eg]
   walk_at "r"
   refine ⟨Cc,fun pt hpt=>?_⟩
   have s4:=Same.upd (o:=.tup [.int (gk wd m:Nat),.int (((D pl).getD (gk wd m):Nat):Int)]) hpt
   walk_at "r"
   have hpvl:pv.length < sizeLine:=by rw [alp.1,hpn];omega
   refine C6 (s4 _ _ eb3) hpvl ?_
   have J4:=(J3.keep s4).pair (v:=.ref pt) (y:=(gk wd m,(D pl).getD (gk wd m))) fK (s4 _ _ eb3) (alp.mono (PaAt.same s4.t)) ⟨pt,rfl,SqT.of Ac⟩
   have ebb4:upd (upd H3 pt (.tup [.int (gk wd m:Nat),.int (((D pl).getD (gk wd m):Nat):Int)])) b (.lst (pv++[.ref pt])) bb=some (.lst (A2 (A5 wd (gk wd m)))):=by rw [Af hbb0.symm];exact s4 _ _ ebb
   have ecc4:upd (upd H3 pt (.tup [.int (gk wd m:Nat),.int (((D pl).getD (gk wd m):Nat):Int)])) b (.lst (pv++[.ref pt])) cc=some (.lst []):=by rw [Af hbc0.symm];exact s4 _ _ ecc
   revert J4 ebb4 ecc4
   generalize upd (upd H3 pt (.tup [.int (gk wd m:Nat),.int (((D pl).getD (gk wd m):Nat):Int)])) b (.lst (pv++[.ref pt]))=H4
   intro J4 ebb4 ecc4
   walk_at "r"
   refine ⟨bb,_,rfl,SqL.of ebb4,?_⟩
   have hasl:(A2 (A5 wd (gk wd m))).length=ar wd:=by unfold A2;rw [Ox,Gp]
   have har:=Zf8 wd
   refine Mw (K:=K) (a:=bb) (xs:=A2 (A5 wd (gk wd m))) (fun j σ5 H5=>∃ B8 B9 Dq,σ5=[some (.ref p),some (.ref a),some (.ref b),some (.ref c),some (.ref d),some (.ref pp),some (.ref bq),some (.int (gk wd m:Nat)),some (.ref bb),some (.ref cc),B8,B9,Dq]/\KiJ K H a b c d (nx wd m) (1+3 * i+j) (Bq D pl 0 ((A5 wd (gk wd m)).take j)) (fun q=>(q=[]\/(D q).isSome)\/∃ k,k < j/\q=pl++[k]) (ps1++[(gk wd m,(D pl).getD (gk wd m))]) H5/\H5 bb=some (.lst (A2 (A5 wd (gk wd m))))/\H5 cc=some (.lst []))
    ⟨_,_,_,rfl,J4.imp (Oq _) (by rw [List.take_zero];rfl) (fun q hq=>hq.resolve_right fun ⟨k,hk,_⟩=>absurd hk (Sv _)),ebb4,ecc4⟩ ?_ ?_ ?_
   ·rintro j σ5 H5 _ ⟨_,_,_,_,_,e,_⟩
    exact SqL.of e
   ·rintro j x tt σ5 H5 hx2 htt ⟨B8,B9,Dq,rfl,J5,ebb5,ecc5⟩
    have hj:j < (A5 wd (gk wd m)).length:=by have:=(O7.mp hx2).1;unfold A2 at this;rwa [Ox] at this
    have hjar:j < ar wd:=by rwa [Gp] at hj
    have hxv:x=.int (((A5 wd (gk wd m))[j]:Nat):Int):=by unfold A2 at hx2;rw [Pg,Os hj] at hx2;exact (O4 hx2).symm
    subst hxv
    have s6:=Same.upd (o:=.tup [.int (j:Nat),.int (((A5 wd (gk wd m))[j]:Nat):Int)]) htt
    have J6:=J5.keep s6
    refine C9 (SqT.of Ac) rfl ?_
    have ebb6:=s6 _ _ ebb5
    have ecc6:=s6 _ _ ecc5
    revert J6 ebb6 ecc6
    generalize upd H5 tt (.tup [.int (j:Nat),.int (((A5 wd (gk wd m))[j]:Nat):Int)])=H6
    intro J6 ebb6 ecc6
    walk_at "r"
    refine ⟨Cn,fun p7 h7=>?_⟩
    have s7:=Same.upd (o:=.tup [.int (j:Nat)]) h7
    refine .inr ⟨pp,p7,_,_,rfl,rfl,s7 _ _ (J6.sm _ _ epp),Ac,by show (A8 pl).length+1<=sizeLine;unfold A8;rw [Ox];omega,fun pa H8 s8 epa=>?_⟩
    have s78:=s7.trans s8
    have J8:=J6.keep s78
    have ebb8:=s78 _ _ ebb6
    have ecc8:=s78 _ _ ecc6
    rw [<- Zhw] at epa
    have epa8:H8 pa=some (.tup ((A9 (pl++[j])).map kV)):=by rw [Iv];exact epa
    obtain ⟨kc8,ec8,lc8,vc8⟩:=J8.ac
    obtain ⟨kd8,ed8,ld8,_⟩:=J8.ad
    walk_at "r"
    refine ⟨c,_,rfl,DPut.t (k:=A9 (pl++[j])) ec8 epa8 (by omega),?_⟩
    have J9:=J8.ask (n:=(A5 wd (gk wd m))[j]) (q:=pl++[j]) fK ec8 lc8 vc8
    have t9:=SameT.dt (o2:=.dT (A1 kc8 (A9 (pl++[j])) (.int (((A5 wd (gk wd m))[j]:Nat):Int)))) ec8
    have epa9:=(t9 pa).1 _ epa8
    have ebb9:upd H8 c (.dT (A1 kc8 (A9 (pl++[j])) (.int (((A5 wd (gk wd m))[j]:Nat):Int)))) bb=some (.lst (A2 (A5 wd (gk wd m)))):=by rw [Af (Bs ebb8 ec8 (fun z=>by cases z))];exact ebb8
    have ecc9:upd H8 c (.dT (A1 kc8 (A9 (pl++[j])) (.int (((A5 wd (gk wd m))[j]:Nat):Int)))) cc=some (.lst []):=by rw [Af (Bs ecc8 ec8 (fun z=>by cases z))];exact ecc8
    have ed98:upd H8 c (.dT (A1 kc8 (A9 (pl++[j])) (.int (((A5 wd (gk wd m))[j]:Nat):Int)))) d=some (.dT kd8):=by rw [Af fK.cd.symm];exact ed8
    revert J9 epa9 ebb9 ecc9 ed98
    generalize upd H8 c (.dT (A1 kc8 (A9 (pl++[j])) (.int (((A5 wd (gk wd m))[j]:Nat):Int))))=H9
    intro J9 epa9 ebb9 ecc9 ed98
    obtain ⟨kd9,ed9,_,vd9⟩:=J9.ad
    rw [ed9] at ed98
    cases ed98
    obtain ⟨e9,ve9,he9⟩:=vd9 pl (.inl hp)
    have epp9:H9 pp=some (.tup ((A9 pl).map kV)):=by rw [Iv];exact J9.sm _ _ epp
    walk_at "r"
    refine ⟨d,.ref e9,rfl,by rw [<- ve9];exact DGet.t ed9 epp9,?_⟩
    walk_at "r"
    refine ⟨.ref bq,wd,n,ts,_,rfl,hu0.same J9.sm,hw,fun pn hpn=>?_⟩
    have sA:=Same.upd (o:=.lst []) hpn
    walk_at "r"
    refine ⟨e9,pn,cc,rfl,sA _ _ he9,Ac,sA _ _ ecc9,fun pz hpz=>?_⟩
    have sB:=sA.put (o:=.dK []) hpz
    walk_at "r"
    have JB:=J9.keep sB
    have lda:kd8.length < sizeLine:=by omega
    refine ⟨d,_,rfl,DPut.t (k:=A9 (pl++[j])) (sB _ _ ed9) (sB _ _ epa9) lda,?_⟩
    have edB:=sB _ _ ed9
    refine ⟨_,_,_,rfl,(JB.name (x:=1+3 * i+j) (q:=pl++[j]) (e:=pz) fK edB (by omega) (fun q hq=>let ⟨e,h1,h2⟩:=vd9 q hq;⟨e,h1,sB _ _ h2⟩) Ac).imp (by omega) ?_ (fun q hq=>?_),?_,?_⟩
    ·rw [Q3,Os hj]
     show _=Bq D pl 0 ((A5 wd (gk wd m)).take j++[(A5 wd (gk wd m))[j]])
     rw [Oa,Pz,Nat.min_eq_left (Sy hj),Nat.zero_add]
    ·rcases hq with hq | ⟨k,hk,rfl⟩
     ·exact .inr (.inl hq)
     ·by_cases hkj:k=j
      ·rw [hkj];exact .inl rfl
      ·exact .inr (.inr ⟨k,by omega,rfl⟩)
    ·rw [Af (Bs (sB _ _ ebb9) edB (fun z=>by cases z))]
     exact sB _ _ ebb9
    ·rw [Af (Bs (sB _ _ ecc9) edB (fun z=>by cases z))]
     exact sB _ _ ecc9
   ·rintro σ5 H5 ⟨B8,B9,Dq,rfl,J5,ebb5,ecc5⟩
    rw [hasl] at J5
    have n1:=Zcj wd m
    refine ⟨_,_,_,_,_,_,_,_,nx wd m,Bq D pl 0 (A5 wd (gk wd m)),ps1++[(gk wd m,(D pl).getD (gk wd m))],ps3,rfl,J5.imp (by omega) (by rw [Tg (by rw [Gp];exact Oq _)]) (fun q hq=>?_),by omega,by simp [hpn],hK2,by rw [<- hps,Qh];rfl⟩
    rcases hq with hq | hq
    ·exact .inl (.inl hq)
    ·by_cases hk:∃ k,q=pl++[k]
     ·obtain ⟨k,rfl⟩:=hk
      by_cases hka:k < ar wd
      ·exact .inr ⟨k,hka,rfl⟩
      ·rw [Zhe (by rw [Gp];omega)] at hq
       exact .inl (.inr hq)
     ·rw [La pl q (fun j e=>hk ⟨j,e⟩)] at hq
      exact .inl (.inr hq)
  ·rintro σ' H2 ⟨v5,v6,v7,v8,v9,v10,v11,v12,m,D,ps1,ps2,rfl,J,hm,hpn,hKi,hps⟩
   rw [al.1,T3] at hKi
   cases hKi
   rw [P0] at hps
   subst hps
   obtain ⟨pv,eb,alp⟩:=J.pr
   walk_at "r"
   refine ⟨Cc,fun r hr'=>?_⟩
   have s3:=Same.upd (o:=.tup [.ref a,.ref b]) hr'
   exact q r a b pv _ (J.sm.trans s3) (SqT.of Ac) (J.sh.same s3) (s3 _ _ eb) (alp.mono (PaAt.same s3.t))
end
mutual
theorem Zhd:∀(t:Tr)(pl:List Nat)(a:Option Bool)(r:Rw),r∈Am pl a t->pl.length<=r.1.length
 | .mk w _ ts,pl,a,r,h=>by
  rw [Am] at h
  rcases Oy.mp h with rfl | h
  ·exact Oq _
  ·have:=Ll ts pl w a 0 r h
   omega
theorem Ll:∀(ts:List Tr)(pl:List Nat)(w:Str)(a:Option Bool)(i:Nat)(r:Rw),r∈Bm pl w a i ts->pl.length+1<=r.1.length
 | [],_,_,_,_,r,h=>by rw [Bm] at h;cases h
 | t::ts,pl,w,a,i,r,h=>by
  rw [Bm] at h
  rcases Pr.mp h with h | h
  ·have:=Zhd t _ _ r h
   rw [O3,Pq] at this
   exact this
  ·exact Ll ts pl w a (i+1) r h
end
theorem Zhh {w:Str}{a:Option Bool}(h:a≠none):gv w a≠none:=by
 unfold gv
 split
 ·simp
 ·split
  ·simp
  ·exact h
mutual
theorem Zjw:∀(t:Tr)(pl:List Nat)(a:Option Bool)(r:Rw),a≠none->r∈Am pl a t->r.2.1≠none/\r.2.2≠none
 | .mk w _ ts,pl,a,r,ha,h=>by
  rw [Am] at h
  rcases Oy.mp h with rfl | h
  ·exact ⟨Zhh ha,ha⟩
  ·exact Kr ts pl w a 0 r (fun i=>by unfold wish;split <;> (try split) <;> simp [ha]) h
theorem Kr:∀(ts:List Tr)(pl:List Nat)(w:Str)(a:Option Bool)(i:Nat)(r:Rw),(∀ i,wish w a i≠none)->r∈Bm pl w a i ts->r.2.1≠none/\r.2.2≠none
 | [],_,_,_,_,r,_,h=>by rw [Bm] at h;cases h
 | t::ts,pl,w,a,i,r,hw,h=>by
  rw [Bm] at h
  rcases Pr.mp h with h | h
  ·exact Zjw t _ _ r (hw i) h
  ·exact Kr ts pl w a (i+1) r hw h
end
theorem Zi4 {t:Tr}(hw:t.wd∈WO):∀ r∈Di (Am [] none t),r.2.1≠none/\r.2.2≠none:=by
 intro r hr
 cases t with
 | mk w n ts =>
 have hw:w∈WO:=hw
 rw [Am] at hr
 rcases Oy.mp hr with rfl | hr
 ·have:gv w none≠none:=by
   simp only [WO,Oy,Pm,or_false] at hw
   rcases hw with rfl | rfl | rfl <;> decide
  exact ⟨this,this⟩
 ·exact Kr ts [] w none 0 r (fun i=>by unfold wish;rw [if_neg (Oj hw)];simp) hr
noncomputable def flat (ps:List (Nat×Nat)):List Nat:=ps.flatMap fun p=>[p.1,p.2]
theorem K5:∀ ps:List (Nat×Nat),(flat ps).length=2 * ps.length
 | []=>rfl
 | p::r=>by
  have:=K5 r
  have e:flat (p::r)=p.1::p.2::flat r:=rfl
  rw [e,O8,O8,O8,this]
  omega
theorem Zip (ps:List (Nat×Nat))(p:Nat×Nat):flat (ps++[p])=flat ps++[p.1,p.2]:=by unfold flat;rw [Qv];rfl
theorem K7:∀(ps:List (Nat×Nat))(i:Nat)(p:Nat×Nat),ps[i]?=some p->(flat ps)[2 * i]?=some p.1/\(flat ps)[2 * i+1]?=some p.2
 | [],i,p,h=>by simp at h
 | x::r,0,p,h=>by
  cases h
  exact ⟨rfl,rfl⟩
 | x::r,i+1,p,h=>by
  obtain ⟨h1,h2⟩:=K7 r i p (by simpa using h)
  have e:flat (x::r)=x.1::x.2::flat r:=rfl
  rw [e,show 2 * (i+1)=2 * i+1+1 by omega]
  exact ⟨h1,h2⟩
theorem Zfo {ps:List (Nat×Nat)}{n:Nat}(h:n∈flat ps):∃ p∈ps,n=p.1\/n=p.2:=by
 unfold flat at h
 obtain ⟨p,hp,h⟩:=List.mem_flatMap.mp h
 simp only [Oy,Pm,or_false] at h
 exact ⟨p,hp,h⟩
theorem Zb4 {t:Tr}{v':Va}{m:Nat}(R:Res (Bk 2 none t) (Di (Am [] none t)) v0 2 m v'){i:Nat}{r:Rw}(hr:(Am [] none t)[i]?=some r) :
  ∃ p fb,(Bk 2 none t)[i]?=some p/\v' p.1=r.2.1/\(r.1≠[]->v' p.2=r.2.2)/\(r.1=[]->r.2.2=none)/\((Di (Am [] none t)).map fun r=>r.2.1 == r.2.2)[i]?=some fb/\(cond fb "" "unlike" : Str)=mk r:=by
 have hv:=R.val v' fun _ _=>rfl
 cases t with
 | mk w n ts =>
 rw [Am] at hr
 rw [Am] at hv
 cases i with
 | zero =>
  have hr:(([],gv w none,none):Rw)=r:=by simpa using hr
  subst hr
  rw [Bk] at hv ⊢
  have hv:=(List.cons.inj hv).1
  refine ⟨_,(gv w none == gv w none),rfl,(Prod.mk.inj hv).1,fun h=>absurd rfl h,fun _=>rfl,rfl,?_⟩
  have:(gv w none == gv w none)=true:=by cases gv w none with | none=>rfl | some b=>cases b <;> rfl
  rw [this]
  rfl
 | succ i =>
  have hr:(Bm [] w none 0 ts)[i]?=some r:=by simpa using hr
  have hne:r.1≠[]:=fun z=>by
   have:=Ll ts [] w none 0 r (Px hr)
   rw [z] at this
   simp at this
  have h1:=congrArg (fun l=>l[i+1]?) hv
  have e2:(Di (([],gv w none,none)::Bm [] w none 0 ts))[i+1]?=some r:=hr
  rw [Pg,Pg,e2] at h1
  cases hp:(Bk 2 none (.mk w n ts))[i+1]? with
  | none=>rw [hp] at h1;cases h1
  | some p =>
   rw [hp] at h1
   have h1:=Prod.mk.inj (O4 h1)
   refine ⟨p,(r.2.1 == r.2.2),rfl,h1.1,fun _=>h1.2,fun h=>absurd h hne,?_,?_⟩
   ·rw [Am,Pg,e2]
    rfl
   ·unfold mk
    by_cases h:r.2.1=r.2.2
    ·rw [if_pos (.inr h),h]
     have:(r.2.2 == r.2.2)=true:=by cases r.2.2 with | none=>rfl | some b=>cases b <;> rfl
     rw [this]
     rfl
    ·rw [if_neg (fun z=>z.elim hne h)]
     have:(r.2.1 == r.2.2)=false:=by simpa using h
     rw [this]
     rfl
mutual
theorem M8:∀(t:Tr)(pl:List Nat)(x:List Nat×Tr),Pt t->x∈walk pl t->Pt x.2
 | .mk w n ts,pl,x,h,hx=>by
  rw [walk] at hx
  rcases Oy.mp hx with rfl | hx
  ·exact h
  ·cases h with
   | mk _ _ h=>exact Nu ts pl 0 x h hx
theorem Nu:∀(ts:List Tr)(pl:List Nat)(i:Nat)(x:List Nat×Tr),(∀ t∈ts,Pt t)->x∈Bj pl i ts->Pt x.2
 | [],_,_,x,_,hx=>by rw [Bj] at hx;cases hx
 | t::r,pl,i,x,h,hx=>by
  rw [Bj] at hx
  rcases Pr.mp hx with hx | hx
  ·exact M8 t _ x (h t (by simp)) hx
  ·exact Nu r pl (i+1) x (fun y hy=>h y (by simp [hy])) hx
end
theorem Zcx {t s:Tr}{pl p:List Nat}(h:Pt t)(hx:(p,s)∈walk pl t):Pt s:=M8 t pl (p,s) h hx
section
variable {P:Program}{w:World}{K:Oo}{mg:Str->Option Value}{base:Heap}
noncomputable def Nh (K:Oo):Sp:=fun vs H Q _=>∃(t p v:V)(w:Str)(n:Dt)(ps:List Tr)(b:Bool),vs=[t,p,v,.bl b]/\TrAt K H v (.mk w n ps)/\w∈WA/\Q (.str (cond b "" "unlike")) H
theorem Zex:Bg ["tree", "place", "form", "fits"] ["tree", "place", "form", "fits"] (A3 Gg):=by walk_at "sc"
theorem Zif {f:Addr}{fd:FuncData}(F:Fun K "mark_of" "mark_of" Gg f fd)(T:Txt K mg):Az P w K mg base A0 1 f fd ["tree", "place", "form", "fits"] (Nh K):=by
 refine F.okq Zex (fun vs H Q E h=>?_) (fun cdv A outer s H vs Q E hr h=>?_)
 ·obtain ⟨t,p,v,w,n,ps,b,rfl,_⟩:=h
  rfl
 ·obtain ⟨t,p,v,w,n,ps,b,rfl,ht,hw,q⟩:=h
  refine ⟨_,Ad (As (Gn (Ex K (qv 3) (by intro _;rfl))) (Ai (Ar Aq)) Ay)
   (Ad (As (Ax (Bd K hr.u200) (Ak K (qv 2) Ag) Aq (Aw _)) (Ce) Ay)
   (Ad (As (QW.qt (Lm (Ax (Bd K hr.u200) (Ak K (qv 2) Ag) Aq (Aw _)) (Kh (Fg (Hl (Ir)))))) (Ce) Ay)
   (Ai (Ar Aq)))),?_⟩
  cases ht with
  | @mk bq pp _ nv _ us _ qb hn qp l hch =>
  walk_at "r"
  refine ⟨b,?_,?_⟩
  ·show b=b;rfl
  cases b with
  | false =>
   walk_at "r"
   exact q
  | true =>
   walk_at "r"
   refine Au qb rfl ?_
   walk_at "r"
   rw [Fb hw (by decide)]
   walk_at "r"
   refine Au qb rfl ?_
   walk_at "r"
   rw [Fb hw (by decide)]
   walk_at "r"
   exact q
theorem VB.v0:VB v0:=⟨rfl,rfl⟩
noncomputable def Kd (K:Oo):Sp:=fun vs H Q _=>∃(v:V)(t:Tr),vs=[v]/\TrAt K H v t/\Pt t/\t.wd∈WO/\t.size<=40/\∀(p:Addr)(rows:List V)(H':Hp),Same H H'->H' p=some (.lst rows)->Al (LkAt K H') rows (Am [] none t)->Q (.ref p) H'
theorem sc_looks:Bg ["tree", "placed", "shapes", "pairs", "settled", "fits", "wanted", "pair", "kinds", "rows", "number", "asked"] ["tree"] (A3 Fz):=by walk_at "sc"
theorem Zh5 {f:Addr}{fd:FuncData}(F:Fun K "looks" "looks" Fz f fd)(T:Txt K mg)(G_MOST_FORMS:Ds mg "MOST_FORMS" (.int 40))(C_placed_forms:A6 P w K mg base 1 "placed_forms" ["tree"] (Nb K))(C_kinds_in:A6 P w K mg base 3 "kinds_in" ["placed"] (M5 K))(C_fitted:A6 P w K mg base 4 "fitted" ["shapes", "pairs"] (Zac K))(C_kinds_told:A6 P w K mg base 2 "kinds_told" ["shapes", "wanted"] (Zbh K))(C_mark_of:A6 P w K mg base 1 "mark_of" ["tree", "place", "form", "fits"] (Nh K)):Az P w K mg base A0 5 f fd ["tree"] (Kd K):=by
 refine F.okq sc_looks (fun vs H Q E h=>?_) (fun cdv A outer s H vs Q E hr h=>?_)
 ·obtain ⟨v,t,rfl,_⟩:=h
  rfl
 ·obtain ⟨v,t,rfl,ht,hpt,hwo,hsz,q⟩:=h
  refine ⟨_,Ad (Ao 1 sc_looks (Bc C_placed_forms hr.m (Aa (qv 0) Ab)))
   (Ad (As (Ax Za0 (Bp (Cp K) (by rfl) T.len (by decide +kernel) (Aa (qv 1) Ab)) (C1 G_MOST_FORMS) (Aw _)) (Ce) Ay)
   (Ad (Fq (Bc C_kinds_in hr.m (Aa (qv 1) Ab)) (Cy K (n:=2) rfl (Be (Av (i:=2) sc_looks.nd rfl (Or.inl rfl)) (Be (Av (i:=3) sc_looks.nd rfl (Or.inl rfl)) (C0)))))
   (Ad (Fq (Bc C_fitted hr.m (Aa (qv 2) (Aa (qv 3) Ab))) (Cy K (n:=2) rfl (Be (Av (i:=4) sc_looks.nd rfl (Or.inl rfl)) (Be (Av (i:=5) sc_looks.nd rfl (Or.inl rfl)) (C0)))))
   (Ad (Ao 6 sc_looks (Bb Ab))
   (Ad (Da Ph rfl (Cw K (qv 3)) (Av (i:=7) sc_looks.nd rfl (Or.inl rfl)) (Ai (C3 (Dr K Pi PySem.F.slot_list_extend PySem.F.type_list_extend (Zb8 K) (qv 6) (Aa (qv 7) Ab)))))
   (Ad (Ao 8 sc_looks (Bc C_kinds_told hr.m (Aa (qv 4) (Aa (qv 6) Ab))))
   (Ad (Ao 9 sc_looks (Bb Ab))
   (Ad (Da Ph rfl (Zad K rfl T.enumerate (Aa (qv 1) Ab)) (Cy K (n:=2) rfl (Be (Av (i:=10) sc_looks.nd rfl (Or.inl rfl)) (Be (Av (i:=7) sc_looks.nd rfl (Or.inl rfl)) (C0)))) (Ad (Ao 11 sc_looks (G5 (Ax (Nf K hr.u200) (Ak K (qv 7) Ag) (Ap Ab) (Aw _)) D7 (Ak K (qv 8) (Ba (F3 K) (Ba Hr Ag (qv 10)) Ag))))
   (Ai (C3 (Dr K Pi P6 P7 Du (qv 9) (Aa (Ap (Aa (Ak K (qv 7) Ag) (Aa (Ak K (qv 8) (Ba Hr Ag (qv 10))) (Aa (qv 11) (Aa (Bc C_mark_of hr.m (Aa (qv 0) (Aa (Ak K (qv 7) Ag) (Aa (Ak K (qv 7) Ag) (Aa (Ak K (qv 5) (qv 10)) Ab))))) Ab))))) Ab))))))
   (Ai (Ar (qv 9))))))))))),?_⟩
  have bg:=big
  obtain ⟨D',_,hK⟩:=kinT t [] 2 (fun _=>none) hpt (.inl rfl)
  obtain ⟨v',R⟩:∃ v',Res (Bk 2 none t) (Di (Am [] none t)) v0 2 (Bv 2 t) v':=by
   cases t with
   | mk w n ts=>exact Zix hpt hwo
  have hwl:(walk [] t).length=t.size:=El _ _
  have hpl:(Bk 2 none t).length=t.size:=by rw [Zbf 2 none t [],hwl]
  have hdl:(Am [] none t).length=t.size:=by rw [<- Ox (f:=fun r:Rw=>r.1),Eb,Ox,hwl]
  have hnx:=Lu 2 t
  have hsome:∀ n∈flat (Bk 2 none t),n < Bv 2 t/\v' n≠none:=by
   intro n hn
   obtain ⟨p,hp,hn⟩:=Zfo hn
   have hlt:=R.lt p hp
   obtain ⟨i,hi⟩:=List.mem_iff_getElem?.mp hp
   have hv:=congrArg (fun l=>l[i]?) (R.val v' fun _ _=>rfl)
   rw [Pg,Pg,hi] at hv
   cases hr2:(Di (Am [] none t))[i]? with
   | none=>rw [hr2] at hv;cases hv
   | some r =>
    rw [hr2] at hv
    have hv:=Prod.mk.inj (O4 hv)
    have hs:=Zi4 hwo r (Px hr2)
    rcases hn with rfl | rfl
    ·exact ⟨hlt.1,by rw [hv.1];exact hs.1⟩
    ·exact ⟨hlt.2,by rw [hv.2];exact hs.2⟩
  walk_at "r"
  refine ⟨v,t,rfl,ht,by omega,fun pp rows H1 s1 hpp er al=>?_⟩
  have hrl:rows.length=t.size:=by rw [al.1,hwl]
  walk_at "r"
  refine C7 (SqL.of er) ?_
  walk_at "r"
  refine Zg7 ?_ ?_
  ·have:¬ ((40:Int) < (rows.length:Nat)):=by omega
   simpa using this
  walk_at "r"
  refine ⟨pp,rows,walk [] t,Bk 2 none t,Bv 2 t,D',rfl,er,al,by omega,fun r hr2=>by have:=F0 [] t r hr2;simp at this;omega,hK,fun r a b pv H2 s2 qr sh eb alp=>?_⟩
  refine C9 qr rfl ?_
  walk_at "r"
  refine ⟨a,b,v0,v',Bv 2 t,pv,Bk 2 none t,_,rfl,sh,VB.v0,hnx,eb,alp,R.lt,R.fit,by omega,fun r2 a2 c2 H3 s3 qr2 ec2 sh2 vb2=>?_⟩
  refine C9 qr2 rfl ?_
  walk_at "r"
  refine ⟨Bf,fun pw hpw=>?_⟩
  have s4:=Same.upd (o:=.lst []) hpw
  have eb4:=s4 _ _ (s3 _ _ eb)
  walk_at "r"
  refine .inl ⟨b,rfl,⟨_,SqL.of eb4⟩,?_⟩
  refine Lq (K:=K) (a:=b) (xs:=pv) (fun i σ' H'=>∃ v7 v8 v9 v10 v11,σ'=[some v,some (.ref pp),some (.ref a),some (.ref b),some (.ref a2),some (.ref c2),some (.ref pw),v7,v8,v9,v10,v11]/\H' pw=some (.lst (A2 (flat ((Bk 2 none t).take i))))/\Same H3 H')
   ⟨_,_,_,_,_,rfl,Ac,s4⟩ ?_ ?_ ?_
  ·rintro i σ' H' _ ⟨_,_,_,_,_,_,_,sm⟩
   exact SqL.of (sm _ _ (s3 _ _ eb))
  ·rintro i x σ' H5 hx ⟨v7,v8,v9,v10,v11,rfl,ew,sm⟩
   obtain ⟨y,hy,pa,rfl,qpa⟩:=alp.get hx
   have hi:=(O7.mp hy).1
   have hfl:(A2 (flat ((Bk 2 none t).take i))).length=2 * i:=by unfold A2;rw [Ox,K5,Pz];omega
   walk_at "r"
   refine B7 (SqL.of ew) ?_
   walk_at "r"
   refine ⟨pw,pa,_,_,rfl,rfl,ew,(s3.trans sm).tup qpa,by rw [hfl];show 2 * i+2<=sizeLine;omega,?_⟩
   refine ⟨_,_,_,_,_,rfl,?_,sm.over hpw⟩
   rw [Ac,Q3,hy]
   show some (HO.lst (A2 (flat ((Bk 2 none t).take i))++[.int (y.1:Nat),.int (y.2:Nat)]))=some (.lst (A2 (flat ((Bk 2 none t).take i++[y]))))
   rw [Zip]
   unfold A2
   rw [Ps]
   rfl
  ·rintro σ' H5 ⟨v7,v8,v9,v10,v11,rfl,ew,sm⟩
   rw [alp.1,Qz] at ew
   walk_at "r"
   refine ⟨a2,pw,v',Bv 2 t,flat (Bk 2 none t),rfl,sh2.same sm,vb2,hnx,ew,hsome,by rw [K5];omega,fun c3 us H6 s6 hc3 ec3 alk=>?_⟩
   walk_at "r"
   refine ⟨Bf,fun pr hpr=>?_⟩
   have s7:=Same.upd (o:=.lst []) hpr
   have sA:Same H1 H6:=((s2.trans s3).trans sm).trans s6
   have hpr0:H pr=none:=(s1.trans sA).free hpr
   walk_at "r"
   refine ⟨pp,rows,rfl,SqL.of (s7 _ _ (sA _ _ er)),?_⟩
   have e6:H6 c2=some (.lst ((((Di (Am [] none t)).map fun r=>r.2.1 == r.2.2)).map V.bl)):=(sm.trans s6) _ _ ec2
   refine Mw (K:=K) (a:=pp) (xs:=rows) (fun i σ' H'=>∃ w7 B8 B9 rv,σ'=[some v,some (.ref pp),some (.ref a),some (.ref b),some (.ref a2),some (.ref c2),some (.ref pw),w7,some (.ref c3),some (.ref pr),B8,B9]/\H' pr=some (.lst rv)/\Al (LkAt K H') rv ((Am [] none t).take i)/\Same H6 H')
    ⟨_,_,_,[],rfl,Ac,.nil,s7⟩ ?_ ?_ ?_
   ·rintro i σ' H' _ ⟨_,_,_,_,_,_,_,sm2⟩
    exact SqL.of (sm2 _ _ (sA _ _ er))
   ·rintro i x tt σ' H7 hx htt ⟨w7,B8,B9,rv,rfl,erv,alr,sm2⟩
    obtain ⟨y,hy,ra,pl,u,rfl,qra,qpl,hu⟩:=al.get hx
    have hi:=(O7.mp hy).1
    have hid:i < (Am [] none t).length:=by omega
    have hr0:=Os hid
    obtain ⟨p,fb,hp,hv1,hv2,hv3,hfb,hmk⟩:=Zb4 R hr0
    have hpl1:((Am [] none t)[i]).1=y.1:=by
     have:=congrArg (fun l=>l[i]?) (Eb [] none t)
     rw [Pg,Pg,hr0,hy] at this
     exact O4 this
    generalize (Am [] none t)[i]=r at hr0 hv1 hv2 hv3 hmk hpl1
    have s8:=Same.upd (o:=.tup [.int (i:Nat),.ref ra]) htt
    have sB:Same H1 (upd H7 tt (.tup [.int (i:Nat),.ref ra])):=(sA.trans sm2).trans s8
    have sC:Same H6 (upd H7 tt (.tup [.int (i:Nat),.ref ra])):=sm2.trans s8
    have erv8:=s8 _ _ erv
    have alr8:=alr.mono (LkAt.same s8.t)
    refine C9 (SqT.of Ac) rfl ?_
    revert sB sC erv8 alr8
    generalize upd H7 tt (.tup [.int (i:Nat),.ref ra])=H8
    intro sB sC erv8 alr8
    obtain ⟨kv,hkv,kk⟩:=alk.get' (K7 _ _ _ hp).1
    obtain ⟨kw,hkw,kk2⟩:=alk.get' (K7 _ _ _ hp).2
    have qpl8:SqT K H8 pl (A8 y.1):=SqT.of (sB _ _ qpl)
    have i2:(2:Int) * (i:Nat)=((2 * i:Nat):Int):=by omega
    have i3:(2:Int) * (i:Nat)+1=((2 * i+1:Nat):Int):=by omega
    walk_at "q"
    refine viaE (R:=fun av H'=>KdD K H6 av r.2.2/\Same H8 H') ?_ ?_
    ·intro Y hY
     walk_at "r"
     refine Au (sB.tup qra) rfl ?_
     walk_at "r"
     refine ⟨Bf,fun p9 h9=>?_⟩
     have s9:=Same.upd (o:=.tup []) h9
     refine Zah (xs:=y.1.map fun i=>((i:Nat):Int)) (ys:=[]) (by rw [<- Zbk];exact s9.tup qpl8) (SqT.of Ac) ?_
     walk_at "r"
     refine Bx (fun c=>?_) (fun c=>?_)
     ·have c:y.1=[]:=by simpa using c
      walk_at "r"
      exact hY _ _ ⟨.inl ⟨hv3 (by rw [hpl1];exact c),rfl⟩,s9⟩
     ·have c:y.1≠[]:=fun e=>c (by rw [e];rfl)
      walk_at "r"
      rw [i3]
      refine Bh (SqL.of (s9 _ _ (sC _ _ ec3))) (Ct hkw) ?_
      refine hY _ _ ⟨?_,s9⟩
      rw [<- hv2 (by rw [hpl1];exact c)]
      exact kk2
    rintro av H9 ⟨kav,s9⟩
    walk_at "q"
    walk_at "r"
    refine B7 (SqL.of (s9 _ _ erv8)) ?_
    walk_at "r"
    refine Au ((sB.trans s9).tup qra) rfl ?_
    walk_at "r"
    rw [i2]
    refine Bh (SqL.of ((sC.trans s9) _ _ ec3)) (Ct hkv) ?_
    walk_at "r"
    refine Au ((sB.trans s9).tup qra) rfl ?_
    walk_at "r"
    refine Au ((sB.trans s9).tup qra) rfl ?_
    walk_at "r"
    have hfb2:((((Di (Am [] none t)).map fun r=>r.2.1 == r.2.2)).map V.bl)[i]?=some (.bl fb):=by rw [Pg,hfb];rfl
    refine Bh (SqL.of ((sC.trans s9) _ _ e6)) (Ct hfb2) ?_
    walk_at "r"
    obtain ⟨py,ty⟩:=y
    have hty:Pt ty:=Zcx hpt (Px hy)
    cases ty with
    | mk wd n ts =>
    cases hty with
    | mk hw _ _ =>
    refine ⟨v,.ref pl,u,wd,n,ts,fb,rfl,hu.same (sB.trans s9),hw,?_⟩
    rw [hmk]
    walk_at "r"
    refine ⟨sz4,fun pz hpz=>?_⟩
    have sz:=Same.upd (o:=.tup [.ref pl,kv,av,.str (mk r)]) hpz
    walk_at "r"
    have erv9:=sz _ _ (s9 _ _ erv8)
    have hrv:rv.length < sizeLine:=by rw [alr.1,Pz];omega
    refine C6 erv9 hrv ?_
    have tz:SameT H8 (upd (upd H9 pz (.tup [.ref pl,kv,av,.str (mk r)])) pr (.lst (rv++[.ref pz]))):=(s9.trans sz).t.trans (SameT.set erv9)
    refine ⟨_,_,_,rv++[.ref pz],rfl,Ac,?_,?_⟩
    ·rw [Q3,hr0]
     refine (alr8.mono (LkAt.same tz)).snoc ⟨pz,pl,kv,av,rfl,(SameT.set erv9).tup (SqT.of Ac),?_,?_,?_⟩
     ·rw [hpl1]
      exact tz.tup qpl8
     ·rw [<- hv1]
      exact (kk.same sC.t).same tz
     ·exact (kav.same sC.t).same tz
    ·exact ((sC.trans s9).trans sz).over hpr
   ·rintro σ' H7 ⟨w7,B8,B9,rv,rfl,erv,alr,sm2⟩
    rw [hrl,<- hdl,Qz] at alr
    walk_at "r"
    exact q pr rv H7 ((s1.trans sA).trans sm2) erv alr
noncomputable def mB (r:Rw):Bool:=decide (mk r ≠ "")
theorem Og (r:Rw):(mk r = "" /\ mB r=false)\/(mk r = "unlike" /\ mB r=true):=by
 have key:∀ z:Str,z=mk r->(z = "" \/ z = "unlike")->(mk r = "" /\ mB r=false)\/(mk r = "unlike" /\ mB r=true):=by
  rintro z hz (rfl | rfl)
  ·exact .inl ⟨hz.symm,by unfold mB;rw [<- hz];decide⟩
  ·exact .inr ⟨hz.symm,by unfold mB;rw [<- hz];decide⟩
 refine key (mk r) rfl ?_
 unfold mk
 split
 ·exact .inl rfl
 ·exact .inr rfl
theorem Ni {ds:List Rw}{i:Nat}{r:Rw}(h:ds[i]?=some r):(ds.take (i+1)).filter mB=(ds.take i).filter mB++if mB r=true then [r] else []:=by
 rw [Q3,h,List.filter_append]
 cases e:mB r with
 | true=>rw [if_pos rfl];show _++List.filter mB [r]=_;rw [List.filter_cons_of_pos e];rfl
 | false=>rw [if_neg (by decide)];show _++List.filter mB [r]=_;rw [List.filter_cons_of_neg (by rw [e];decide)];rfl
theorem Mj (ds:List Rw)(i:Nat):((ds.take i).filter mB).length<=i:=Pa (List.length_filter_le _ _) (by rw [Pz];omega)
noncomputable def MkAt (K:Oo)(H:Hp)(v:V)(r:Rw):Prop:=∃(e p:Addr),v=.ref e/\SqT K H e [.ref p,.str (mk r)]/\SqT K H p (A8 r.1)
theorem MkAt.same {H H':Hp}(e:SameT H H')(v:V)(r:Rw)(h:MkAt K H v r):MkAt K H' v r:=let ⟨c,p,h1,h2,h3⟩:=h;⟨c,p,h1,e.tup h2,e.tup h3⟩
noncomputable def Oc (K:Oo):Sp:=fun vs H Q _=>∃(v:V)(t:Tr),vs=[v]/\TrAt K H v t/\Pt t/\t.wd∈WO/\t.size<=40/\∀(p:Addr)(rows:List V)(H':Hp),Same H H'->H' p=some (.lst rows)->Al (MkAt K H') rows ((Am [] none t).filter mB)->Q (.ref p) H'
theorem Ha:(["place", "given", "asked", "mark"]:List Str).Nodup:=by decide +kernel
theorem Zh8:Bg ["tree"] ["tree"] (A3 F8):=by walk_at "sc"
theorem Zdj {f:Addr}{fd:FuncData}(F:Fun K "marks" "marks" F8 f fd)(T:Txt K mg)(C_looks:A6 P w K mg base 5 "looks" ["tree"] (Kd K)):Az P w K mg base A0 6 f fd ["tree"] (Oc K):=by
 refine F.okq Zh8 (fun vs H Q E h=>?_) (fun cdv A outer s H vs Q E hr h=>?_)
 ·obtain ⟨v,t,rfl,_⟩:=h
  rfl
 ·obtain ⟨v,t,rfl,ht,hpt,hwo,hsz,q⟩:=h
  refine ⟨_,Ai (Ar (Ew (N:=["place", "given", "asked", "mark"]) (σ0:=Cm 4 []) rfl (De rfl (by decide +kernel) (by decide +kernel) (by decide +kernel)) (Cw K (Bc C_looks hr.m (Aa (qv 0) Ab))) (Df rfl (by rfl)) (fun _ _ _ _=>Cy K (n:=4) rfl (Be (Av (i:=0) Ha rfl (Or.inl rfl)) (Be (Av (i:=1) Ha rfl (Or.inl rfl)) (Be (Av (i:=2) Ha rfl (Or.inl rfl)) (Be (Av (i:=3) Ha rfl (Or.inl rfl)) (C0)))))) (fun _ _ _ _=>Ji (Ex K (qv 3) (by intro _;rfl))) (fun _ _ _ _=>Ap (Aa (qv 0) (Aa (qv 3) Ab))))),?_⟩
  have bg:=big
  walk_at "r"
  refine ⟨v,t,rfl,ht,hpt,hwo,hsz,fun pL rows H1 s1 er al=>?_⟩
  have hwl:(walk [] t).length=t.size:=El _ _
  have hdl:(Am [] none t).length=t.size:=by rw [<- Ox (f:=fun r:Rw=>r.1),Eb,Ox,hwl]
  refine .inl ⟨pL,rfl,⟨_,SqL.of er⟩,fun D hD=>?_⟩
  have nD:pL≠D:=An er hD
  refine Gv (K:=K) (a:=pL) (xs:=rows) (Pv:=fun i ys σ' H'=>∃ x0 x1 x2 x3,σ'=[x0,x1,x2,x3]/\Al (MkAt K H') ys (((Am [] none t).take i).filter mB)/\Same H1 H') ⟨none,none,none,none,rfl,.nil,Same.upd hD⟩ ?_ ?_ ?_
  ·rintro i ys σ' H' _ ⟨_,_,_,_,_,_,sm⟩
   exact SqL.of (sm _ _ er)
  ·rintro i x ys σ' H' hx hys ⟨x0,x1,x2,x3,rfl,aly,sm⟩
   have hi:=(O7.mp hx).1
   obtain ⟨r,hr0,e,p,g,a,rfl,qe,qp,_,_⟩:=al.get hx
   have hfl:=Mj (Am [] none t) i
   have hln:i < t.size:=by rw [<- hdl,<- al.1];exact hi
   have fs:=Ni hr0
   walk_at "r"
   refine C9 (sm.tup qe) rfl ?_
   walk_at "r"
   rcases Og r with ⟨h1,h2⟩ | ⟨h1,h2⟩
   ·rw [h1]
    refine ⟨false,⟨by decide,by decide⟩,?_⟩
    rw [h2,if_neg (by decide),P0] at fs
    refine iteF ?_
    exact ⟨ys,hys,_,_,_,_,rfl,by rw [fs];exact aly,sm⟩
   ·rw [h1]
    refine ⟨true,⟨by decide,by decide⟩,?_⟩
    rw [h2,if_pos rfl] at fs
    refine iteT ?_
    walk_at "r"
    refine ⟨Cc,fun p2 h3=>?_⟩
    have s2:=Same.upd (o:=.tup [.ref p,.str "unlike"]) h3
    have t6:=s2.t.trans (SameT.set (o:=.lst (ys++[.ref p2])) (s2 _ _ hys))
    refine ⟨ys,s2 _ _ hys,by rw [aly.1];omega,_,Ac,_,_,_,_,rfl,?_,(sm.trans s2).over hD⟩
    rw [fs]
    exact (aly.mono (MkAt.same t6)).snoc ⟨p2,p,rfl,(SameT.set (s2 _ _ hys)).tup (by rw [h1];exact SqT.of Ac),t6.tup (sm.tup qp)⟩
  ·rintro ys σ' H' hys ⟨x0,x1,x2,x3,rfl,aly,sm⟩
   rw [al.1,Qz] at aly
   exact q D ys H' (s1.trans sm) hys aly
noncomputable def plD (pl:List Nat):Dt:=.tup ((A8 pl).map .flat)
noncomputable def kdD:Option Bool->Dt
 | none=>.flat .non
 | some b=>.tup [.flat (.str (kd b))]
noncomputable def Jb (r:Rw):Dt:=.tup [plD r.1,kdD r.2.1,kdD r.2.2,.flat (.str (mk r))]
noncomputable def Kp (r:Rw):Dt:=.tup [plD r.1,.flat (.str (mk r))]
theorem Mh {H:Hp}{p:Addr}{pl:List Nat}(q:SqT K H p (A8 pl)):IsD K H 1 (.ref p) (plD pl):=by
 refine .tup q (by simp) fun j v d e1 e2=>?_
 rw [Pg,e1] at e2
 cases e2
 have:=Px e1
 unfold A8 at this
 obtain ⟨i,_,rfl⟩:=P3.mp this
 exact .flat rfl
theorem L3 {H:Hp}{v:V}{a:Option Bool}(h:KdD K H v a):IsD K H 1 v (kdD a):=by
 rcases h with ⟨rfl,rfl⟩ | ⟨b,c,rfl,rfl,q⟩
 ·exact .flat rfl
 ·refine .tup q rfl fun j v d e1 e2=>?_
  match j,e1,e2 with
  | 0,e1,e2=>cases e1;cases e2;exact .flat rfl
theorem Nw {H:Hp}{v:V}{r:Rw}(h:LkAt K H v r):IsD K H 2 v (Jb r):=by
 obtain ⟨e,p,g,a,rfl,qe,qp,kg,ka⟩:=h
 refine .tup qe rfl fun j v d e1 e2=>?_
 match j,e1,e2 with
 | 0,e1,e2=>cases e1;cases e2;exact Mh qp
 | 1,e1,e2=>cases e1;cases e2;exact L3 kg
 | 2,e1,e2=>cases e1;cases e2;exact L3 ka
 | 3,e1,e2=>cases e1;cases e2;exact .flat rfl
theorem N8 {H:Hp}{v:V}{r:Rw}(h:MkAt K H v r):IsD K H 2 v (Kp r):=by
 obtain ⟨e,p,rfl,qe,qp⟩:=h
 refine .tup qe rfl fun j v d e1 e2=>?_
 match j,e1,e2 with
 | 0,e1,e2=>cases e1;cases e2;exact Mh qp
 | 1,e1,e2=>cases e1;cases e2;exact .flat rfl
theorem L9 {pl:List Nat}(h:pl.length<=5000):Cq (plD pl):=.tup (by rw [Ox];unfold A8;rw [Ox];exact h) fun d hd=>by
 obtain ⟨v,_,rfl⟩:=P3.mp hd
 exact .flat _
theorem Mm (a:Option Bool):Cq (kdD a):=by
 cases a with
 | none=>exact .flat _
 | some b=>exact .tup (by show 1<=5000;decide) fun d hd=>by rw [Py.mp hd];exact .flat _
theorem Zgh {r:Rw}(h:r.1.length<=5000):Cq (Jb r):=.tup (by show 4<=5000;decide) fun d hd=>by
 simp only [Oy,Pm,or_false] at hd
 rcases hd with rfl | rfl | rfl | rfl
 ·exact L9 h
 ·exact Mm _
 ·exact Mm _
 ·exact .flat _
theorem Zir {r:Rw}(h:r.1.length<=5000):Cq (Kp r):=.tup (by show 2<=5000;decide) fun d hd=>by
 simp only [Oy,Pm,or_false] at hd
 rcases hd with rfl | rfl
 ·exact L9 h
 ·exact .flat _
theorem Ziw (z:Int):∃ w:Str,B5 [V.str "plus",.str "minus",.str "less"] (z % 3)=some (.str w)/\w∈WO:=by
 rcases (show z % 3=0\/z % 3=1\/z % 3=2 by omega) with h | h | h <;> rw [h]
 ·exact ⟨"plus",rfl,by decide⟩
 ·exact ⟨"minus",rfl,by decide⟩
 ·exact ⟨"less",rfl,by decide⟩
theorem Zfq {w:Str}(h:w∈WO):w∈WA/\ar w=2:=by
 simp only [WO,Oy,Pm,or_false] at h
 rcases h with rfl | rfl | rfl <;> decide
theorem N3 (ns:List Int)(lo hi:Nat):∃ ms:List Int,Br (ns.map V.int) (some ((lo:Nat):Int)) (some ((hi:Nat):Int))=ms.map V.int/\ms.length<=hi - lo:=by
 obtain ⟨ms,e,l⟩:=L1 ns (some ((lo:Nat):Int)) (some ((hi:Nat):Int))
 refine ⟨ms,e,?_⟩
 rw [l,HT.sIx_nat,HT.sIx_nat]
 omega
noncomputable def M9 (K:Oo):Sp:=fun vs H Q _=>∃(a:Addr)(ns:List Int),vs=[.ref a]/\SqL K H a (ns.map V.int)/\ns.length<=63/\∀ H',Q (.bl true) H'
theorem Zdv:(["_law_row"]:List Str).Nodup:=by decide +kernel
theorem Ga:Bg ["_law_script", "_law_one", "_law_other", "_law_tree_here", "_law_due_here"] ["_law_script"] (A3 G3):=by walk_at "sc"
theorem Zjs {f:Addr}{fd:FuncData}(F:Fun K "law" "law" G3 f fd)(T:Txt K mg)(C__law_tree:A6 P w K mg base 8 "_law_tree" ["_law_cells"] (Eu K 6))(C__law_cell_at:A6 P w K mg base 1 "_law_cell_at" ["_law_script", "_law_k"] (Za4 K))(C__law_due:A6 P w K mg base 1 "_law_due" ["_law_tree_here"] (Za3 K))(C__law_same:A6 P w K mg base 5 "_law_same" ["_law_found", "_law_due_here"] (Ep K 4))(C_looks:A6 P w K mg base 5 "looks" ["tree"] (Kd K))(C_marks:A6 P w K mg base 6 "marks" ["tree"] (Oc K)):Az P w K mg base A0 9 f fd ["_law_script"] (M9 K):=by
 refine F.okq Ga (fun vs H Q E h=>?_) (fun cdv A outer s H vs Q E hr h=>?_)
 ·obtain ⟨a,ns,rfl,_⟩:=h
  rfl
 ·obtain ⟨a,ns,rfl,hS,hl,q⟩:=h
  have S:Script K H a:=⟨ns,hS,hl⟩
  refine ⟨_,Ad (Ao 1 Ga (Bc C__law_tree hr.m (Aa (Fd (Fc K) (qv 0) (Dj Ag) (Dj Ag)) Ab)))
   (Ad (Ao 2 Ga (Bc C__law_tree hr.m (Aa (Fd (Fc K) (qv 0) (Dj Ag) (Dj Ag)) Ab)))
   (Ad (Ao 3 Ga (Ap (Aa (Ak K (Bb (Aa Aq (Aa Aq (Aa Aq Ab)))) (Ba Ea (Bc C__law_cell_at hr.m (Aa (qv 0) (Aa Ag Ab))) Ag)) (Aa D7 (Aa (Ap (Aa (qv 1) (Aa (qv 2) Ab))) Ab)))))
   (Ad (Ao 4 Ga (Bc C__law_due hr.m (Aa (qv 3) Ab)))
   (Ad (As (Gn (Dy (Bc C__law_same hr.m (Aa (Bc C_looks hr.m (Aa (qv 3) Ab)) (Aa (qv 4) Ab))))) (Ai (Ar Dx)) Ay)
   (Ai (Ar (Bc C__law_same hr.m (Aa (Bc C_marks hr.m (Aa (qv 3) Ab)) (Aa (Ew (N:=["_law_row"]) (σ0:=Cm 1 []) rfl (De rfl (by decide +kernel) (by decide +kernel) (by decide +kernel)) (Cw K (qv 4)) (Df rfl (by rfl)) (fun _ _ _ _=>Av (i:=0) Zdv rfl (Or.inl rfl)) (fun _ _ _ _=>Ji (Ax (Jn K hr.u200) (Ak K (qv 0) Ag) Aq (Aw _))) (fun _ _ _ _=>Ap (Aa (Ak K (qv 0) Ag) (Aa (Ak K (qv 0) Ag) Ab)))) Ab))))))))),?_⟩
  have bg:=big
  walk_at "r"
  refine Hk hS fun p1 h1=>?_
  obtain ⟨m1,ec1,lc1⟩:=N3 ns 1 6
  have ec1:Br (ns.map V.int) (some 1) (some 6)=m1.map V.int:=ec1
  rw [ec1]
  have s1:=Same.upd (o:=.lst (m1.map V.int)) h1
  walk_at "r"
  refine ⟨p1,m1,rfl,Ac,by omega,by omega,fun v1 t1 H1 s2 tr1 pt1 hz1=>?_⟩
  have b1:=s1.trans s2
  walk_at "r"
  refine Hk (b1.seq hS) fun p2 h2=>?_
  obtain ⟨m2,ec2,lc2⟩:=N3 ns 6 10
  have ec2:Br (ns.map V.int) (some 6) (some 10)=m2.map V.int:=ec2
  rw [ec2]
  have s3:=Same.upd (o:=.lst (m2.map V.int)) h2
  walk_at "r"
  refine ⟨p2,m2,rfl,Ac,by omega,by omega,fun v2 t2 H2 s4 tr2 pt2 hz2=>?_⟩
  have b2:=b1.trans (s3.trans s4)
  have tr1':=tr1.same (s3.trans s4)
  walk_at "r"
  refine ⟨Bu,fun p3 h3=>?_⟩
  have s5:=Same.upd (o:=.lst [V.str "plus",.str "minus",.str "less"]) h3
  walk_at "r"
  refine ⟨a,0,rfl,S.same (b2.trans s5),by decide,fun z=>?_⟩
  walk_at "r"
  obtain ⟨wd,ew,hwo⟩:=Ziw z
  refine Bh (SqL.of Ac) ew ?_
  walk_at "r"
  refine ⟨Cc,fun p4 h4=>?_⟩
  have s6:=Same.upd (o:=.tup [v1,v2]) h4
  walk_at "r"
  refine ⟨Bu,fun p5 h5=>?_⟩
  have s7:=Same.upd (o:=.tup [.str wd,.non,.ref p4]) h5
  obtain ⟨hwa,har⟩:=Zfq hwo
  have b3:=b2.trans ((s5.trans s6).trans s7)
  have trT:TrAt K (upd (upd (upd H2 p3 (.lst [V.str "plus",.str "minus",.str "less"])) p4 (.tup [v1,v2])) p5 (.tup [.str wd,.non,.ref p4])) (.ref p5) (.mk wd (.flat .non) [t1,t2]):=by
   refine .mk (SqT.of Ac) (.inl ⟨rfl,rfl⟩) (SqT.of (s7 _ _ Ac)) rfl fun j v t e1 e2=>?_
   match j,e1,e2 with
   | 0,e1,e2=>cases e1;cases e2;exact tr1'.same ((s5.trans s6).trans s7)
   | 1,e1,e2=>cases e1;cases e2;exact tr2.same ((s5.trans s6).trans s7)
  have ptT:Pt (.mk wd (.flat .non) [t1,t2]):=.mk hwa (by rw [har];rfl) fun t ht=>by
   simp only [Oy,Pm,or_false] at ht
   rcases ht with rfl | rfl
   ·exact pt1
   ·exact pt2
  have szT:(Tr.mk wd (.flat .non) [t1,t2]).size<=40:=by
   rw [Tr.size,Bo,Bo,Bo]
   unfold Ee at hz1 hz2
   omega
  revert b3 trT
  generalize upd (upd (upd H2 p3 (.lst [V.str "plus",.str "minus",.str "less"])) p4 (.tup [v1,v2])) p5 (.tup [.str wd,.non,.ref p4])=H3
  intro b3 trT
  have hwT:(Tr.mk wd (.flat .non) [t1,t2]).wd∈WO:=hwo
  generalize Tr.mk wd (.flat .non) [t1,t2]=t at trT ptT szT hwT
  have hwl:(walk [] t).length=t.size:=El _ _
  have hdl:(Am [] none t).length=t.size:=by rw [<- Ox (f:=fun r:Rw=>r.1),Eb,Ox,hwl]
  have hpl:∀ r∈Am [] none t,r.1.length<=5000:=by
   intro r hr2
   have h1:r.1∈(walk [] t).map (·.1):=by rw [<- Eb [] none t];exact P3.mpr ⟨r,hr2,rfl⟩
   obtain ⟨y,hy,e⟩:=P3.mp h1
   have:=F0 [] t y hy
   rw [<- e]
   simp at this
   omega
  walk_at "r"
  refine ⟨.ref p5,t,rfl,trT,ptT,hwT,szT,fun pd rd H4 s8 ed ald=>?_⟩
  walk_at "r"
  refine ⟨.ref p5,t,rfl,trT.same s8,ptT,hwT,szT,fun pL rL H5 s9 eL alL=>?_⟩
  have D1:Cq (.lst ((Am [] none t).map Jb)):=.lst (by rw [Ox];omega) fun d hd=>by
   obtain ⟨r,hr2,rfl⟩:=P3.mp hd
   exact Zgh (hpl r hr2)
  walk_at "r"
  refine ⟨.ref pL,.ref pd,_,3,rfl,by decide,Al.lstD alL (SqL.of eL) (fun _ _ h=>Nw h),Al.lstD (ald.mono (LkAt.same s9.t)) (SqL.of (s9 _ _ ed)) (fun _ _ h=>Nw h),D1,fun H6 sA=>?_⟩
  walk_at "r"
  refine ⟨.ref p5,t,rfl,trT.same ((s8.trans s9).trans sA),ptT,hwT,szT,fun pM rM H7 sB eM alM=>?_⟩
  have sC:Same H4 H7:=(s9.trans sA).trans sB
  walk_at "r"
  refine .inl ⟨pd,rfl,⟨_,SqL.of (sC _ _ ed)⟩,fun D hD=>?_⟩
  refine Gv (K:=K) (a:=pd) (xs:=rd) (Pv:=fun i ys σ' H'=>∃ x0,σ'=[x0]/\Al (MkAt K H') ys (((Am [] none t).take i).filter mB)/\Same H7 H') ⟨none,rfl,.nil,Same.upd hD⟩ ?_ ?_ ?_
  ·rintro i ys σ' H' _ ⟨_,_,_,sm⟩
   exact SqL.of (sm _ _ (sC _ _ ed))
  ·rintro i x ys σ' H' hx hys ⟨x0,rfl,aly,sm⟩
   have hi:=(O7.mp hx).1
   obtain ⟨r,hr0,e,p,g,a',rfl,qe,qp,_,_⟩:=ald.get hx
   have hfl:=Mj (Am [] none t) i
   have hln:i < t.size:=by rw [<- hdl,<- ald.1];exact hi
   have fs:=Ni hr0
   have qe8:=(sC.trans sm).tup qe
   walk_at "r"
   refine Au qe8 rfl ?_
   walk_at "r"
   rcases Og r with ⟨h1,h2⟩ | ⟨h1,h2⟩
   ·rw [h1] at qe8 ⊢
    rw [show decide (V.str "" = V.str "")=true by decide]
    rw [h2,if_neg (by decide),P0] at fs
    walk_at "r"
    exact ⟨ys,hys,_,rfl,by rw [fs];exact aly,sm⟩
   ·rw [h1] at qe8 ⊢
    rw [show decide (V.str "unlike" = V.str "")=false by decide]
    rw [h2,if_pos rfl] at fs
    walk_at "r"
    refine Au qe8 rfl ?_
    walk_at "r"
    refine Au qe8 rfl ?_
    walk_at "r"
    refine ⟨Cc,fun p2 h3=>?_⟩
    have s2':=Same.upd (o:=.tup [.ref p,.str "unlike"]) h3
    have t6:=s2'.t.trans (SameT.set (o:=.lst (ys++[.ref p2])) (s2' _ _ hys))
    refine ⟨ys,s2' _ _ hys,by rw [aly.1];omega,_,Ac,_,rfl,?_,(sm.trans s2').over hD⟩
    rw [fs]
    exact (aly.mono (MkAt.same t6)).snoc ⟨p2,p,rfl,(SameT.set (s2' _ _ hys)).tup (by rw [h1];exact SqT.of Ac),t6.tup ((sC.trans sm).tup qp)⟩
  ·rintro ys σ' H' hys ⟨x0,rfl,aly,sm⟩
   rw [ald.1,Qz] at aly
   have hfl:((Am [] none t).filter mB).length<=40:=Pa (List.length_filter_le _ _) (by omega)
   have D2:Cq (.lst (((Am [] none t).filter mB).map Kp)):=.lst (by rw [Ox];omega) fun d hd=>by
    obtain ⟨r,hr2,rfl⟩:=P3.mp hd
    exact Zir (hpl r (T6.mp hr2).1)
   walk_at "r"
   exact ⟨.ref pM,.ref D,_,3,rfl,by decide,Al.lstD (alM.mono (MkAt.same sm.t)) (SqL.of (sm _ _ eM)) (fun _ _ h=>N8 h),Al.lstD aly (SqL.of hys) (fun _ _ h=>N8 h),D2,fun H9 _=>q H9⟩
end
local macro_rules | `(tactic| walk_at "zA")=>`(tactic| exact (let +zeta a:=_; let +zeta b:=_; let +zeta c:=_; have +usedOnly q:(‹Stmt›:Stmt)=.Assign a b c:=rfl; .Assign a b c))
local macro_rules | `(tactic| walk_at "zC")=>`(tactic| exact (let +zeta a:=_; let +zeta b:=_; let +zeta c:=_; let +zeta d:=_; let +zeta e:=_; let +zeta f:=_; let +zeta g:=_; let +zeta h:=_; let +zeta i:=_; let +zeta j:=_; let +zeta k:=_; have +usedOnly q:(‹Stmt›:Stmt)=.ClassDef a b c d e f g h i j k:=rfl; .ClassDef a b c d e f g h i j k))
local macro_rules | `(tactic| walk_at "zF")=>`(tactic| exact (let +zeta a:=_; let +zeta b:=_; let +zeta c:=_; let +zeta d:=_; let +zeta e:=_; let +zeta f:=_; let +zeta g:=_; let +zeta h:=_; let +zeta i:=_; let +zeta j:=_; have +usedOnly q:(‹Stmt›:Stmt)=.FunctionDef a b c d e f g h i j:=rfl; .FunctionDef a b c d e f g h i j))
noncomputable def w0:Stmt:=by let +zeta s:=Aj 0;walk_at "zA"
noncomputable def w1:Stmt:=by let +zeta s:=Aj 1;walk_at "zC"
noncomputable def w2:Stmt:=by let +zeta s:=Aj 2;walk_at "zC"
noncomputable def w3:Stmt:=by let +zeta s:=Aj 3;walk_at "zC"
noncomputable def w4:Stmt:=by let +zeta s:=Aj 4;walk_at "zA"
noncomputable def w5:Stmt:=by let +zeta s:=Aj 5;walk_at "zF"
noncomputable def w6:Stmt:=by let +zeta s:=Aj 6;walk_at "zA"
noncomputable def w7:Stmt:=by let +zeta s:=Aj 7;walk_at "zF"
noncomputable def w8:Stmt:=by let +zeta s:=Aj 8;walk_at "zF"
noncomputable def w9:Stmt:=by let +zeta s:=Aj 9;walk_at "zF"
noncomputable def B8:Stmt:=by let +zeta s:=Aj 10;walk_at "zA"
noncomputable def B9:Stmt:=by let +zeta s:=Aj 11;walk_at "zF"
noncomputable def Dq:Stmt:=by let +zeta s:=Aj 12;walk_at "zF"
noncomputable def w13:Stmt:=by let +zeta s:=Aj 13;walk_at "zF"
noncomputable def w14:Stmt:=by let +zeta s:=Aj 14;walk_at "zF"
noncomputable def w15:Stmt:=by let +zeta s:=Aj 15;walk_at "zA"
noncomputable def w16:Stmt:=by let +zeta s:=Aj 16;walk_at "zA"
noncomputable def w17:Stmt:=by let +zeta s:=Aj 17;walk_at "zA"
noncomputable def w18:Stmt:=by let +zeta s:=Aj 18;walk_at "zA"
noncomputable def w19:Stmt:=by let +zeta s:=Aj 19;walk_at "zF"
noncomputable def w20:Stmt:=by let +zeta s:=Aj 20;walk_at "zF"
noncomputable def w21:Stmt:=by let +zeta s:=Aj 21;walk_at "zF"
noncomputable def w22:Stmt:=by let +zeta s:=Aj 22;walk_at "zF"
noncomputable def w23:Stmt:=by let +zeta s:=Aj 23;walk_at "zF"
noncomputable def w24:Stmt:=by let +zeta s:=Aj 24;walk_at "zF"
noncomputable def w25:Stmt:=by let +zeta s:=Aj 25;walk_at "zF"
noncomputable def w26:Stmt:=by let +zeta s:=Aj 26;walk_at "zF"
noncomputable def w27:Stmt:=by let +zeta s:=Aj 27;walk_at "zF"
noncomputable def w28:Stmt:=by let +zeta s:=Aj 28;walk_at "zA"
noncomputable def w29:Stmt:=by let +zeta s:=Aj 29;walk_at "zA"
noncomputable def w30:Stmt:=by let +zeta s:=Aj 30;walk_at "zF"
noncomputable def w31:Stmt:=by let +zeta s:=Aj 31;walk_at "zF"
noncomputable def w32:Stmt:=by let +zeta s:=Aj 32;walk_at "zF"
noncomputable def w33:Stmt:=by let +zeta s:=Aj 33;walk_at "zA"
noncomputable def w34:Stmt:=by let +zeta s:=Aj 34;walk_at "zF"
noncomputable def w35:Stmt:=by let +zeta s:=Aj 35;walk_at "zF"
noncomputable def w36:Stmt:=by let +zeta s:=Aj 36;walk_at "zF"
noncomputable def w37:Stmt:=by let +zeta s:=Aj 37;walk_at "zF"
noncomputable def w38:Stmt:=by let +zeta s:=Aj 38;walk_at "zF"
noncomputable def w39:Stmt:=by let +zeta s:=Aj 39;walk_at "zF"
noncomputable def PWc:Program:=let +zeta a:=_;let +zeta b:=_;let +zeta c:=_;let +zeta d:=_;let +zeta e:=_;let +zeta f:=_;let +zeta g:=_;let +zeta h:=_;let +zeta i:=_;let +zeta j:=_;have +usedOnly q:Qn=⟨⟨a,b,c,d,e⟩,f,g,h,i,j⟩:=rfl;⟨⟨[w0,w1,w2,w3,w4,w5,w6,w7,w8,w9,B8,B9,Dq,w13,w14,w15,w16,w17,w18,w19,w20,w21,w22,w23,w24,w25,w26,w27,w28,w29,w30,w31,w32,w33,w34,w35,w36,w37,w38,w39],b,c,d,e⟩,f,g,h,i,j⟩
theorem e_PW:PWc=PWc:=rfl
name_quick x_PW for K33.PWc by K33.e_PW
end K33
noncomputable def PySem.W.Fast.tw4741077381988318731:PySem.Program:=PySem.W.Fast.tw12625411437913809035
theorem PySem.W.Fast.te4741077381988318731:Qn=PySem.W.Fast.tw4741077381988318731:=(rfl:Qn=K33.PWc).trans PySem.W.Fast.te12625411437913809035
namespace K33
open PySem L2
noncomputable def VWc:Program:={ Qn with main:={ Qn.main with body:=[w1,w2,w3,w5,w7,w8,w9,B9,Dq,w13,w14,w16,w17,w18,w19,w20,w21,w22,w23,w24,w25,w26,w27,w29,w30,w31,w32,w34,w35,w36,w37,w38,w39] } }
noncomputable def S0:List Stmt:=[w3,w4,w5,w6,w7,w8,w9,B8]
noncomputable def S1:List Stmt:=[w0,w1]
noncomputable def S2:List Stmt:=[w39]
noncomputable def S3:List Stmt:=[w2]
noncomputable def S4:List Stmt:=[w25,w26,w27,w28,w29,w30,w31,w32,w33,w34,w35,w36,w37,w38]
noncomputable def S5:List Stmt:=[B9,Dq,w13,w14,w15,w16,w17,w18,w19,w20,w21,w22,w23,w24]
noncomputable def SB:Program×List (List Stmt):=(VWc,[S0,S1,S2,S3,S4,S5])
theorem e_SB:SB=SB:=rfl
name_quick x_SB for K33.SB by K33.e_SB
end K33
noncomputable def PySem.W.Fast.tw7682009452494219199:PySem.Program:=PySem.W.Fast.tw12966604565143684653
theorem PySem.W.Fast.te7682009452494219199:K33.VWc=PySem.W.Fast.tw7682009452494219199:=PySem.W.Fast.te12966604565143684653
noncomputable def PySem.W.Fast.tw4835791829853274177:List Q8:=PySem.W.Fast.tw4746417558328548577
theorem PySem.W.Fast.te4835791829853274177:K33.S0=PySem.W.Fast.tw4835791829853274177:=PySem.W.Fast.te4746417558328548577
noncomputable def PySem.W.Fast.tw14170637961714018307:List Q8:=PySem.W.Fast.tw6568479892916448444
theorem PySem.W.Fast.te14170637961714018307:K33.S1=PySem.W.Fast.tw14170637961714018307:=PySem.W.Fast.te6568479892916448444
noncomputable def PySem.W.Fast.tw2516629803159658597:List Q8:=PySem.W.Fast.tw2020123847164421483
theorem PySem.W.Fast.te2516629803159658597:K33.S2=PySem.W.Fast.tw2516629803159658597:=PySem.W.Fast.te2020123847164421483
noncomputable def PySem.W.Fast.tw750650771972250602:List Q8:=PySem.W.Fast.tw3303095720103035773
theorem PySem.W.Fast.te750650771972250602:K33.S3=PySem.W.Fast.tw750650771972250602:=PySem.W.Fast.te3303095720103035773
noncomputable def PySem.W.Fast.tw5185225886441355598:List Q8:=PySem.W.Fast.tw5340828503790986088
theorem PySem.W.Fast.te5185225886441355598:K33.S4=PySem.W.Fast.tw5185225886441355598:=PySem.W.Fast.te5340828503790986088
noncomputable def PySem.W.Fast.tw5283853024617698068:List Q8:=PySem.W.Fast.tw14225858134443057408
theorem PySem.W.Fast.te5283853024617698068:K33.S5=PySem.W.Fast.tw5283853024617698068:=PySem.W.Fast.te14225858134443057408
namespace K33
open PySem L2 PySem.W
noncomputable def zs (i j:Nat):Stmt:=match Aj i with | .ClassDef _ _ _ b _ _ _ _ _ _ _=>b.getD j (.Pass ⟨0,0,0,0⟩) | s=>s
noncomputable def ze (P:Params)(s:Str)(t:Tok)(v:Value):DictEntry:=⟨PyData.keyHash P s,.str s t,v⟩
noncomputable abbrev B:=Qm
noncomputable def evb (l:List Obj):Bool->List Obj:=@List.rec Obj (fun _=>Bool->List Obj) (fun _=>[]) (fun a _ ih b=>@Bool.rec (fun _=>List Obj) (ih true) (a::ih false) b) l
noncomputable def tO (l:List Obj):B:=@Nat.rec (fun _=>List Obj->B) (fun _=>.nil) (fun _ ih l=>@List.rec Obj (fun _=>B) .nil (fun x r _=>.node x (ih (evb r true)) (ih (evb r false))) l) 12 l
noncomputable def zv:List (Str×Tok)->List Value
 | []=>[]
 | (a,b)::t=>.str a b::zv t
noncomputable def zu (l:List (Str×Tok)):Obj:=⟨.type "tuple",none,.seq ⟨zv l⟩,#[]⟩
noncomputable def zt (c:String)(d:Data):Obj:=⟨.type c,none,d,#[]⟩
noncomputable def zf (n q:Str)(s:Stmt)(m:Str)(t:Tok)(c:Addr):Obj:=⟨.type "function",none,.func (Qd n q (Ez s) (Dz s) (A3 s) .none .none .none (.str m t) none (.ref c) .none),#[]⟩
noncomputable def zh (n q:Str)(s:Stmt):Obj:=⟨.none,none,.func ⟨n,q,Ez s,.stmts (Dz s),A3 s,0,[],.none,.none,.none,.none,none,.none,.none,0⟩,#[]⟩
noncomputable def zk (n q:Str)(t:Tok)(l a g:Int)(r:Addr)(b:Bool)(x:Value)(u:Int)(v:Tok):Obj:=⟨.type "code",none,.fields #[.str n t,.str q (t+1),.str "/claim/cut.py" (t+2),.int l 0,.int a 0,.int 0 0,.int 0 0,.int g 0,.ref r,.bool b,.int 181 0,.ref (r+1),.none,.none,.none,x,.int u 0,.int l 0,.str "/claim/cut.py" v],#[]⟩
noncomputable def zw:List (Int×Int×Addr)->List Value
 | []=>[]
 | (a,b,c)::t=>.int a 0::.int b 0::.ref c::zw t
noncomputable def zy (l:List (Int×Int×Addr)):Obj:=⟨.none,none,.fields ⟨zw l⟩,#[]⟩
noncomputable def zc (n q:Str)(t:Tok)(l a g:Int)(r:Addr)(u:Int)(v:Tok):Obj:=⟨.type "code",none,.fields #[.str n t,.str q (t+1),.str "/claim/cut.py" (t+2),.int l 0,.int a 0,.int 0 0,.int 0 0,.int g 0,.ref r,.bool true,.int 181 0,.ref (r+1),.none,.ref (r+2),.ref (r+3),.ref (r+4),.int u 0,.int l 0,.str "/claim/cut.py" v],#[]⟩
noncomputable def zb (n:Str):=zc n n
noncomputable def zi (n:Str):=zf n n
noncomputable def zj (n:Str):=zh n n
noncomputable def d0 (P:Params):=[ze P "__name__" 165 (.str "gapscribe.errors" 187),ze P "__doc__" 166 .none,ze P "__package__" 167 .none,ze P "__loader__" 168 (.builtin "__main__.__loader__#opaque"),ze P "__spec__" 169 .none,ze P "__annotations__" 170 (.ref 6),ze P "__builtins__" 171 (.ref 4),ze P "__file__" 173 (.str "/claim/cut.py" 172),ze P "__cached__" 174 .none,ze P "GapError" 206 (.ref 24),ze P "TooBig" 222 (.ref 37)]
noncomputable def z0 (P:Params):=zt "dict" (.dict ⟨d0 P⟩ 11)
noncomputable def z1:=zt "tuple" (.seq #[])
noncomputable def z2:=zy [(2,0,20),(4,0,33)]
noncomputable def z3:=zk "<module>" "<module>" 182 1 0 0 11 false .none 185 186
noncomputable def z4:=Obj.mk (.type "frame") none Data.plain #[some (.ref 13),some (.ref 3),some (.ref 3),none,some (.str "__main__" 164),none,some (.ref 0)]
noncomputable def z5:=zt "tuple" (.seq #[.type "ValueError"])
noncomputable def h0_0 (P:Params)(t:List Obj):=(boot_o_0 P)::(boot_o_1 P)::(boot_o_2 P)::(z0 P)::(boot_o_4 P)::(boot_o_5 P)::(boot_o_6 P)::(boot_o_7 P)::(boot_o_8 P)::(boot_o_9 P)::(boot_o_10 P)::z1::z2::z3::z4::z5::t
noncomputable def z6:=zt "builtin_function_or_method" (.fields #[.builtin "type.__prepare__",.type "type"])
noncomputable def z7 (P:Params):=zt "dict" (.dict #[ze P "__module__" 196 (.str "gapscribe.errors" 187),ze P "__qualname__" 198 (.str "GapError" 197),ze P "__firstlineno__" 200 (.int 2 199),ze P "__static_attributes__" 201 (.ref 22)] 4)
noncomputable def z8:=Obj.mk .none none (.fields #[]) #[]
noncomputable def z9:=zk "GapError" "GapError" 191 2 0 0 18 false .none 194 195
noncomputable def z10:=Obj.mk (.type "frame") none Data.plain #[some (.ref 20),some (.ref 3),some (.ref 17),none,some (.str "gapscribe.errors" 187),none,some (.ref 0)]
noncomputable def z11 (P:Params):=zt "dict" (.dict #[ze P "__module__" 196 (.str "gapscribe.errors" 187),ze P "__firstlineno__" 200 (.int 2 199),ze P "__static_attributes__" 201 (.ref 22),ze P "__weakref__" 203 (.ref 25),ze P "__doc__" 204 .none] 3)
noncomputable def z12:=Obj.mk (.type "type") none (.cls (ClassData.mk "GapError" [.type "ValueError"] [.ref 24,.type "ValueError",.type "Exception",.type "BaseException",.type "object"] 23 "GapError" true [] [.ref 37] false none false)) #[some (.ref 15),none,some (.str "GapError" 189),some (.str "GapError" 197),some (.builtin "ValueError.__new__"),some (.bool true)]
noncomputable def z13:=zt "getset_descriptor" (.fields #[.str "__weakref__" 202,.ref 24,.builtin "ExceptionGroup.__weakref__",.none])
noncomputable def z14:=zt "super" (.fields #[.ref 24,.ref 24,.ref 24])
noncomputable def z15:=zt "builtin_function_or_method" (.fields #[.builtin "object.__init_subclass__",.ref 24])
noncomputable def z16:=zt "tuple" (.seq #[.ref 24])
noncomputable def z17 (P:Params):=zt "dict" (.dict #[ze P "__module__" 214 (.str "gapscribe.errors" 187),ze P "__qualname__" 216 (.str "TooBig" 215),ze P "__firstlineno__" 218 (.int 4 217),ze P "__static_attributes__" 219 (.ref 35)] 4)
noncomputable def h1_0 (P:Params)(t:List Obj):=z6::(z7 P)::z1::z8::z9::z10::z1::(z11 P)::z12::z13::z14::z15::z16::z6::(z17 P)::z1::t
noncomputable def z18:=zk "TooBig" "TooBig" 209 4 0 0 31 false .none 212 213
noncomputable def z19:=Obj.mk (.type "frame") none Data.plain #[some (.ref 33),some (.ref 3),some (.ref 30),none,some (.str "gapscribe.errors" 187),none,some (.ref 0)]
noncomputable def z20 (P:Params):=zt "dict" (.dict #[ze P "__module__" 214 (.str "gapscribe.errors" 187),ze P "__firstlineno__" 218 (.int 4 217),ze P "__static_attributes__" 219 (.ref 35),ze P "__doc__" 220 .none] 2)
noncomputable def z21:=Obj.mk (.type "type") none (.cls (ClassData.mk "TooBig" [.ref 24] [.ref 37,.ref 24,.type "ValueError",.type "Exception",.type "BaseException",.type "object"] 36 "TooBig" true [] [] false none false)) #[some (.ref 28),none,some (.str "TooBig" 207),some (.str "TooBig" 215),some (.builtin "ValueError.__new__"),some (.bool true)]
noncomputable def z22:=zt "super" (.fields #[.ref 37,.ref 37,.ref 37])
noncomputable def z23:=zt "builtin_function_or_method" (.fields #[.builtin "object.__init_subclass__",.ref 37])
noncomputable def h2_0 (P:Params)(t:List Obj):=z8::z18::z19::z1::(z20 P)::z21::z22::z23::t
noncomputable def Rtree_78:Params->B:=fun P=>tO (h0_0 P (h1_0 P (h2_0 P [])))
noncomputable def d1 (P:Params):=[ze P "__name__" 165 (.str "gapscribe.scopes" 289),ze P "__doc__" 166 .none,ze P "__package__" 167 .none,ze P "__loader__" 168 (.builtin "__main__.__loader__#opaque"),ze P "__spec__" 169 .none,ze P "__annotations__" 170 (.ref 6),ze P "__builtins__" 171 (.ref 4),ze P "__file__" 173 (.str "/claim/cut.py" 172),ze P "__cached__" 174 .none,ze P "GapError" 206 (.ref 24),ze P "TooBig" 222 (.ref 37),ze P "NoPlace" 247 (.ref 56),ze P "is_whole" 256 (.ref 65),ze P "placed_forms" 270 (.ref 72),ze P "has_part" 278 (.ref 79),ze P "forms_down_to" 288 (.ref 86)]
noncomputable def z24 (P:Params):=zt "dict" (.dict ⟨d1 P⟩ 16)
noncomputable def z25:=zy [(2,0,20),(4,0,33),(6,0,45),(11,0,64),(14,0,71),(23,0,78),(25,0,85)]
noncomputable def h3_0 (P:Params)(t:List Obj):=(boot_o_0 P)::(boot_o_1 P)::(boot_o_2 P)::(z24 P)::(boot_o_4 P)::(boot_o_5 P)::(boot_o_6 P)::(boot_o_7 P)::(boot_o_8 P)::(boot_o_9 P)::(boot_o_10 P)::z1::z25::z3::z4::z5::t
noncomputable def z26:=Obj.mk (.type "type") none (.cls (ClassData.mk "GapError" [.type "ValueError"] [.ref 24,.type "ValueError",.type "Exception",.type "BaseException",.type "object"] 23 "GapError" true [] [.ref 37,.ref 56] false none false)) #[some (.ref 15),none,some (.str "GapError" 189),some (.str "GapError" 197),some (.builtin "ValueError.__new__"),some (.bool true)]
noncomputable def Gq (P:Params)(t:List Obj):List Obj:=z6::(z7 P)::z1::z8::z9::z10::z1::(z11 P)::z26::z13::z14::z15::z16::z6::(z17 P)::z1::t
noncomputable def d2 (P:Params):=[ze P "__module__" 230 (.str "gapscribe.errors" 187),ze P "__qualname__" 232 (.str "NoPlace" 231),ze P "__firstlineno__" 234 (.int 6 233),ze P "__init__" 242 (.ref 53),ze P "__static_attributes__" 244 (.ref 54)]
noncomputable def z27 (P:Params):=zt "dict" (.dict ⟨d2 P⟩ 5)
noncomputable def z28:=zy [(8,4,52)]
noncomputable def z29:=zk "NoPlace" "NoPlace" 225 6 0 0 43 false .none 228 229
noncomputable def z30:=Obj.mk (.type "frame") none Data.plain #[some (.ref 45),some (.ref 3),some (.ref 42),none,some (.str "gapscribe.errors" 187),none,some (.ref 0)]
noncomputable def Fu (P:Params)(t:List Obj):List Obj:=z8::z18::z19::z1::(z20 P)::z21::z22::z23::z16::z6::(z27 P)::z1::z28::z29::z30::z1::t
noncomputable def z31:=zu [("self",238),("place",239)]
noncomputable abbrev zsS (i j:Nat):Stmt:=match Aj i with | .ClassDef _ _ _ b _ _ _ _ _ _ _=>b.getD j (.Pass ⟨0,0,0,0⟩) | s=>s
noncomputable def z32:=zh "__init__" "NoPlace.__init__" (zsS 3 0)
noncomputable def z33:=zc "__init__" "NoPlace.__init__" 235 8 2 3 47 240 241
noncomputable def z34:=zf "__init__" "NoPlace.__init__" (zsS 3 0) "gapscribe.errors" 187 52
noncomputable def z35:=zu [("place",243)]
noncomputable def z36 (P:Params):=zt "dict" (.dict #[ze P "__module__" 230 (.str "gapscribe.errors" 187),ze P "__firstlineno__" 234 (.int 6 233),ze P "__init__" 242 (.ref 53),ze P "__static_attributes__" 244 (.ref 54),ze P "__doc__" 245 .none] 2)
noncomputable def z37:=Obj.mk (.type "type") none (.cls (ClassData.mk "NoPlace" [.ref 24] [.ref 56,.ref 24,.type "ValueError",.type "Exception",.type "BaseException",.type "object"] 55 "NoPlace" true [] [] false none false)) #[some (.ref 40),none,some (.str "NoPlace" 223),some (.str "NoPlace" 231),some (.builtin "ValueError.__new__"),some (.bool true)]
noncomputable def z38:=zt "super" (.fields #[.ref 56,.ref 56,.ref 56])
noncomputable def z39:=zt "builtin_function_or_method" (.fields #[.builtin "object.__init_subclass__",.ref 56])
noncomputable def z40:=zu [("thing",253)]
noncomputable def z41:=zj "is_whole" w5
noncomputable def F1 (P:Params)(t:List Obj):List Obj:=z8::z31::z1::z32::z33::z34::z35::(z36 P)::z37::z38::z39::z1::z8::z40::z1::z41::t
noncomputable def z42:=zb "is_whole" 250 11 1 3 59 254 255
noncomputable def z43:=zi "is_whole" w5 "gapscribe.forms" 248 64
noncomputable def z44:=zu [("tree",262),("told",263),("waiting",264),("pair",265),("number",266),("part",267)]
noncomputable def z45:=zj "placed_forms" G0
noncomputable def z46:=zb "placed_forms" 259 14 1 3 66 268 269
noncomputable def z47:=zi "placed_forms" G0 "gapscribe.places" 257 71
noncomputable def z48:=zu [("form",274),("number",275)]
noncomputable def z49:=zj "has_part" w8
noncomputable def z50:=zb "has_part" 271 23 2 3 73 276 277
noncomputable def z51:=zi "has_part" w8 "gapscribe.places" 257 78
noncomputable def Gh (P:Params)(t:List Obj):List Obj:=z42::z43::z1::z8::z44::z1::z45::z46::z47::z1::z8::z48::z1::z49::z50::z51::t
noncomputable def z52:=zu [("tree",282),("place",283),("passed",284),("number",285)]
noncomputable def z53:=zj "forms_down_to" w9
noncomputable def z54:=zb "forms_down_to" 279 25 2 3 80 286 287
noncomputable def z55:=zi "forms_down_to" w9 "gapscribe.places" 257 85
noncomputable def h8_0 (P:Params)(t:List Obj):=z1::z8::z52::z1::z53::z54::z55::t
noncomputable def Rtree_128:Params->B:=fun P=>tO (h3_0 P (Gq P (Fu P (F1 P (Gh P (h8_0 P []))))))
noncomputable def d3 (P:Params):=[ze P "__name__" 165 (.str "gapscribe.solve" 329),ze P "__doc__" 166 .none,ze P "__package__" 167 .none,ze P "__loader__" 168 (.builtin "__main__.__loader__#opaque"),ze P "__spec__" 169 .none,ze P "__annotations__" 170 (.ref 6),ze P "__builtins__" 171 (.ref 4),ze P "__file__" 173 (.str "/claim/cut.py" 172),ze P "__cached__" 174 .none,ze P "GapError" 206 (.ref 24),ze P "TooBig" 222 (.ref 37),ze P "NoPlace" 247 (.ref 56),ze P "is_whole" 256 (.ref 65),ze P "placed_forms" 270 (.ref 72),ze P "has_part" 278 (.ref 79),ze P "forms_down_to" 288 (.ref 86),ze P "names_bound" 298 (.ref 93),ze P "bindings_at" 310 (.ref 100),ze P "names_at" 316 (.ref 105),ze P "binding_at" 328 (.ref 112),ze P "NUM" 332 (.int 0 331),ze P "TRUTH" 334 (.int 1 333),ze P "FIRST_SHAPES" 337 (.ref 115),ze P "new_kind" 345 (.ref 122),ze P "kinds_of_word" 356 (.ref 129),ze P "with_names" 368 (.ref 136),ze P "kinds_in" 387 (.ref 143),ze P "last_same" 396 (.ref 150),ze P "holds_itself" 409 (.ref 157)]
noncomputable def z56 (P:Params):=zt "dict" (.dict ⟨d3 P⟩ 29)
noncomputable def z57:=zy [(2,0,20),(4,0,33),(6,0,45),(11,0,64),(14,0,71),(23,0,78),(25,0,85),(33,0,92),(41,0,99),(47,0,104),(49,0,111),(59,0,121),(62,0,128),(85,0,135),(90,0,142),(105,0,149),(110,0,156)]
noncomputable def h9_0 (P:Params)(t:List Obj):=(boot_o_0 P)::(boot_o_1 P)::(boot_o_2 P)::(z56 P)::(boot_o_4 P)::(boot_o_5 P)::(boot_o_6 P)::(boot_o_7 P)::(boot_o_8 P)::(boot_o_9 P)::(boot_o_10 P)::z1::z57::z3::z4::z5::t
noncomputable def z58:=zu [("form",294),("number",295)]
noncomputable def z59:=zj "names_bound" Fx
noncomputable def z60:=zb "names_bound" 291 33 2 3 87 296 297
noncomputable def z61:=zi "names_bound" Fx "gapscribe.scopes" 289 92
noncomputable def Hd (P:Params)(t:List Obj):List Obj:=z1::z8::z52::z1::z53::z54::z55::z1::z8::z58::z1::z59::z60::z61::z1::z8::t
noncomputable def z62:=zu [("tree",302),("place",303),("told",304),("depth",305),("above",306),("name",307)]
noncomputable def z63:=zj "bindings_at" Dq
noncomputable def z64:=zb "bindings_at" 299 41 2 3 94 308 309
noncomputable def z65:=zi "bindings_at" Dq "gapscribe.scopes" 289 99
noncomputable def z66:=zj "names_at" w13
noncomputable def z67:=zk "names_at" "names_at" 311 47 2 3 101 true (.ref 103) 314 315
noncomputable def z68:=zi "names_at" w13 "gapscribe.scopes" 289 104
noncomputable def z69:=zu [("tree",320),("place",321),("name",322),("last",323),("number",324),("bound",325)]
noncomputable def z70:=zj "binding_at" w14
noncomputable def z71:=zb "binding_at" 317 49 3 3 106 326 327
noncomputable def Hs (P:Params)(t:List Obj):List Obj:=z62::z1::z63::z64::z65::z1::z8::z66::z67::z68::z1::z8::z69::z1::z70::z71::t
noncomputable def z72:=zi "binding_at" w14 "gapscribe.scopes" 289 111
noncomputable def z73:=zu [("num",335)]
noncomputable def z74:=zu [("truth",336)]
noncomputable def z75:=zt "tuple" (.seq #[.ref 113,.ref 114])
noncomputable def z76:=zu [("shapes",341),("shape",342)]
noncomputable def z77:=zj "new_kind" F7
noncomputable def z78:=zb "new_kind" 338 59 2 3 116 343 344
noncomputable def z79:=zi "new_kind" F7 "gapscribe.solve" 329 121
noncomputable def z80:=zu [("shapes",349),("word",350),("one",351),("other",352),("function",353)]
noncomputable def z81:=zj "kinds_of_word" Ge
noncomputable def Ht (P:Params)(t:List Obj):List Obj:=z72::z73::z74::z75::z1::z8::z76::z1::z77::z78::z79::z1::z8::z80::z1::z81::t
noncomputable def z82:=zb "kinds_of_word" 346 62 2 3 123 354 355
noncomputable def z83:=zi "kinds_of_word" Ge "gapscribe.solve" 329 128
noncomputable def z84:=zu [("around",360),("names",361),("kinds",362),("made",363),("name",364),("kind",365)]
noncomputable def z85:=zj "with_names" Fs
noncomputable def z86:=zb "with_names" 357 85 3 3 130 366 367
noncomputable def z87:=zi "with_names" Fs "gapscribe.solve" 329 135
noncomputable def z88:=zu [("placed",372),("shapes",373),("pairs",374),("asked_at",375),("around_at",376),("place",377),("form",378),("given",379),("asked",380),("bound",381),("number",382),("kind",383),("part",384)]
noncomputable def z89:=zj "kinds_in" Gy
noncomputable def z90:=zb "kinds_in" 369 90 1 3 137 385 386
noncomputable def z91:=zi "kinds_in" Gy "gapscribe.solve" 329 142
noncomputable def Ij (P:Params)(t:List Obj):List Obj:=z82::z83::z1::z8::z84::z1::z85::z86::z87::z1::z8::z88::z1::z89::z90::z91::t
noncomputable def z92:=zu [("shapes",391),("kind",392),("last",393)]
noncomputable def z93:=zj "last_same" Go
noncomputable def z94:=zb "last_same" 388 105 2 3 144 394 395
noncomputable def z95:=zi "last_same" Go "gapscribe.solve" 329 149
noncomputable def z96:=zu [("shapes",400),("kind",401),("passed",402),("waiting",403),("top",404),("part",405),("inner",406)]
noncomputable def z97:=zj "holds_itself" Fy
noncomputable def z98:=zb "holds_itself" 397 110 2 3 151 407 408
noncomputable def z99:=zi "holds_itself" Fy "gapscribe.solve" 329 156
noncomputable def Zgk (P:Params)(t:List Obj):List Obj:=z1::z8::z92::z1::z93::z94::z95::z1::z8::z96::z1::z97::z98::z99::t
noncomputable def Rtree_201:Params->B:=fun P=>tO (h9_0 P (Gq P (Fu P (F1 P (Gh P (Hd P (Hs P (Ht P (Ij P (Zgk P []))))))))))
noncomputable def d4 (P:Params):=[ze P "__name__" 165 (.str "law_gapscribe_k33_plain_marks" 481),ze P "__doc__" 166 .none,ze P "__package__" 167 .none,ze P "__loader__" 168 (.builtin "__main__.__loader__#opaque"),ze P "__spec__" 169 .none,ze P "__annotations__" 170 (.ref 6),ze P "__builtins__" 171 (.ref 4),ze P "__file__" 173 (.str "/claim/cut.py" 172),ze P "__cached__" 174 .none,ze P "GapError" 206 (.ref 24),ze P "TooBig" 222 (.ref 37),ze P "NoPlace" 247 (.ref 56),ze P "is_whole" 256 (.ref 65),ze P "placed_forms" 270 (.ref 72),ze P "has_part" 278 (.ref 79),ze P "forms_down_to" 288 (.ref 86),ze P "names_bound" 298 (.ref 93),ze P "bindings_at" 310 (.ref 100),ze P "names_at" 316 (.ref 105),ze P "binding_at" 328 (.ref 112),ze P "NUM" 332 (.int 0 331),ze P "TRUTH" 334 (.int 1 333),ze P "FIRST_SHAPES" 337 (.ref 115),ze P "new_kind" 345 (.ref 122),ze P "kinds_of_word" 356 (.ref 129),ze P "with_names" 368 (.ref 136),ze P "kinds_in" 387 (.ref 143),ze P "last_same" 396 (.ref 150),ze P "holds_itself" 409 (.ref 157),ze P "joined" 423 (.ref 164),ze P "fitted" 436 (.ref 171),ze P "kinds_told" 442 (.ref 176),ze P "MOST_FORMS" 446 (.int 40 445),ze P "mark_of" 456 (.ref 183),ze P "looks" 474 (.ref 190),ze P "marks" 480 (.ref 195),ze P "_law_cell_at" 490 (.ref 202),ze P "_law_same" 499 (.ref 209),ze P "_law_shares" 505 (.ref 214),ze P "_law_tree" 511 (.ref 219),ze P "_law_due" 529 (.ref 226)]
noncomputable def z100 (P:Params):=zt "dict" (.dict ⟨d4 P⟩ 41)
noncomputable def z101:=zy [(2,0,20),(4,0,33),(6,0,45),(11,0,64),(14,0,71),(23,0,78),(25,0,85),(33,0,92),(41,0,99),(47,0,104),(49,0,111),(59,0,121),(62,0,128),(85,0,135),(90,0,142),(105,0,149),(110,0,156),(126,0,163),(142,0,170),(150,0,175),(170,0,182),(178,0,189),(193,0,194),(196,0,201),(200,0,208),(220,0,213),(226,0,218),(239,0,225)]
noncomputable def Ze5 (P:Params)(t:List Obj):List Obj:=(boot_o_0 P)::(boot_o_1 P)::(boot_o_2 P)::(z100 P)::(boot_o_4 P)::(boot_o_5 P)::(boot_o_6 P)::(boot_o_7 P)::(boot_o_8 P)::(boot_o_9 P)::(boot_o_10 P)::z1::z101::z3::z4::z5::t
noncomputable def Kv (P:Params)(t:List Obj):List Obj:=z1::z8::z92::z1::z93::z94::z95::z1::z8::z96::z1::z97::z98::z99::z1::z8::t
noncomputable def z102:=zu [("shapes",413),("one",414),("other",415),("made",416),("waiting",417),("pair",418),("left",419),("right",420)]
noncomputable def z103:=zj "joined" Gw
noncomputable def z104:=zb "joined" 410 126 3 3 158 421 422
noncomputable def z105:=zi "joined" Gw "gapscribe.solve" 329 163
noncomputable def z106:=zu [("shapes",427),("pairs",428),("made",429),("fits",430),("given",431),("asked",432),("after",433)]
noncomputable def z107:=zj "fitted" Gi
noncomputable def z108:=zb "fitted" 424 142 2 3 165 434 435
noncomputable def z109:=zi "fitted" Gi "gapscribe.solve" 329 170
noncomputable def z110:=zj "kinds_told" F4
noncomputable def z111:=zk "kinds_told" "kinds_told" 437 150 2 3 172 true (.ref 174) 440 441
noncomputable def Jj (P:Params)(t:List Obj):List Obj:=z102::z1::z103::z104::z105::z1::z8::z106::z1::z107::z108::z109::z1::z8::z110::z111::t
noncomputable def z112:=zi "kinds_told" F4 "gapscribe.solve" 329 175
noncomputable def z113:=zu [("tree",450),("place",451),("form",452),("fits",453)]
noncomputable def z114:=zj "mark_of" Gg
noncomputable def z115:=zb "mark_of" 447 170 4 3 177 454 455
noncomputable def z116:=zi "mark_of" Gg "gapscribe.looks" 443 182
noncomputable def z117:=zu [("tree",460),("placed",461),("shapes",462),("pairs",463),("settled",464),("fits",465),("wanted",466),("pair",467),("kinds",468),("rows",469),("number",470),("asked",471)]
noncomputable def z118:=zj "looks" Fz
noncomputable def z119:=zb "looks" 457 178 1 3 184 472 473
noncomputable def z120:=zi "looks" Fz "gapscribe.looks" 443 189
noncomputable def Kq (P:Params)(t:List Obj):List Obj:=z112::z1::z8::z113::z1::z114::z115::z116::z1::z8::z117::z1::z118::z119::z120::z1::t
noncomputable def z121:=zj "marks" F8
noncomputable def z122:=zk "marks" "marks" 475 193 1 3 191 true (.ref 193) 478 479
noncomputable def z123:=zi "marks" F8 "gapscribe.looks" 443 194
noncomputable def z124:=zu [("_law_script",486),("_law_k",487)]
noncomputable def z125:=zj "_law_cell_at" G6
noncomputable def z126:=zb "_law_cell_at" 483 196 2 3 196 488 489
noncomputable def z127:=zi "_law_cell_at" G6 "law_gapscribe_k33_plain_marks" 481 201
noncomputable def z128:=zu [("_law_found",494),("_law_due_here",495),("_law_k",496)]
noncomputable def z129:=zj "_law_same" E3
noncomputable def K4 (P:Params)(t:List Obj):List Obj:=z8::z121::z122::z123::z1::z8::z124::z1::z125::z126::z127::z1::z8::z128::z1::z129::t
noncomputable def z130:=zb "_law_same" 491 200 2 3 203 497 498
noncomputable def z131:=zi "_law_same" E3 "law_gapscribe_k33_plain_marks" 481 208
noncomputable def z132:=zj "_law_shares" Ft
noncomputable def z133:=zk "_law_shares" "_law_shares" 500 220 3 3 210 true (.ref 212) 503 504
noncomputable def z134:=zi "_law_shares" Ft "law_gapscribe_k33_plain_marks" 481 213
noncomputable def z135:=zj "_law_tree" E7
noncomputable def z136:=zk "_law_tree" "_law_tree" 506 226 1 3 215 true (.ref 217) 509 510
noncomputable def z137:=zi "_law_tree" E7 "law_gapscribe_k33_plain_marks" 481 218
noncomputable def z138:=zu [("_law_tree_here",515),("_law_num",516),("_law_truth",517),("_law_rows",518),("_law_left",519),("_law_place",520),("_law_form",521),("_law_asked",522),("_law_given",523),("_law_wishes",524),("_law_k",525),("_law_at",526)]
noncomputable def Ks (P:Params)(t:List Obj):List Obj:=z130::z131::z1::z8::z132::z133::z134::z1::z8::z135::z136::z137::z1::z8::z138::z1::t
noncomputable def z139:=zj "_law_due" F9
noncomputable def K0:Obj:=zb "_law_due" 512 239 1 3 220 527 528
noncomputable def Ly:Obj:=zi "_law_due" F9 "law_gapscribe_k33_plain_marks" 481 225
noncomputable def Zdi (P:Params)(t:List Obj):List Obj:=z139::K0::Ly::t
noncomputable def Rtree_272:Params->B:=fun P=>tO (Ze5 P (Gq P (Fu P (F1 P (Gh P (Hd P (Hs P (Ht P (Ij P (Kv P (Jj P (Kq P (K4 P (Ks P (Zdi P [])))))))))))))))
noncomputable def d5 (P:Params):=d4 P++[ze P "law" 535 (.ref 231)]
noncomputable def z142 (P:Params):=zt "dict" (.dict ⟨d5 P⟩ 42)
noncomputable def z143:=zy [(2,0,20),(4,0,33),(6,0,45),(11,0,64),(14,0,71),(23,0,78),(25,0,85),(33,0,92),(41,0,99),(47,0,104),(49,0,111),(59,0,121),(62,0,128),(85,0,135),(90,0,142),(105,0,149),(110,0,156),(126,0,163),(142,0,170),(150,0,175),(170,0,182),(178,0,189),(193,0,194),(196,0,201),(200,0,208),(220,0,213),(226,0,218),(239,0,225),(259,0,230)]
noncomputable def Za5 (P:Params)(t:List Obj):List Obj:=(boot_o_0 P)::(boot_o_1 P)::(boot_o_2 P)::(z142 P)::(boot_o_4 P)::(boot_o_5 P)::(boot_o_6 P)::(boot_o_7 P)::(boot_o_8 P)::(boot_o_9 P)::(boot_o_10 P)::z1::z143::z3::z4::z5::t
noncomputable def z144:=zj "law" G3
noncomputable def z145:=zk "law" "law" 530 259 1 3 227 true (.ref 229) 533 534
noncomputable def z146:=zi "law" G3 "law_gapscribe_k33_plain_marks" 481 230
noncomputable def Za1 (P:Params)(t:List Obj):List Obj:=z139::K0::Ly::z1::z8::z144::z145::z146::t
noncomputable def Rtree_279:Params->B:=fun P=>tO (Za5 P (Gq P (Fu P (F1 P (Gh P (Hd P (Hs P (Ht P (Ij P (Kv P (Jj P (Kq P (K4 P (Ks P (Za1 P [])))))))))))))))
noncomputable def Rheap_280:Params->Heap:=fun P=>⟨⟨Za5 P (Gq P (Fu P (F1 P (Gh P (Hd P (Hs P (Ht P (Ij P (Kv P (Jj P (Kq P (K4 P (Ks P (Za1 P []))))))))))))))⟩,Life.mk [] [] [] 0 [] [] false #[] [] 0 false false false 0 [2000,10,10] false 0 true [] [] 0 false⟩
noncomputable def KK:Params->Oo:=fun P=>(nat_lit 2,boot_o_2 P)::(nat_lit 3,z142 P)::(nat_lit 23,z11 P)::(nat_lit 24,z26)::(nat_lit 36,z20 P)::(nat_lit 37,z21)::(nat_lit 55,z36 P)::(nat_lit 56,z37)::(nat_lit 71,z46)::(nat_lit 72,z47)::(nat_lit 92,z60)::(nat_lit 93,z61)::(nat_lit 113,z73)::(nat_lit 114,z74)::(nat_lit 115,z75)::(nat_lit 121,z78)::(nat_lit 122,z79)::(nat_lit 128,z82)::(nat_lit 129,z83)::(nat_lit 135,z86)::(nat_lit 136,z87)::(nat_lit 142,z90)::(nat_lit 143,z91)::(nat_lit 149,z94)::(nat_lit 150,z95)::(nat_lit 156,z98)::(nat_lit 157,z99)::(nat_lit 163,z104)::(nat_lit 164,z105)::(nat_lit 170,z108)::(nat_lit 171,z109)::(nat_lit 175,z111)::(nat_lit 176,z112)::(nat_lit 182,z115)::(nat_lit 183,z116)::(nat_lit 189,z119)::(nat_lit 190,z120)::(nat_lit 194,z122)::(nat_lit 195,z123)::(nat_lit 201,z126)::(nat_lit 202,z127)::(nat_lit 208,z130)::(nat_lit 209,z131)::(nat_lit 213,z133)::(nat_lit 214,z134)::(nat_lit 218,z136)::(nat_lit 219,z137)::(nat_lit 225,K0)::(nat_lit 226,Ly)::(nat_lit 230,z145)::(nat_lit 231,z146)::[]
noncomputable def KA:List Addr:=[2,3,23,24,36,37,55,56,71,72,92,93,113,114,115,121,122,128,129,135,136,142,143,149,150,156,157,163,164,170,171,175,176,182,183,189,190,194,195,201,202,208,209,213,214,218,219,225,226,230,231]
noncomputable def RB (P:Params):List Qm×List Heap:=([Rtree_78 P,Rtree_128 P,Rtree_201 P,Rtree_272 P,Rtree_279 P],[Rheap_280 P])
theorem e_RB:RB=RB:=rfl
name_quick x_RB for K33.RB by K33.e_RB
end K33
namespace PySem.W.Fast
noncomputable def tw15880345947453051459:Q6->Qm:=tw15025788044365381129
theorem te15880345947453051459:K33.Rtree_78=tw15880345947453051459:=te15025788044365381129
noncomputable def tw15644782770773074048:Q6->Qm:=tw1497767817591867304
theorem te15644782770773074048:K33.Rtree_128=tw15644782770773074048:=te1497767817591867304
noncomputable def tw8577890273855147160:Q6->Qm:=tw4606518164668545026
theorem te8577890273855147160:K33.Rtree_201=tw8577890273855147160:=te4606518164668545026
noncomputable def tw1250123345575120662:Q6->Qm:=tw664558272136586385
theorem te1250123345575120662:K33.Rtree_272=tw1250123345575120662:=te664558272136586385
noncomputable def tw6773507118719494257:Q6->Qm:=tw9649336286849123870
theorem te6773507118719494257:K33.Rtree_279=tw6773507118719494257:=te9649336286849123870
noncomputable def tw12232448084279055752:Q6->PySem.Heap:=tw17919255031666062812
theorem te12232448084279055752:K33.Rheap_280=tw12232448084279055752:=te17919255031666062812
end PySem.W.Fast
local macro_rules | `(tactic| walk_at "gd")=>`(tactic| (refine' ⟨?ka,_,L2.fun_mk ?kl ?kc ?kk⟩; (case ka=>k_is); (case kl=>k_is); (case kc=>k_is); (case kk=>k_is)))
namespace K33
open PySem L2
noncomputable abbrev Jo:=M9
theorem all1 {α:Type}{P:List α->Prop}(h:∀ a,P [a]):∀ us:List α,us.length=1->P us
 | [a],_=>h a
theorem all2 {α:Type}{P:List α->Prop}(h:∀ a b,P [a,b]):∀ us:List α,us.length=2->P us
 | [a,b],_=>h a b
theorem all3 {α:Type}{P:List α->Prop}(h:∀ a b c,P [a,b,c]):∀ us:List α,us.length=3->P us
 | [a,b,c],_=>h a b c
theorem all4 {α:Type}{P:List α->Prop}(h:∀ a b c d,P [a,b,c,d]):∀ us:List α,us.length=4->P us
 | [a,b,c,d],_=>h a b c d
local macro_rules | `(tactic| walk_at "bi")=>`(tactic| first | exact fun _ _ _ _ _ _=>K33.all1 fun _=>rfl | exact fun _ _ _ _ _ _=>K33.all2 fun _ _=>rfl | exact fun _ _ _ _ _ _=>K33.all3 fun _ _ _=>rfl | exact fun _ _ _ _ _ _=>K33.all4 fun _ _ _ _=>rfl | exact fun _ _ _ _ _ _=>K33.all5 fun _ _ _ _ _=>rfl)
theorem Nt {P:Program}{w:World}{K:Oo}{mg:Str->Option Value}{base:Heap}{f:Addr}{fd:FuncData}(F:Fun K "_law_same" "_law_same" E3 f fd)(T:Txt K mg)
  (mk:∀ n,Az P w K mg base A0 (n+1) f fd ["_law_found", "_law_due_here"] (Ep K n)->A6 P w K mg base (n+1) "_law_same" ["_law_found", "_law_due_here"] (Ep K n)):∀ n,Az P w K mg base A0 (n+1) f fd ["_law_found", "_law_due_here"] (Ep K n)
 | 0=>by
  have no:∀ vs H Q E,¬ Ep K 0 vs H Q E:=by
   rintro vs H Q E ⟨x,y,d,m,_,h,_⟩
   exact absurd h (Sv _)
  exact ⟨fun vs H Q E h=>absurd h (no _ _ _ _),fun A outer s H args us vs Q E _ _ _ _ h=>absurd h (no _ _ _ _)⟩
 | n+1=>Zd0 F T (mk n (Nt F T mk n))
theorem Zaa {P:Program}{w:World}{K:Oo}{mg:Str->Option Value}{base:Heap}{f:Addr}{fd:FuncData}(F:Fun K "_law_tree" "_law_tree" E7 f fd)(T:Txt K mg)(C__law_shares:A6 P w K mg base 1 "_law_shares" ["_law_rest", "_law_many", "_law_turn"] (K2 K))
  (mk:∀ n,Az P w K mg base A0 (n+2) f fd ["_law_cells"] (Eu K n)->A6 P w K mg base (n+2) "_law_tree" ["_law_cells"] (Eu K n)):∀ n,Az P w K mg base A0 (n+2) f fd ["_law_cells"] (Eu K n)
 | 0=>by
  have no:∀ vs H Q E,¬ Eu K 0 vs H Q E:=by
   rintro vs H Q E ⟨a,ns,_,_,h,_⟩
   exact absurd h (Sv _)
  exact ⟨fun vs H Q E h=>absurd h (no _ _ _ _),fun A outer s H args us vs Q E _ _ _ _ h=>absurd h (no _ _ _ _)⟩
 | n+1=>Zga F T C__law_shares (mk n (Zaa F T C__law_shares mk n))
theorem two_top {K:Oo}{a d e:Addr}{od:Option Addr}{its:Array Value}{n:Nat}{sl:Array (Option Value)}(l:K.lookup a=some ⟨.type "tuple",od,.seq its n,sl⟩)(h:its.toList=[.ref d,.ref e]):∀ H,SqT K H a [.ref d,.ref e]:=fun H=>by
 have v:Vals [.ref d,.ref e] its.toList:=by rw [h];exact .cons rfl (.cons rfl .nil)
 refine .inr ⟨_,its,n,l,rfl,rfl,?_,v⟩
 have b:1000<=sizeLine:=by decide
 have e2:its.toList.length=its.size:=Re
 have e3:its.toList.length=2:=by rw [h];rfl
 omega
noncomputable abbrev Gd (K:Oo)(n:Str)(st:Stmt)(f:Addr):Prop:=Pe K mainGlobals n=some (some (.ref f))/\∃ fd,Fun K n n st f fd
noncomputable abbrev Bi (n q:Str)(st:Stmt)(ps:List Str):Prop:=∀(kV doc pm:Value)(an:Option Addr)(cdv ct:Value)(us:List Value),us.length=ps.length->bindArgs (Qd n q (Ez st) (Dz st) (A3 st) .none kV doc pm an cdv ct) ⟨us,[]⟩=pure (ps.zip us)
section
variable {P:Program}{w:World}{K:Oo}{mg:Str->Option Value}{base h:Heap}(X:K.In h)(G:h.Ns mainGlobals mg){n q:Str}{st:Stmt}{f C:Addr}{k:Nat}{ps:List Str}{sp:Sp}
include X G
theorem cal (g:Gd K n st f)(ok:∀ fd,Fun K n n st f fd->Az P w K mg base A0 k f fd ps sp)(b:Bi n n st ps:=by walk_at "bi"):A6 P w K mg base k n ps sp:=by
 obtain ⟨a,fd,F⟩:=g
 exact Ls (ok fd F) (PySem.W.mg_of X G a) F.kp (F.binds b)
end
theorem all_mk {l:T9}{w:World}{K:Oo}{h:Heap}{mg:Str->Option Value}{fa f1 f2 f3 f4 f5 f6 f7 f8 f9 f10 f11 f12 f13 f14 f15 f16 f17 f18 f19 f20:Addr}(X:K.In h)(G:h.Ns mainGlobals mg)(hfa:mg "law" = some (.ref fa))
  (a1:Gd K "placed_forms" G0 f1) (a2:Gd K "names_bound" Fx f2) (a3:Gd K "new_kind" F7 f3) (a4:Gd K "kinds_of_word" Ge f4) (a5:Gd K "with_names" Fs f5) (a6:Gd K "kinds_in" Gy f6) (a7:Gd K "last_same" Go f7) (a8:Gd K "holds_itself" Fy f8) (a9:Gd K "joined" Gw f9) (a10:Gd K "fitted" Gi f10) (a11:Gd K "kinds_told" F4 f11) (a12:Gd K "mark_of" Gg f12) (a13:Gd K "looks" Fz f13) (a14:Gd K "marks" F8 f14) (a15:Gd K "_law_cell_at" G6 f15) (a16:Gd K "_law_same" E3 f16)
  (a17:Gd K "_law_shares" Ft f17) (a18:Gd K "_law_tree" E7 f18) (a19:Gd K "_law_due" F9 f19) (a20:Gd K "law" G3 f20) (z1:Pe K mainGlobals "isinstance" = some none) (z2:Pe K mainGlobals "int" = some none) (z3:Pe K mainGlobals "bool" = some none) (z4:Pe K mainGlobals "reversed" = some none) (z5:Pe K mainGlobals "list" = some none) (z6:Pe K mainGlobals "enumerate" = some none) (z7:Pe K mainGlobals "len" = some none) (z8:Pe K mainGlobals "dict" = some none) (z9:Pe K mainGlobals "zip" = some none)
  (z10:Pe K mainGlobals "tuple" = some none) (z11:Pe K mainGlobals "str" = some none) (z12:Pe K mainGlobals "range" = some none) {u1 u2 u3:Tok} (b1:Pe K mainGlobals "NUM" = some (some (.int 0 u1))) (b2:Pe K mainGlobals "TRUTH" = some (some (.int 1 u2))) (b3:Pe K mainGlobals "MOST_FORMS" = some (some (.int 40 u3))) {fs t0 t1:Addr} {o2 o0 o1:Option Addr} {i2 i0 i1:Array Value} {n2 n0 n1:Nat} {l2 l0 l1:Array (Option Value)} (b4:Pe K mainGlobals "FIRST_SHAPES" = some (some (.ref fs))) (gtA:K.lookup fs=some ⟨.type "tuple",o2,.seq i2 n2,l2⟩)
  (eA:i2.toList=[.ref t0,.ref t1]) (gtB:K.lookup t0=some ⟨.type "tuple",o0,.seq i0 n0,l0⟩) (eB:E5 i0.toList=some [.str "num"]) (gtC:K.lookup t1=some ⟨.type "tuple",o1,.seq i1 n1,l1⟩) (eC:E5 i1.toList=some [.str "truth"]) :
  ∃ fd:FuncData,(∀(s:Shared)(v:Value),BindsTo s fd ⟨[v],[]⟩ [("_law_script",v)])/\∀ base:Heap,K.In base->base.Ns mainGlobals mg->Az l.prog w K mg base A0 9 fa fd ["_law_script"] (Jo K):=by
 obtain ⟨aL,fd,FL⟩:=a20
 have e:=hfa.symm.trans (PySem.W.mg_of X G aL)
 cases e
 have FX:=FL
 obtain ⟨_,_,kV,doc,pm,an,cdv,ct,_,ef,_,_⟩:=FL.ex
 refine ⟨fd,fun s v=>by rw [ef];exact .of_eq rfl,fun base _ _=>?_⟩
 have gl:=fun {n v}=>@PySem.W.mg_of K h mg n v X G
 have no:=fun {n}=>@PySem.W.mg_none_of K h mg n X G
 have T:Txt K mg:=⟨no z1,no z2,no z3,no z4,no z5,no z6,no z7,no z8,no z9,no z10,no z11,no z12⟩
 have GN:Ds mg "NUM" (.int 0):=⟨_,gl b1,⟨_,rfl⟩⟩
 have GT:Ds mg "TRUTH" (.int 1):=⟨_,gl b2,⟨_,rfl⟩⟩
 have GM:Ds mg "MOST_FORMS" (.int 40):=⟨_,gl b3,⟨_,rfl⟩⟩
 have GF:Ds mg "FIRST_SHAPES" (.ref fs):=⟨_,gl b4,rfl⟩
 have HF:=two_top gtA eA
 have HF0:=Zaj gtB eB (by decide)
 have HF1:=Zaj gtC eC (by decide)
 have ca:=fun {k n st f ps sp}=>@cal l.prog w K mg base h X G n st f k ps sp
 have C_placed_forms:=ca a1 fun _ F=>Zia F T
 have C_names_bound:=ca a2 fun _ F=>Zcu F T
 have C_new_kind:=ca a3 fun _ F=>Zj2 F T
 have C_kinds_of_word:=ca a4 fun _ F=>Zeb F T GN GT C_new_kind
 have C_with_names:=ca a5 fun _ F=>Zg4 F T
 have C_kinds_in:=ca a6 fun _ F=>Zb5 F T GF HF HF0 HF1 C_kinds_of_word C_with_names C_names_bound
 have C_last_same:=ca a7 fun _ F=>Zhb F T
 have C_holds_itself:=ca a8 fun _ F=>Zcp F T C_last_same
 have C_joined:=ca a9 fun _ F=>Zdp F T C_last_same C_holds_itself
 have C_fitted:=ca a10 fun _ F=>Ze4 F T C_joined
 have C_kinds_told:=ca a11 fun _ F=>Zic F T C_last_same
 have C_mark_of:=ca a12 fun _ F=>Zif F T
 have C_looks:=ca a13 fun _ F=>Zh5 F T GM C_placed_forms C_kinds_in C_fitted C_kinds_told C_mark_of
 have C_marks:=ca a14 fun _ F=>Zdj F T C_looks
 have C__law_cell_at:=ca a15 fun _ F=>Zec F T
 have C__law_same:=ca a16 fun _ F=>Nt F T (fun n h=>Ls h (gl a16.1) F.kp (F.binds (by walk_at "bi"))) 4
 have C__law_shares:=ca a17 fun _ F=>Zdx F T
 have C__law_tree:=ca a18 fun _ F=>Zaa F T C__law_shares (fun n h=>Ls h (gl a18.1) F.kp (F.binds (by walk_at "bi"))) 6
 have C__law_due:=ca a19 fun _ F=>Zeo F T
 exact Zjs FX T C__law_tree C__law_cell_at C__law_due C__law_same C_looks C_marks
theorem walk {l:T9}{q:Program}{loose:List Str}{XP:(Str->Option Value)->Heap->Prop}{YP:World->Heap->Prop}{d:DefRec}{K:Params->Oo}(hn:l.most=some 63)(hdf:d.params.defaults=[])
  (hY:∀(w:World)(h:Heap),YP w h->(K w.params).In h)
  (F:∀(w:World)(mg:Str->Option Value)(fa:Addr)(h:Heap),(K w.params).In h->h.Ns mainGlobals mg->mg d.name=some (.ref fa) ->
   ∃ fd:FuncData,(∀(s:Shared)(u:Value),BindsTo s fd ⟨[u],[]⟩ [("_law_script",u)])/\∀ base:Heap,(K w.params).In base->base.Ns mainGlobals mg->Az l.prog w (K w.params) mg base A0 9 fa fd ["_law_script"] (Jo (K w.params))) :
  PySem.W.WalkO q loose XP YP l.row.toRowW d [] (fun f vs=>PySem.call f vs) :=
 L2.walk_of (n:=63) (k:=9) (x := "_law_script") (CX:=fun _=>A0) (sp:=fun w=>Jo (K w.params)) hn (by decide) hdf ⟨rfl,by decide,by decide⟩ hY F (fun _ _ a ns hl _ hS=>⟨a,ns,rfl,hS,hl,fun _=>rfl⟩) fun _ _ _ _ _ z=>z
end K33
open PySem PySem.W PyProof.Rows
set_option maxRecDepth 100000 in
set_option maxHeartbeats 0 in
theorem PySem.Challenge.cw_gapscribe_k33_plain_marks_holds : PySem.Challenge.rw_gapscribe_k33_plain_marks.Holds := by
 w_on; o_law; o_head (PySem.W.kHook K33.KK K33.KA (fun _=>by kernel_rfl)); (case hw=>w_witness2)
 k_fill
 refine K33.walk (l:=PySem.Challenge.rw_gapscribe_k33_plain_marks) rfl rfl (fun w h Y=>PySem.W.kIn_of Y) ?F
 case F =>
  intro w mg fa h KX G hmg
  refine' K33.all_mk KX G hmg ?a1 ?a2 ?a3 ?a4 ?a5 ?a6 ?a7 ?a8 ?a9 ?a10 ?a11 ?a12 ?a13 ?a14 ?a15 ?a16 ?a17 ?a18 ?a19 ?a20 ?z1 ?z2 ?z3 ?z4 ?z5 ?z6 ?z7 ?z8 ?z9 ?z10 ?z11 ?z12 ?b1 ?b2 ?b3 ?b4 ?gtA ?eA ?gtB ?eB ?gtC ?eC
  (case a1=>walk_at "gd")
  (case a2=>walk_at "gd")
  (case a3=>walk_at "gd")
  (case a4=>walk_at "gd")
  (case a5=>walk_at "gd")
  (case a6=>walk_at "gd")
  (case a7=>walk_at "gd")
  (case a8=>walk_at "gd")
  (case a9=>walk_at "gd")
  (case a10=>walk_at "gd")
  (case a11=>walk_at "gd")
  (case a12=>walk_at "gd")
  (case a13=>walk_at "gd")
  (case a14=>walk_at "gd")
  (case a15=>walk_at "gd")
  (case a16=>walk_at "gd")
  (case a17=>walk_at "gd")
  (case a18=>walk_at "gd")
  (case a19=>walk_at "gd")
  (case a20=>walk_at "gd")
  (case z1=>k_is)
  (case z2=>k_is)
  (case z3=>k_is)
  (case z4=>k_is)
  (case z5=>k_is)
  (case z6=>k_is)
  (case z7=>k_is)
  (case z8=>k_is)
  (case z9=>k_is)
  (case z10=>k_is)
  (case z11=>k_is)
  (case z12=>k_is)
  (case b1=>k_is)
  (case b2=>k_is)
  (case b3=>k_is)
  (case b4=>k_is)
  (case gtA=>k_is)
  (case eA=>rfl)
  (case gtB=>k_is)
  (case eB=>rfl)
  (case gtC=>k_is)
  (case eC=>rfl)
#print axioms PySem.Challenge.cw_gapscribe_k33_plain_marks_holds
