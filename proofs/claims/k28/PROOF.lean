import PyProof.Rows.All
import Wide.All
import OpenK.AllK
import Wide.FinOn
import Lean
import PyProof.EqAt
import PyProof.EqKinds
import PyProof.TupleCall
import PyProof.Rows.SortRunsK
import PyProof.Rows.SortShellK
import KE.KSortTup
import PyProof.TupleKey
import PySem.SetOps
import PyProof.Rows.SetFrom
import PyProof.EnumFor
import PyProof.EnumStmt
import PyProof.EnumMake
import PyProof.P3Eq
import PyProof.NeData
import PyProof.P3In
import PyProof.Rows.SumAny
import KE.KLam
import KE.KSortKey
import PyProof.ListRange
import KE.KTryMore
import PyProof.NsDelKeeps
import PyProof.RulesAs
import PyProof.ExcBaseAll.ValueError
import PyProof.ExcArgsOwn
import KE.KIsAll
import PyProof.Rows.SortRev
import PyProof.TupleOfSeq
import PyProof.Draws
import KE.KTupSum
import Wide.Txt2
import PyProof.ListOps
import PyProof.AutoSeq1
import KE.RegKIsAll
import KE.RegKTryMore
import PySem.Challenge.RW_tallyweb_k28_whole_pairs_counted
local macro_rules | `(tactic| omega) => `(tactic| lia)
set_option autoImplicit false
set_option linter.all false
set_option Elab.async false
set_option maxRecDepth 100000
open List renaming length_map->a6,length_cons->a9,mem_cons_of_mem->b8,mem_cons_self->b9,getElem?_eq_some_iff->c7,getD_eq_getElem?_getD->c9,mem_cons->d3,mem_of_getElem?->d5,size_toArray->d8,getElem?_eq_getElem->i6,map_cons->i7,take_of_length_le->i8,map_append->i9,mem_singleton->j6,length_append->j7,mem_append->k7,mem_map->k8,mem_append_right->k9,length_take->n6,range->n8,getElem?_eq_none->n9,mem_iff_getElem?->o4,take_add_one->o6,pairwise_append->o7,map_congr_left->o8,getElem?_map->q8,pairwise_iff_getElem->t9,mem_filter->u4,mem_range->u6,sum_cons->u7,take_append_drop->x9,pairwise_cons->y9,length_set->A3,mem_of_mem_take->A5,length_drop->A8,append_assoc->A9,append_nil->B3,filter_append->B4,replicate->B9,length_range->C1,map_map->C2,nodup_cons->C7,not_mem_nil->C8,filter_cons_of_pos->C9,filter_cons_of_neg->D0,length_eq_zero_iff->D3,getElem?_append_right->D6,mem_append_left->D7,getElem?_set_ne->D8,length_range'->D9,range_succ->E4,length_filter_le->E8,drop_of_length_le->F6,take_sublist->F9,replicate_succ->G0,pairwise_map->G1,take_append_of_le_length->J0,ext_getElem?->J9,nil_append->K5,sum_append->K6,nodup_iff_pairwise_ne->L3,range'->L8,flatten_cons->M9,getElem?_range->N6,getElem?_set_self->P3,getElem?_drop->P4,getElem?_take->P5,length_singleton->Q0,reverse_perm->Q7,mem_of_mem_drop->R5,getElem?_append_left->S2,extract_eq_take_drop->S3,all_eq_true->S5,getElem?_take_of_lt->S9,map_nil->T4,getElem_range->U9,any_cons->V0,find?_cons->V1,pairwise_lt_range->V7,range_succ_eq_map->V8,getElem?_set->W5,pairwise_reverse->X9,drop_append->Y4,nodup_range->Y5,foldl->aa6,filterMap_cons->ab8,foldl_cons->ab9,flatMap_append->ac0,filter_nil->ac1,perm_ext_iff_of_nodup->ae3,mem_filterMap->ae6,sum_nil->ae8,drop_eq_getElem_cons->af3,drop_sublist->ah6,mem_range'_1->ah7,nodup_append->ah8,flatMap_cons->ah9,length->ak3,any_toArray->ak6,range'_succ->ak7,countP_cons->ak8,filter_eq_nil_iff->am1,of_mem_zip->ao7,length_nil->ao9,take_zero->at8,length_pos_iff->av2,countP->av3,filter_eq_self->av4,zip_cons_cons->aD6,map_id'->aI8,mem_reverse->aO1,cons_append->aO2,drop_append_of_le_length->aO4,eq_nil_of_length_eq_zero->aO5,getElem_mem->aO6,take_length->aO7,countP_eq_length_filter->aP1,take->aY1,drop_drop->be5,drop_zero->be6,nodup_nil->be9,length_erase_of_mem->bm5,map_drop->bs6,map_take->bs7,sum->bs8,drop_eq_nil_of_le->bt0,length_pos_of_mem->bt2,perm_append_comm->bF0,map_set->bF3,range_eq_range'->bG3,reverse_append->bO0,toList_toArray->bO2,filter_sublist->bO3,length_reverse->bO5,set_cons_zero->bR5,map->bR9,drop_reverse->ca9,take_reverse->cb0,getElem?_inj->cb1,filter_congr->cb2,countP_congr->cb3,take_append->cb5,lookup_cons->cb8,mem_flatMap->cb9,map_reverse->cc1,filter_cons->cc2,flatMap_nil->cc3
open PySem.Heap renaming get?_push_of_some->a7,lt_size->j4,get?_push_size->m7,get?_update_other->K7,size_push->O8,get?_update_self->ao8,get?_none_of_le->as5,size_update->cb6
open PySem renaming wpAny_bind->a8,mainGlobals->d4,sizeLine->f6,wpAny_pure->j9,model->p7,wpAny->p9,tupleKeyHash->r9,intKind->A1,starEach->A6,sizeLine_eq->C6,wpAny_mono->E6,IsTupleKey->J4,compareOp->J6,wpAny_truthy_bool->K9,wpAny_holding->M4,bootBuiltins->R1,wpAny_passesOwn->R3,wpAny_setState_of->R6,compEnvC->R7,sysModules->V2,wpAny_Call_Name_kw->V9,wpAny_newList->W1,binaryOp->Y7,Paired->Z8,backTo->Z9,sliceBounds->ae9,unsupported->af0,codeAny_builtin->af1,wpAny_pyIter_tuple->ai0,cLine->aj9,assignEach->ak9,foldedSetIterable->al0,ofAClassStatement->al2,wpAny_pyIter_enum->al3,behindInMarks->am2,wpAny_execs_nil->au2,rawInt->au3,codeAny_mono->au4,PyData->au6,wpAny_newFunctionEnv->ay0,recursionLimit->aD8,wpAny_seqItems->aD9,Keyword->aE2,keywordEach->aE3,wpAny_standAt->aI9,NameKind->aJ0,setSearchFrom->aJ2,tupleKind_room_in1->aJ3,builtinsNs->aP3,codeAny->aP4,closureFor->aP5,wpAny_newObj_type->aP6,seqIndex_neg->aY3,wpAny_execs_cons->aY6,wpAny_call_entry->aY7,wpAny_forIn_list->aY8,bindArgs->bf0,tupleKind->bm6,getItem->bm7,letOwnedTupleGo->bm8,BindsTo->bm9,seqIndex_of->bn0,subscripted->bn1,callerA->bn2,hashByValue->bn6,wpAny_field->bn7,valueAt->bn8,wpAny_letOwnedTupleGo_enum->bs9,call_meets->bF5,wpAny_rule->bF6,wpAny_comprehension_free->bF9,GenState->bG4,rangeSize_one->bG5,backToKw->bG6,attributeBase->bG8,compPost->bH0,ReadsAll->bH1,wpAny_callSpecial?_slot->bH2,wpAny_getItem_list_neg->bO7,codeAny_compStart_list->bO8,wpAny_isTrue_Compare1->bS0,swapsWith->bS1,again->bS2,setSearch->bS6,wpAny_eqIsQuiet_tuple->bS7,codeAmong->bS8,wpAny_loadName_local->cb4,wpAny_loadName_cell->cc4,holding->cc5,wpAny_of_eq->cd0,atKey->cd1
open Nat renaming le_refl->c5,ne_of_lt->m8,zero_le->o5,lt_of_lt_of_le->p5,le_trans->p8,lt_or_ge->E3,zero_add->F5,lt_succ_of_lt->G4,lt_irrefl->G5,lt_or_eq_of_le->G9,le_add_right->L7,add_sub_cancel_left->N8,add_le_add_left->T5,le_succ->W8,ne_of_gt->Y0,succ_mul->Y1,add_sub_cancel->af4,le_of_eq->af5,succ_pos->af6,le_of_succ_le->aj6,le_of_lt_succ->aj7,lt_trichotomy->aj8,le_of_lt->ap0,add_zero->ap1,pow_le_pow_right->at9,mul_le_mul_right->au0,lt_of_le_of_lt->aE1,sub_self->aO3,not_lt_zero->aY4,min_eq_left->aY5,exists_eq_add_of_le->bt1,div_div_eq_div_mul->bF1,lt_trans->bG1,testBit_two_pow->bR6,mod_lt->cb7
open Array renaming getElem?_toList->c8,length_toList->j8,size_push->A0,toList_append->B6,size_extract->F2,size_append->F8,perm_iff_toList_perm->L1,toList_push->V6,toList_extract->Y2,toList_reverse->Y3,toArray_toList->Y6,forIn_toList->ae4,size_map->ae7,toList_setIfInBounds->aY0,getElem?_append_left->aY2,size_setIfInBounds->be7,getElem?_replicate->be8,mem_toList_iff->bF2,setIfInBounds->bG0,append_assoc->bN9,size_reverse->bO1,getD->bR7,toList_map->ca8
open PySem.W renaming nsIn->d7,mg_none_of->v8,mg_of->P8,fnOf->S4,keepIn->ac2,codeIn->aP2
open Int renaming toNat_natCast->j2,le_refl->K8,mul_one->N7,toNat_of_nonneg->T6,emod_lt_of_pos->af7,emod_nonneg->ap2,mul_zero->ap3,lt_irrefl->aE0,mul_comm->aO8,add_zero->aO9,mul_le_mul_of_nonneg_left->aP0,zero_mul->bG2,one_mul->bR8,mul_left_comm->cc0
open PyProof.Rows renaming wpS_bind->j3,wpS_pure->l5,arrOf->l9,pendingOf->B7,wpS_forRange->E5,seqObj->F7,envOfC->M0,failedOf->M3,IntsAre->M7,wpS_mono->U2,get?_update_seq->W0,listUpdate_at->ac3,elem'->af8,mem_zip_self->ai1,sortedHeap->al1,AllBare->au1,wpS_get->au5,wpS_modify->av5,wpS_reverse->aE4,KeyOrd->aJ1,mirror_perm->bn3,seqEpoch_at->bn4,entry_list_sort->bn5,slot_list_sort->bt3,boot_range->bF4,setPending->bF7,size_push'->bF8,subscriptTail->bG7,tuples'->bG9,subscriptTail_builtinR->bO6,call_function_entry_kw->bO9,listItems_at->bS3,plain_sorted->bS4,entry_sorted->bS5,getElem?_mirror_all->cc6,pairsOf->cc7,kind_sorted->cc8,wpAny_call_entry_kw->cc9
open Bool renaming false_ne_true->j5,false_eq_true->l6,and_eq_true->x6,not_true->Q8,or_false->aa4,eq_iff_iff->ao6,false_or->aD7,not_eq_true'->aF3
open Option renaming isSome_iff_exists->v9,toList_some->O9,map_some->aa5,isSome_map->bO4,getD_none->bR4
variable {A:PySem.Around}{B:PyProof.Rows.Keyed->PyProof.Rows.Keyed->Bool}{C CB a f l:PySem.Addr}{E Q:PySem.Value->PySem.Shared->Prop}{M:PySem.Model}{N N' ps:List PySem.Str}{P prog:PySem.Program}{R:PyProof.Rows.Keyed->PyProof.Rows.Keyed->Prop}{XP:(PySem.Str->Option PySem.Value)->PySem.Heap->Prop}{YP:PySem.World->PySem.Heap->Prop}{a₀:Array PyProof.Rows.Keyed}{b:Nat->Option (Option Nat) × Nat × Nat->StateT PyProof.Rows.SortSt PySem.Sem (ForInStep (Option (Option Nat) × Nat × Nat))}{c k ns zs:List Int}{cl:List (PySem.Str × PySem.Addr)}{d:Nat->Int}{e tg:PySem.Expr}{es:List PySem.Expr}{fd fdC fdF fdI fdL fdM fdP fdT fdW:PySem.FuncData}{fp:List PySem.Addr}{g:Nat->Nat->Bool}{h h':PySem.Heap}{i j n p t':Nat}{ks:List (List Int)}{lk:List (Option Nat)}{out ra rb:List PyProof.Rows.Keyed}{outer:List PySem.Env}{params:PySem.Arguments}{pins:List (PySem.Addr × PySem.Obj)}{pos:PySem.Pos}{qual x:PySem.Str}{s:PySem.Shared}{scope:PySem.Scope}{u:PySem.Value}{us vs:List PySem.Value}{w:PySem.World}{κ:PyProof.Rows.SortKind}
namespace L2
open PySem PySem.Spec PyProof.Rows
abbrev Key:=Sum Int Str
def aH3:Key->Value->Bool
 | .inl k,v=>Value.isInt k v
 | .inr x,v=>Value.isStrOf x v
def cl0 (w:World):Key->Int
 | .inl k=>hashInt k
 | .inr x=>hashStr w x
theorem K4:∀ {k:Key} {v:Value},aH3 k v=true->(∃ i t,k=Sum.inl i/\v=Value.int i t)\/(∃ x t,k=Sum.inr x/\v=Value.str x t)
 | .inl i,v,h=>by
  obtain⟨t,e⟩:=Value.isInt_shape (k:=i) (v:=v) h
  exact .inl ⟨i,t,rfl,e⟩
 | .inr x,v,h=>by
  obtain⟨t,e⟩:=Value.isStrOf_shape (x:=x) (v:=v) h
  exact .inr ⟨x,t,rfl,e⟩
theorem bq6 (i:Int)(t:Tok):aH3 (.inl i) (.int i t)=true:=by simp[aH3,Value.isInt]
theorem bq5 (x:Str)(t:Tok):aH3 (.inr x) (.str x t)=true:=by simp[aH3,Value.isStrOf]
theorem bY5 (a b:Int):decide ((Sum.inl a:Key)=Sum.inl b)=(a == b):=by
 by_cases e:a=b
 ·subst e;simp
 ·have h:¬ (Sum.inl a:Key)=Sum.inl b:=fun q=>e (Sum.inl.inj q)
  rw[decide_eq_false h]
  exact(beq_eq_false_iff_ne.mpr e).symm
theorem bY2 (a b:Str):decide ((Sum.inr a:Key)=Sum.inr b)=decide (a=b):=by
 by_cases e:a=b
 ·subst e;simp
 ·have h:¬ (Sum.inr a:Key)=Sum.inr b:=fun q=>e (Sum.inr.inj q)
  rw[decide_eq_false h,decide_eq_false e]
theorem bY4 (a:Int)(b:Str):decide ((Sum.inl a:Key)=Sum.inr b)=false:=decide_eq_false (fun q=>nomatch q)
theorem bY3 (a:Str)(b:Int):decide ((Sum.inr a:Key)=Sum.inl b)=false:=decide_eq_false (fun q=>nomatch q)
def N5 (prog:Program) (w:World):PySem.KeyKind prog w Key where
  is:=aH3
  hash:=cl0 w
  inj:=fun v a b ha hb=>by
    rcases K4 ha with⟨i,t,rfl,rfl⟩ | ⟨x,t,rfl,rfl⟩
    · rcases K4 hb with⟨j,u,rfl,e⟩ | ⟨y,u,rfl,e⟩
      · injection e with e1 _;rw[e1]
      · exact nomatch e
    · rcases K4 hb with⟨j,u,rfl,e⟩ | ⟨y,u,rfl,e⟩
      · exact nomatch e
      · injection e with e1 _;rw[e1]
  byValue := fun k v h => by
    rcases K4 h with⟨i,t,rfl,rfl⟩ | ⟨x,t,rfl,rfl⟩<;>rfl
  pyHash:=fun hv h=>by
    rcases K4 hv with⟨i,t,rfl,rfl⟩ | ⟨x,t,rfl,rfl⟩
    · exact wpAny_pyHash_int h
    · exact wpAny_pyHash_str h
  eqBool:=fun hu hv h=>by
    rcases K4 hu with⟨i,t,rfl,rfl⟩ | ⟨x,t,rfl,rfl⟩
    · rcases K4 hv with⟨j,u,rfl,rfl⟩ | ⟨y,u,rfl,rfl⟩
      · rw[bY5]at h;exact wpAny_eqBool_int h
      · rw[bY4]at h;exact SeqAt.EqAt.int_str i t y u _ _ _ _ h
    · rcases K4 hv with⟨j,u,rfl,rfl⟩ | ⟨y,u,rfl,rfl⟩
      · rw[bY3]at h;exact SeqAt.EqAt.str_int x t j u _ _ _ _ h
      · rw[bY2]at h;exact wpAny_eqBool_str h
  «strs»:=fun k x t v h=>by
    rcases K4 h with⟨i,u,rfl,e⟩ | ⟨y,u,rfl,e⟩
    · exact nomatch e
    · injection e with e1 _
      subst e1
      cases v<;>rfl
theorem aT6 (prog:Program)(w:World)(i:Int)(t:Tok):(N5 prog w).is (.inl i) (.int i t)=true:=bq6 i t
theorem aT5 (prog:Program)(w:World)(x:Str)(t:Tok):(N5 prog w).is (.inr x) (.str x t)=true:=bq5 x t
inductive V where
 | non | bl (b:Bool) | int (i:Int) | str (x:Str) | byt (b:Array UInt8) | flt (b:UInt64) | ref (a:Addr) | ty (n:String)
 deriving DecidableEq
def RelV:V->Value->Prop
 | .non,u=>u=Value.none
 | .bl b,u=>u=Value.bool b
 | .int i,u=>∃ t,u=Value.int i t
 | .str x,u=>∃ t,u=Value.str x t
 | .byt b,u=>∃ t,u=Value.bytes b t
 | .flt b,u=>∃ t,u=Value.float b t
 | .ref a,u=>u=Value.ref a
 | .ty n,u=>u=Value.type n
abbrev C3:List V->List Value->Prop:=Z8 RelV
theorem C3.length {xs:List V}(r:C3 xs us):xs.length=us.length:=Paired.length r
theorem C3.get:∀ {xs:List V} {us:List Value} {i:Nat} {x:V},C3 xs us->xs[i]?=some x->∃ u,us[i]?=some u/\RelV x u
 | _,_,_,_,.nil,e=>by simp at e
 | _,_,0,_,.cons r _,e=>by simp at e;subst e;exact⟨_,rfl,r⟩
 | _,_,i+1,x,.cons _ t,e=>by
  obtain⟨u,h1,h2⟩:=C3.get (i:=i) (x:=x) t (by simpa using e)
  exact⟨u,by simpa using h1,h2⟩
theorem C3.set {x:V}(r:RelV x u):∀ {xs:List V} {us:List Value} (i:Nat),C3 xs us->C3 (xs.set i x) (us.set i u)
 | _,_,_,.nil=>.nil
 | _,_,0,.cons _ t=>.cons r t
 | _,_,i+1,.cons q t=>.cons q (C3.set r i t)
theorem C3.append:∀ {xs ys:List V} {us ws:List Value},C3 xs us->C3 ys ws->C3 (xs++ys) (us++ws)
 | _,_,_,_,.nil,s=>s
 | _,_,_,_,.cons r t,s=>.cons r (C3.append t s)
theorem C3.take:∀ {xs:List V} {us:List Value} (n:Nat),C3 xs us->C3 (xs.take n) (us.take n)
 | _,_,0,_=>.nil
 | _,_,_+1,.nil=>.nil
 | _,_,n+1,.cons r t=>.cons r (C3.take n t)
theorem C3.drop:∀ {xs:List V} {us:List Value} (n:Nat),C3 xs us->C3 (xs.drop n) (us.drop n)
 | _,_,0,r=>r
 | _,_,_+1,.nil=>.nil
 | _,_,n+1,.cons _ t=>C3.drop n t
def aF2:Option V->Option Value->Prop
 | some v,some u=>RelV v u
 | none,none=>True
 | _,_=>False
def KV {κ:Type}:List (κ × V)->List (κ × Value)->Prop:=Z8 fun(p:κ × V) (q:κ × Value)=>p.1=q.1/\RelV p.2 q.2
def kV:Key->V
 | .inl i=>.int i
 | .inr x=>.str x
inductive HO where
  | lst (xs:List V)
  | tup (xs:List V)
  | dK (kvs:List (Key × V)) | dT (kvs:List (List Key × V))
  | set (S:Int->Bool) (n:Nat)
  | ins (C dx:Addr) (fs:List (Str × V))
  | own (x:Addr)
  | xd (fs:List (Str × V))
  | met (f x:Addr)
  | rng (lo hi:Int)
  | frz (o:Obj) (u:HO)
  | tbl (ps:Array Value)
  | ext (φ:Heap->Prop)
abbrev Hp:=Addr->Option HO
def upd (H:Hp)(a:Addr)(o:HO):Hp:=fun b=>if b=a then some o else H b
theorem b7 {H:Hp}{o:HO}:upd H a o a=some o:=by unfold upd;rw[if_pos rfl]
theorem p6 {H:Hp}{b:Addr}{o:HO}(h:b≠a):upd H a o b=H b:=by unfold upd;rw[if_neg h]
theorem bf3 {H:Hp}{o u:HO}:upd (upd H a o) a u=upd H a u:=by
 funext b;unfold upd;split<;>rfl
theorem bz2 {H:Hp}{b:Addr}{o u:HO}(h:H a=some o)(h':H b=some u)(d:o≠u):a≠b:=by
 intro e;subst e;rw[h]at h';exact d (Option.some.inj h')
theorem t4 {H:Hp}{b:Addr}{o:HO}(h:H a=some o)(h':H b=none):a≠b:=by
 intro e;subst e;rw[h]at h';cases h'
section
variable (P:Program) (w:World)
def L9 (H:Hp)(h:Heap)(a:Addr):HO->Prop
 | .lst xs=>xs.length<=f6/\∃ (its:List Value) (n:Nat),C3 xs its/\h.get? a=some { cls:=.type "list",data:=.seq its.toArray n }
 | .tup xs=>xs.length<=f6/\∃ its:List Value,C3 xs its/\IsTup h a its.toArray
 | .dK kvs=>kvs.length<=f6/\(a == V2)=false/\∃ vs,KV kvs vs/\h.DictOf (N5 P w) a vs
 | .dT kvs=>kvs.length<=f6/\(a == V2)=false/\∃ xs:List (List Key × Addr × Value),
   Z8 (fun(p:List Key × V) (q:List Key × Addr × Value)=>p.1=q.1/\H q.2.1=some (.tup (p.1.map kV))/\RelV p.2 q.2.2) kvs xs /\
   ∃ o es ep,h.get? a=some o/\o.ExactDict/\o.data=.dict es ep/\es.toList=xs.map (entryOfKey (bm6 (N5 P w)))/\(xs.map (·.1)).Nodup
 | .set S n=>h.SetOf (A1 P w) a S n
 | .ins C dx fs=>H dx=some (.own a)/\fs.length<=1000/\dx≠a/\h.get? a=some (PySem.W.instObj C dx) /\
   ∃ mA,h.Ns1 dx mA/\(∀ f,aF2 (fs.lookup f) (mA f))/\PySem.Within mA (fs.map (·.1))
 | .own _=>∃ o,h.get? a=some o
 | .xd fs=>∃ mA,h.Ns1 a mA/\∀ f,aF2 (fs.lookup f) (mA f)
 | .rng lo hi=>∃ t u v,h.get? a=some { cls:=.type "range",data:=.fields #[.int lo t,.int hi u,.int 1 v] }
 | .frz o u=>h.get? a=some o/\L9 H h a u
 | .tbl ps=>h.get? a=some { cls:=.none,data:=.fields ps }
 | .met f x=>h.get? a=some (PySem.W.methodObj (.ref f) (.ref x))
 | .ext φ=>φ h/\(∃ o,h.get? a=some o)/\∀ h1 h2:Heap,φ h1->(∀ o,h1.get? a=some o->h2.get? a=some o)->φ h2
def HOk (H:Hp)(h:Heap):Prop:=∀ a o,H a=some o->L9 P w H h a o
end
section
variable {H H':Hp} {o:HO}
theorem L9.lt (x:L9 P w H h a o):a<h.objs.size:=by
 cases o with
 | lst xs=>obtain⟨_,_,_,_,e⟩:=x;exact j4 e
 | tup xs=>obtain⟨_,_,_,p⟩:=x;exact p.lt
 | dK kvs=>obtain⟨_,_,_,_,o,_,_,e,_⟩:=x;exact j4 e
 | dT kvs=>obtain⟨_,_,_,_,o,_,_,e,_⟩:=x;exact j4 e
 | set S n=>obtain⟨o,_,_,_,e,_⟩:=x;exact j4 e
 | ins C dx fs=>obtain⟨_,_,_,e,_⟩:=x;exact j4 e
 | own y=>obtain⟨_,e⟩:=x;exact j4 e
 | xd fs=>obtain⟨_,⟨_,_,_,e,_⟩,_⟩:=x;exact j4 e
 | rng lo hi=>obtain⟨_,_,_,e⟩:=x;exact j4 e
 | frz ob u=>obtain⟨e,_⟩:=x;exact j4 e
 | tbl ps=>exact j4 (show h.get? a=some _ from x)
 | met f y=>exact j4 (show h.get? a=some _ from x)
 | ext φ=>obtain⟨_,⟨_,e⟩,_⟩:=x;exact j4 e
theorem Paired.mapP {α β:Type}{F G:α->β->Prop}:∀ {l₁:List α} {l₂:List β},Z8 F l₁ l₂->(∀ a b,F a b->G a b)->Z8 G l₁ l₂
 | _,_,.nil,_=>.nil
 | _,_,.cons r t,f=>.cons (f _ _ r) (Paired.mapP t f)
theorem L9.stay (x:L9 P w H h a o)(k:∀ b u,(b=a\/H b=some (.own a))->h.get? b=some u->h'.get? b=some u)
  (ho:∀ b,H b=some (.own a)->H' b=some (.own a))(ht:∀ b xs,H b=some (.tup xs)->H' b=some (.tup xs)):L9 P w H' h' a o:=by
 induction o with
 | lst xs=>obtain⟨z,its,n,r,e⟩:=x;exact⟨z,its,n,r,k _ _ (.inl rfl) e⟩
 | tup xs=>obtain⟨z,its,r,ob,e,c⟩:=x;exact⟨z,its,r,ob,k _ _ (.inl rfl) e,c⟩
 | dK kvs=>obtain⟨z,y,vs,r,ob,es,ep,e,c⟩:=x;exact⟨z,y,vs,r,ob,es,ep,k _ _ (.inl rfl) e,c⟩
 | dT kvs =>
  obtain⟨z,y,xs,r,ob,es,ep,e,c⟩:=x
  exact⟨z,y,xs,Paired.mapP r fun p q z=>⟨z.1,ht _ _ z.2.1,z.2.2⟩,ob,es,ep,k _ _ (.inl rfl) e,c⟩
 | set S n=>obtain⟨ob,es,ep,t,e,c⟩:=x;exact⟨ob,es,ep,t,k _ _ (.inl rfl) e,c⟩
 | ins C dx fs =>
  obtain⟨d,z,ne,e,mA,⟨od,es,ep,e2,c⟩,r⟩:=x
  exact⟨ho _ d,z,ne,k _ _ (.inl rfl) e,mA,⟨od,es,ep,k _ _ (.inr d) e2,c⟩,r⟩
 | own y=>obtain⟨ob,e⟩:=x;exact⟨ob,k _ _ (.inl rfl) e⟩
 | xd fs=>obtain⟨mA,⟨od,es,ep,e,c⟩,r⟩:=x;exact⟨mA,⟨od,es,ep,k _ _ (.inl rfl) e,c⟩,r⟩
 | rng lo hi=>obtain⟨t,u,v,e⟩:=x;exact⟨t,u,v,k _ _ (.inl rfl) e⟩
 | frz ob u ih=>obtain⟨e,q⟩:=x;exact⟨k _ _ (.inl rfl) e,ih q⟩
 | tbl ps =>
  have e:h.get? a=some { cls:=.none,data:=.fields ps }:=x
  show h'.get? a=some { cls:=.none,data:=.fields ps }
  exact k a _ (.inl rfl) e
 | met f y =>
  have e:h.get? a=some (PySem.W.methodObj (.ref f) (.ref y)):=x
  show h'.get? a=some (PySem.W.methodObj (.ref f) (.ref y))
  exact k a _ (.inl rfl) e
 | ext φ=>obtain⟨p,⟨o,e⟩,st⟩:=x;exact⟨st _ _ p fun o q=>k _ _ (.inl rfl) q,⟨o,k _ _ (.inl rfl) e⟩,st⟩
theorem HOk.lt (x:HOk P w H h)(e:H a=some o):a<h.objs.size:=(x a o e).lt
theorem HOk.fresh (x:HOk P w H h)(e:h.objs.size<=a):H a=none:=by
 cases q:H a with
 | none=>rfl
 | some u=>exact absurd (p5 (x.lt q) e) (G5 _)
theorem HOk.kept (x:HOk P w H h)(k:∀ b u,h.get? b=some u->h'.get? b=some u):HOk P w H h':=fun a o e =>
 (x a o e).stay (fun b u _ q=>k b u q) (fun _ q=>q) fun _ _ q=>q
theorem HOk.laid (x:HOk P w H h)(k:∀ b u,h.get? b=some u->h'.get? b=some u)(hp:h.objs.size<=a)(new:L9 P w (upd H a o) h' a o):HOk P w (upd H a o) h':=fun b u e=>by
 have hn:=x.fresh hp
 by_cases hb:b=a
 ·subst hb;rw[b7]at e;cases e;exact new
 ·rw[p6 hb]at e
  exact(x b u e).stay (fun c v _ q=>k c v q) (fun c q=>by rw[p6 (t4 q hn)];exact q) fun c xs q=>by rw[p6 (t4 q hn)];exact q
end
def Rd (H:Hp)(a:Addr)(u:HO):Prop:=H a=some u\/∃ o,H a=some (.frz o u)
theorem Rd.ok {H:Hp}{u:HO}(r:Rd H a u)(x:HOk P w H h):L9 P w H h a u:=by
 rcases r with r | ⟨o,r⟩
 ·exact x a u r
 ·obtain⟨_,q⟩:=x a _ r
  exact q
def Mut:Option HO->Prop
 | some (.lst _)=>True
 | some (.dK _)=>True
 | some (.dT _)=>True
 | some (.set _ _)=>True
 | some (.ins _ _ _)=>True
 | some (.ext _)=>True
 | _=>False
section
variable {H:Hp} {x e:Addr} {o':HO}
theorem HOk.write (ok:HOk P w H h)(mu:Mut (H x))(he:e=x\/H e=some (.own x))(k:∀ b u,b≠e->h.get? b=some u->h'.get? b=some u)(heo:∃ u,h'.get? e=some u)
  (new:L9 P w (upd H x o') h' x o'):HOk P w (upd H x o') h':=fun b u q=>by
 have nown:∀ c y,H c=some (.own y)->c≠x:=fun c y r z=>by subst z;rw[r]at mu;exact mu
 have ntup:∀ c xs,H c=some (.tup xs)->c≠x:=fun c xs r z=>by subst z;rw[r]at mu;exact mu
 by_cases hb:b=x
 ·subst hb;rw[b7]at q;cases q;exact new
 ·rw[p6 hb]at q
  by_cases hbe:b=e
  ·have q':H b=some (.own x):=by
    rcases he with z | z
    ·exact absurd (hbe.trans z) hb
    ·rw[hbe];exact z
   rw[q]at q';cases q'
   obtain⟨v,hv⟩:=heo
   exact⟨v,by rw[hbe];exact hv⟩
  ·refine(ok b u q).stay (fun c v hc r=>k c v ?_ r) (fun c r=>by rw[p6 (nown c b r)];exact r) fun c xs r=>by rw[p6 (ntup c xs r)];exact r
   rcases hc with rfl | hc
   ·exact hbe
   ·rintro rfl
    rcases he with z | z
    ·exact nown c b hc z
    ·rw[hc]at z;cases z;exact hb rfl
end
structure Un (fs ex:List Addr) (H H':Hp) (h h':Heap):Prop where
 keep:∀ b o,h.get? b=some o->H b=none->b∉fs->b∉ex->h'.get? b=some o
 slot:∀ b o,h.get? b=some o->H b=none->b∈fs->b∉ex->∃ sl,h'.get? b=some { o with slots:=sl }
 free:∀ b o,h.get? b=some o->H b=none->b∉ex->H' b=none
 there:∀ b o,h.get? b=some o->b∉ex->∃ o',h'.get? b=some o'
 tups:∀ b xs,H b=some (.tup xs)->H' b=some (.tup xs)
 frzs:∀ b o u,H b=some (.frz o u)->H' b=some (.frz o u)
 tbls:∀ b ps,H b=some (.tbl ps)->∃ more,H' b=some (.tbl (ps++more))
section
variable {fs fs' ex ex':List Addr} {H H1 H2:Hp} {h1 h2:Heap} {x e:Addr} {o:HO}
theorem Un.any (u:Un fs ex H H1 h h1){b:Addr}{ob:Obj}(q:h.get? b=some ob)(n:H b=none)(hx:b∉ex):∃ sl,h1.get? b=some { ob with slots:=sl }:=by
 by_cases hb:b∈fs
 ·exact u.slot b ob q n hb hx
 ·exact⟨ob.slots,u.keep b ob q n hb hx⟩
theorem Un.kept (k:∀ b u,h.get? b=some u->h'.get? b=some u):Un fs ex H H h h':=
 ⟨fun b ob q _ _ _=>k b ob q,fun b ob q _ _ _=>⟨ob.slots,k b ob q⟩,fun _ _ _ n _=>n,fun b ob q _=>⟨ob,k b ob q⟩,fun _ _ q=>q,fun _ _ _ q=>q,fun _ ps q=>⟨#[],by rw[q];simp⟩⟩
theorem Un.refl:Un fs ex H H h h:=Un.kept fun _ _ q=>q
theorem Un.laid (k:∀ b u,h.get? b=some u->h'.get? b=some u)(hp:h.objs.size<=a)(hn:H a=none):Un fs ex H (upd H a o) h h' where
 keep:=fun b u q _ _ _=>k b u q
 slot:=fun b u q _ _ _=>⟨u.slots,k b u q⟩
 free:=fun b u q n _=>by rw[p6 (m8 (p5 (j4 q) hp))];exact n
 there:=fun b u q _=>⟨u,k b u q⟩
 tups:=fun b xs q=>by rw[p6 (t4 q hn)];exact q
 frzs:=fun b u xs q=>by rw[p6 (t4 q hn)];exact q
 tbls:=fun b ps q=>⟨#[],by rw[p6 (t4 q hn),q];simp⟩
theorem Un.write (mu:Mut (H x))(he:e=x\/H e=some (.own x))(k:∀ b u,b≠e->h.get? b=some u->h'.get? b=some u)(heo:∃ u,h'.get? e=some u):Un fs ex H (upd H x o) h h':=by
 have hx:∀ b,H b=none->b≠x:=fun b n z=>by subst z;rw[n]at mu;exact mu
 have hb:∀ b,H b=none->b≠e:=fun b n z=>by
  subst z
  rcases he with r | r
  ·exact hx b n r
  ·rw[n]at r;cases r
 have hm:∀ b u,H b=some u->¬ Mut (some u)->b≠x:=fun b u q nm z=>by subst z;rw[q]at mu;exact nm mu
 refine⟨fun b u q n _ _=>k b u (hb b n) q,fun b u q n _ _=>⟨u.slots,k b u (hb b n) q⟩,fun b u q n _=>by rw[p6 (hx b n)];exact n,fun b u q _=>?_,
  fun b xs q=>by rw[p6 (hm b _ q fun z=>z)];exact q,fun b u xs q=>by rw[p6 (hm b _ q fun z=>z)];exact q,fun b ps q=>⟨#[],by rw[p6 (hm b _ q fun z=>z),q];simp⟩⟩
 by_cases hbe:b=e
 ·subst hbe;exact heo
 ·exact⟨u,k b u hbe q⟩
end
def trk (h:Heap)(H:Hp):List Addr:=(n8 h.objs.size).filter fun a=>(H a).isSome
def aE9 (h:Heap)(H:Hp):Heap:=PySem.W.hideAll h (trk h H)
theorem br0 (h:Heap)(H:Hp):(aE9 h H).objs.size=h.objs.size:=PySem.W.hideAll_size _ _
theorem bB3 {H:Hp}{b:Addr}{o:Obj}(e:h.get? b=some o)(n:H b=none):(aE9 h H).get? b=some o:=
 PySem.W.hideAll_get _ e fun hm=>by
  have q:(H b).isSome=true:=(u4.mp hm).2
  rw[n]at q;simp at q
theorem bK9 {H:Hp}{b:Addr}{o:Obj}(e:(aE9 h H).get? b=some o):h.get? b=some o/\H b=none:=by
 have e':h.get? b=some o:=PySem.W.of_hideAll (trk h H) e
 refine⟨e',?_⟩
 cases q:H b with
 | none=>rfl
 | some x =>
  have hm:b∈trk h H:=u4.mpr ⟨u6.mpr (j4 e'),by simp[q]⟩
  have z:(aE9 h H).get? b=none:=PySem.W.hideAll_none (trk h H) hm
  rw[z]at e;cases e
def bN4 (g h:Heap)(L:Addr):List (Addr × Obj):=(n8 h.objs.size).filterMap fun a=>if a=L\/(g.get? a).isSome=true then none else (h.get? a).map fun o=>(a,o)
def rest (g h:Heap)(L d:Addr):List (Addr × Obj):=(bN4 g h L).filter fun p=>decide (p.1≠d)
end L2
variable {H H':L2.Hp}{gV:List L2.V->List L2.V->List L2.V}{kvs:List (List L2.Key × L2.V)}{xs ys:List L2.V}
namespace L2
open PySem PySem.Spec PyProof.Rows
structure Mod (K:W.Frag) (mg:Str->Option Value) (base:Heap):Prop where
 kin:K.In base
 glob:base.Ns d4 mg
 blt:∃ mb,base.Ns aP3 mb/\∀ x:Str,x≠"__name__"->mb x=R1 x
 nolimit:base.NoLimit
structure Cx where
 prog:Program
 w:World
 K:W.Frag
 mg:Str->Option Value
 base:Heap
 A:Around
 N:List Str
 s₀:Shared
 H₀:Hp
 env:Env
 outer:List Env
 stack:List Env
 ex:List Addr
 fn:Str->Bool
 calm:Bool
 pn:List (Addr × Obj)
 xe:Value->Shared->Prop
def frs (l:List Env):List Addr:=l.filterMap (·.frame)
abbrev Cx.fs (X:Cx):List Addr:=frs X.outer
def Vis (sc:Scope)(x:Str):Prop:=sc.names.lookup x=some .local\/sc.names.lookup x=some .cell\/sc.names.lookup x=some .free
def Loc (sc:Scope)(x:Str):Prop:=sc.names.lookup x=some .local\/sc.names.lookup x=some .cell
def Look (env:Env)(h:Heap)(m:Str->Option Value)(x:Str)(u:Value):Prop:=
 (env.kindOf x=some .local/\m x=some u)\/((env.kindOf x=some .cell\/env.kindOf x=some .free)/\∃ c,env.cells.lookup x=some c/\h.IsCell c (some u))
structure Cx.Ok (X:Cx):Prop where
 mod:Mod X.K X.mg X.base
 kind:X.env.scope.kind=.function
 glob:X.env.globals=d4
 blt:X.env.builtins=aP3
 above:X.s₀.heap.objs.size<=X.env.locals
 inj:∀ x y c,X.env.cells.lookup x=some c->X.env.cells.lookup y=some c->x=y
 has:∀ x,(X.env.kindOf x=some .cell\/X.env.kindOf x=some .free)->∃ c,X.env.cells.lookup x=some c
 cab:∀ x c,X.fn x=true->X.env.cells.lookup x=some c->X.s₀.heap.objs.size<=c
 hd:X.calm=true->X.A.handled=none
 frames:X.A.frames=some X.stack
 stk:X.stack=X.outer\/(X.stack=X.env::X.outer/\X.env.frame=some X.env.locals)
 exf:∀ b∈X.ex,b≠X.env.locals/\∀ x c,X.env.cells.lookup x=some c->c≠b
 bs:∀ b o,X.base.get? b=some o->X.s₀.heap.get? b=some o/\X.H₀ b=none
 bsz:X.base.objs.size<=X.s₀.heap.objs.size
 noex:∀ b o,X.base.get? b=some o->b∉X.ex
 exfs:∀ b∈X.ex,b∉X.fs
 funs:X.s₀.heap.FunFrames X.base X.outer
 frf:∀ b∈X.fs,X.H₀ b=none
structure Inv (X:Cx) (pins:List (Addr × Obj)) (σ:List (Option V)) (H:Hp) (s:Shared):Prop where
 ok:X.Ok
 os:s.os=X.s₀.os
 bare:au1 s.gens
 base:Un X.fs X.ex X.H₀ H X.s₀.heap s.heap
 loc:∃ m,s.heap.Ns X.env.locals m/\∀ (i:Nat) (x:Str) (v:V),X.N[i]?=some x->σ[i]?=some (some v)->Vis X.env.scope x->∃ u,RelV v u/\Look X.env s.heap m x u
 cell:∀ x c,X.env.cells.lookup x=some c->∃ v,s.heap.IsCell c v
 free:H X.env.locals=none
 freeC:∀ x c,X.env.cells.lookup x=some c->H c=none
 pin:∀ p∈X.pn++pins,s.heap.get? p.1=some p.2/\H p.1=none/\p.1≠X.env.locals/\p.1∉X.fs/\∀ v,p.2.data≠.cell v
 hok:HOk X.prog X.w H s.heap
 len:σ.length=X.N.length
section
variable {X:Cx} {σ:List (Option V)}
theorem Cx.Ok.nofr (ok:X.Ok){b:Addr}{o:Obj}(e:X.base.get? b=some o):b∉X.fs:=fun hb=>by
 have:=(ok.funs.mem hb).1
 rw[e]at this;cases this
theorem Inv.bs (I:Inv X pins σ H s):∀ b o,X.base.get? b=some o->s.heap.get? b=some o/\H b=none:=fun b o e =>
 ⟨I.base.keep b o (I.ok.bs b o e).1 (I.ok.bs b o e).2 (I.ok.nofr e) (I.ok.noex b o e),I.base.free b o (I.ok.bs b o e).1 (I.ok.bs b o e).2 (I.ok.noex b o e)⟩
theorem Inv.bk (I:Inv X pins σ H s):∀ b o,X.base.get? b=some o->s.heap.get? b=some o:=fun b o e=>(I.bs b o e).1
theorem Inv.mod (I:Inv X pins σ H s):Mod X.K X.mg X.base:=I.ok.mod
theorem Inv.kIn (I:Inv X pins σ H s):X.K.In s.heap:=I.ok.mod.kin.keeps I.bk
theorem Inv.nolimit (I:Inv X pins σ H s):s.heap.NoLimit:=I.ok.mod.nolimit.keeps I.bk
theorem Inv.lt (I:Inv X pins σ H s):X.env.locals<s.heap.objs.size:=let ⟨_,hn,_⟩:=I.loc;hn.lt
theorem Inv.sz (I:Inv X pins σ H s):X.s₀.heap.objs.size<=s.heap.objs.size:=p8 I.ok.above (ap0 I.lt)
theorem Inv.nofs (I:Inv X pins σ H s)(h:s.heap.objs.size<=a):a∉X.fs:=fun hb=>by
 obtain⟨_,o,ho,_⟩:=I.ok.funs.mem hb
 exact absurd (p5 (j4 ho) (p8 I.sz h)) (G5 _)
theorem Inv.cne (I:Inv X pins σ H s):∀ x c,X.env.cells.lookup x=some c->c≠X.env.locals:=fun x c e z=>by
 obtain⟨v,o,ho,hd⟩:=I.cell x c e
 obtain⟨m,⟨o',es,ep,ho',hd',_⟩,_⟩:=I.loc
 rw[z,ho']at ho;cases ho;rw[hd']at hd;cases hd
theorem Inv.funs (I:Inv X pins σ H s):s.heap.FunFrames X.base X.outer:=by
 have all:∀ (l:List Env),(∀ b∈frs l,b∈X.fs)->X.s₀.heap.FunFrames X.base l->s.heap.FunFrames X.base l:=by
  intro l
  induction l with
  | nil=>intro _ _;trivial
  | cons env r ih =>
   intro hs hl
   obtain⟨hk,⟨L,o,hf,hn,ho,hd⟩,hr⟩:=hl
   have hL:L∈X.fs:=hs L (by unfold frs;rw[ab8,hf];exact b9)
   obtain⟨sl,e⟩:=I.base.slot L o ho (I.ok.frf L hL) hL fun z=>I.ok.exfs L z hL
   exact⟨hk,⟨L,_,hf,hn,e,hd⟩,ih (fun b hb=>hs b (by unfold frs;rw[ab8,hf];exact b8 _ hb)) hr⟩
 exact all X.outer (fun _ hb=>hb) I.ok.funs
theorem Inv.stack (I:Inv X pins σ H s):s.heap.FunFrames X.base X.stack:=by
 rcases I.ok.stk with e | ⟨e,hf⟩
 ·rw[e];exact I.funs
 ·rw[e]
  obtain⟨m,hn,_⟩:=I.loc
  refine .cons (by rw[I.ok.kind];decide) hf hn ?_ I.funs
  exact as5 (p8 I.ok.bsz I.ok.above)
theorem Inv.stkSub (I:Inv X pins σ H s):∀ b∈frs X.stack,b∈X.env.locals::X.fs:=fun b hb=>by
 rcases I.ok.stk with e | ⟨e,hf⟩
 ·rw[e]at hb;exact b8 _ hb
 ·rw[e]at hb
  unfold frs at hb
  rw[ab8,hf]at hb
  exact hb
theorem Inv.stkFree (I:Inv X pins σ H s):∀ b∈frs X.stack,H b=none:=fun b hb=>by
 rcases d3.mp (I.stkSub b hb) with e | hb
 ·rw[e];exact I.free
 ·obtain⟨_,o,ho,_⟩:=I.ok.funs.mem hb
  exact I.base.free b o ho (I.ok.frf b hb) fun z=>I.ok.exfs b z hb
theorem Inv.step {g':Array bG4}{d':Drawn}{ch:List Addr}(I:Inv X pins σ H s)
  (hch:∀ b∈ch,(b∈X.ex\/X.s₀.heap.objs.size<=b)/\b≠X.env.locals/\(∀ x c,X.env.cells.lookup x=some c->c≠b)/\∀ p∈X.pn++pins,p.1≠b)
  (keep:∀ b o,b≠X.env.locals->b∉X.fs->b∉ch->s.heap.get? b=some o->H b=none->h'.get? b=some o)
  (slot:∀ b o,b≠X.env.locals->b∈X.fs->b∉ch->s.heap.get? b=some o->H b=none->∃ sl,h'.get? b=some { o with slots:=sl })(free:∀ b o,b∉ch->s.heap.get? b=some o->H b=none->H' b=none)
  (there:∀ b o,b∉ch->s.heap.get? b=some o->∃ o',h'.get? b=some o')
  (tups:∀ b xs,H b=some (.tup xs)->H' b=some (.tup xs))(frzs:∀ b o u,H b=some (.frz o u)->H' b=some (.frz o u))(tbls:∀ b ps,H b=some (.tbl ps)->∃ more,H' b=some (.tbl (ps++more)))
  (ns:∀ m,s.heap.Ns X.env.locals m->h'.Ns X.env.locals m)(hok:HOk X.prog X.w H' h')(hg:au1 g') :
  Inv X pins σ H' { s with heap:=h',gens:=g',drawn:=d',toks:=t' }:=by
 have neL:∀ b o,X.s₀.heap.get? b=some o->b≠X.env.locals:=fun b o e=>m8 (p5 (j4 e) I.ok.above)
 have neC:∀ b o,X.s₀.heap.get? b=some o->b∉X.ex->b∉ch:=fun b o e hx hb=>by
  rcases(hch b hb).1 with z | z
  ·exact hx z
  ·exact absurd (p5 (j4 e) z) (G5 _)
 have cellK:∀ x c,X.env.cells.lookup x=some c->∀ v,s.heap.IsCell c v->h'.IsCell c v:=fun x c e v ⟨o,ho,hd⟩=>by
  have nch:c∉ch:=fun z=>(hch c z).2.2.1 x c e rfl
  by_cases hc:c∈X.fs
  ·obtain⟨sl,q⟩:=slot c o (I.cne x c e) hc nch ho (I.freeC x c e)
   exact⟨_,q,hd⟩
  ·exact⟨o,keep c o (I.cne x c e) hc nch ho (I.freeC x c e),hd⟩
 refine⟨I.ok,I.os,hg,⟨fun b o e n hb hx=>?_,fun b o e n hb hx=>?_,fun b o e n hx=>?_,fun b o e hx=>?_,fun b xs e=>tups b xs (I.base.tups b xs e),fun b o xs e=>frzs b o xs (I.base.frzs b o xs e),fun b ps e=>?_⟩,?_,fun x c e=>?_,?_,fun x c e=>?_,fun p hp=>?_,hok,I.len⟩
 ·exact keep b o (neL b o e) hb (neC b o e hx) (I.base.keep b o e n hb hx) (I.base.free b o e n hx)
 ·obtain⟨sl,e1⟩:=I.base.slot b o e n hb hx
  obtain⟨sl',e2⟩:=slot b _ (neL b o e) hb (neC b o e hx) e1 (I.base.free b o e n hx)
  exact⟨sl',e2⟩
 ·obtain⟨o',e1⟩:=I.base.there b o e hx
  exact free b o' (neC b o e hx) e1 (I.base.free b o e n hx)
 ·obtain⟨o',e1⟩:=I.base.there b o e hx
  exact there b o' (neC b o e hx) e1
 ·obtain⟨m1,e1⟩:=I.base.tbls b ps e
  obtain⟨m2,e2⟩:=tbls b _ e1
  exact⟨m1++m2,by rw[e2,bN9]⟩
 ·obtain⟨m,hn,hl⟩:=I.loc
  refine⟨m,ns m hn,fun i x v e1 e2 e3=>?_⟩
  obtain⟨u,r,l⟩:=hl i x v e1 e2 e3
  refine⟨u,r,?_⟩
  rcases l with l | ⟨k,c,e,z⟩
  ·exact .inl l
  ·exact .inr ⟨k,c,e,cellK x c e _ z⟩
 ·obtain⟨v,z⟩:=I.cell x c e
  exact⟨v,cellK x c e v z⟩
 ·obtain⟨m,⟨o,_,_,ho,_⟩,_⟩:=I.loc
  exact free _ o (fun z=>(hch _ z).2.1 rfl) ho I.free
 ·obtain⟨v,o,ho,hd⟩:=I.cell x c e
  exact free c o (fun z=>(hch c z).2.2.1 x c e rfl) ho (I.freeC x c e)
 ·obtain⟨e,n,ne,nf,d⟩:=I.pin p hp
  have nch:p.1∉ch:=fun z=>(hch p.1 z).2.2.2 p hp rfl
  exact⟨keep p.1 p.2 ne nf nch e n,free p.1 p.2 nch e n,ne,nf,d⟩
theorem Inv.un (I:Inv X pins σ H s)(u:Un X.fs [] H H' s.heap h')(hok:HOk X.prog X.w H' h'):Inv X pins σ H' { s with heap:=h',toks:=t' }:=by
 obtain⟨m,⟨o,es,ep,ho,r⟩,_⟩:=id I.loc
 obtain⟨sl,hL⟩:=u.any ho I.free (by simp)
 exact I.step (g':=s.gens) (d':=s.drawn) (ch:=[]) (fun _ z=>nomatch z) (fun b o _ hb _ e n=>u.keep b o e n hb (by simp)) (fun b o _ hb _ e n=>u.slot b o e n hb (by simp)) (fun b o _ e n=>u.free b o e n (by simp)) (fun b o _ e=>u.there b o e (by simp)) u.tups u.frzs u.tbls (fun m' hm=>by
  obtain⟨o',es',ep',ho',r'⟩:=hm
  rw[ho]at ho';cases ho'
  exact⟨_,es',ep',hL,r'⟩) hok I.bare
theorem Inv.call {g':Array bG4}{d':Drawn}{ch:List Addr}(I:Inv X pins σ H s)(u:Un (frs X.stack) ch H H' s.heap h')(hok:HOk X.prog X.w H' h')(hg:au1 g')
  (hch:∀ b∈ch,(b∈X.ex\/X.s₀.heap.objs.size<=b)/\b≠X.env.locals/\(∀ x c,X.env.cells.lookup x=some c->c≠b)/\∀ p∈X.pn++pins,p.1≠b) :
  Inv X pins σ H' { s with heap:=h',gens:=g',drawn:=d',toks:=t' }:=by
 obtain⟨m,⟨o,es,ep,ho,r⟩,_⟩:=id I.loc
 obtain⟨sl,hL⟩:=u.any ho I.free fun z=>(hch _ z).2.1 rfl
 exact I.step (ch:=ch) hch (fun b o hL hb hc e n=>u.keep b o e n (fun z=>(d3.mp (I.stkSub b z)).elim hL hb) hc) (fun b o _ _ hc e n=>u.any e n hc) (fun b o hc e n=>u.free b o e n hc) (fun b o hc e=>u.there b o e hc) u.tups u.frzs u.tbls (fun m' hm=>by
  obtain⟨o',es',ep',ho',r'⟩:=hm
  rw[ho]at ho';cases ho'
  exact⟨_,es',ep',hL,r'⟩) hok hg
theorem Inv.turned {it:Addr}(I:Inv X pins σ H s)(k:∀ b o,b≠it->s.heap.get? b=some o->h'.get? b=some o)(hn:H it=none)(hL:it≠X.env.locals)
  (h1:it∈X.ex\/X.s₀.heap.objs.size<=it)(h2:∀ x c,X.env.cells.lookup x=some c->c≠it)(h3:∀ p∈X.pn++pins,p.1≠it):Inv X pins σ H { s with heap:=h',toks:=t' }:=by
 have nit:∀ b u,H b=some u->b≠it:=fun b u e z=>by rw[z,hn]at e;cases e
 refine I.step (g':=s.gens) (d':=s.drawn) (ch:=[it]) (fun b hb=>?_) (fun b o _ _ hc e _=>k b o (fun z=>hc (by simp[z])) e) (fun b o _ _ hc e _=>⟨o.slots,k b o (fun z=>hc (by simp[z])) e⟩) (fun _ _ _ _ n=>n)
  (fun b o hc e=>⟨o,k b o (fun z=>hc (by simp[z])) e⟩) (fun _ _ e=>e) (fun _ _ _ e=>e) (fun b ps e=>⟨#[],by rw[e];simp⟩) (fun m hm=>?_) (fun b u e=>?_) I.bare
 ·have e:b=it:=by simpa using hb
  subst e
  exact⟨h1,hL,h2,h3⟩
 ·obtain⟨o,es,ep,ho,r⟩:=hm
  exact⟨o,es,ep,k _ o (Ne.symm hL) ho,r⟩
 ·refine(I.hok b u e).stay (fun c v hc q=>k c v ?_ q) (fun _ q=>q) fun _ _ q=>q
  rcases hc with z | z
  ·rw[z];exact nit b u e
  ·exact nit c _ z
theorem Inv.tok (I:Inv X pins σ H s)(t:Nat):Inv X pins σ H { s with toks:=t }:=I.un (h':=s.heap) (t':=t) Un.refl I.hok
theorem Inv.kept (I:Inv X pins σ H s)(k:∀ b u,s.heap.get? b=some u->h'.get? b=some u):Inv X pins σ H { s with heap:=h',toks:=t' }:=I.un (Un.kept k) (I.hok.kept k)
theorem Inv.laid {o:HO}(I:Inv X pins σ H s)(k:∀ b u,s.heap.get? b=some u->h'.get? b=some u)(hp:s.heap.objs.size<=a)(new:L9 X.prog X.w (upd H a o) h' a o) :
  Inv X pins σ (upd H a o) { s with heap:=h',toks:=t' }:=I.un (Un.laid k hp (I.hok.fresh hp)) (I.hok.laid k hp new)
theorem Inv.write {x e:Addr}{o:HO}(I:Inv X pins σ H s)(mu:Mut (H x))(he:e=x\/H e=some (.own x))(k:∀ b u,b≠e->s.heap.get? b=some u->h'.get? b=some u)(heo:∃ u,h'.get? e=some u)
  (new:L9 X.prog X.w (upd H x o) h' x o):Inv X pins σ (upd H x o) { s with heap:=h',toks:=t' }:=I.un (Un.write mu he k heo) (I.hok.write mu he k heo new)
theorem Inv.pins_of {pins':List (Addr × Obj)}(I:Inv X pins σ H s)(h:∀ p∈pins',s.heap.get? p.1=some p.2/\H p.1=none/\p.1≠X.env.locals/\p.1∉X.fs/\∀ v,p.2.data≠.cell v):Inv X pins' σ H s:=
 ⟨I.ok,I.os,I.bare,I.base,I.loc,I.cell,I.free,I.freeC,fun p hp=>(k7.mp hp).elim (fun z=>I.pin p (D7 _ z)) (h p),I.hok,I.len⟩
theorem aT3 (hN:N.Nodup)(a:N[i]?=some x)(b:N[j]?=some x):i=j:=by
 obtain⟨h1,e1⟩:=c7.mp a
 obtain⟨h2,e2⟩:=c7.mp b
 exact(List.getElem_inj hN).mp (e1.trans e2.symm)
theorem aF9 {v:V}{Q:Unit->Shared->Prop}(I:Inv X pins σ H s)(hN:X.N.Nodup)(hi:X.N[i]?=some x)(hx:Loc X.env.scope x)(r:RelV v u)
  (h:∀ s',Inv X pins (σ.set i (some v)) H s'->(∃ a,Heap.SameBut a s.heap s'.heap/\(a=X.env.locals\/X.env.cells.lookup x=some a))->Q () s')(hf:X.fn x=true\/X.env.scope.names.lookup x=some .local:=by first | exact .inl rfl | exact .inr rfl | assumption):p9 M A (storeName X.env x u) Q E s:=by
 obtain⟨m,hn,hl⟩:=id I.loc
 have hcls:(X.env.scope.kind == .class || (X.env.scope.kind == .module && X.env.locals != X.env.globals))=false:=by rw[I.ok.kind];rfl
 have hiσ:i<σ.length:=by rw[I.len];exact(c7.mp hi).1
 have cne:=I.cne
 have tracked:∀ {a:Addr} {h':Heap},(∃ o,s.heap.get? a=some o/\H a=none)->Heap.SameBut a s.heap h'->HOk X.prog X.w H h':=fun {a h'} ha hs b ob e=>by
  obtain⟨_,_,hfree⟩:=ha
  refine(I.hok b ob e).stay (fun c w' hc q=>(hs.2 c ?_).trans q) (fun _ q=>q) fun _ _ q=>q
  rintro rfl
  rcases hc with rfl | hc
  ·rw[hfree]at e;cases e
  ·rw[hfree]at hc;cases hc
 rcases hx with hk | hk
 ·refine wpAny_storeName_local hk hn (fun h' hn' hs=>?_) hcls
  obtain⟨oL,_,_,hoL,_⟩:=id hn
  refine h _ ⟨I.ok,I.os,I.bare,⟨fun b o e n hb hx=>?_,fun b o e n hb hx=>?_,I.base.free,fun b o e hx=>?_,I.base.tups,I.base.frzs,I.base.tbls⟩,⟨_,hn',fun j y v' e1 e2 e3=>?_⟩,fun y c e=>?_,I.free,I.freeC,fun p hp=>?_,tracked ⟨oL,hoL,I.free⟩ hs,by simpa using I.len⟩ ⟨_,hs,.inl rfl⟩
  ·exact(hs.2 b (m8 (p5 (j4 e) I.ok.above))).trans (I.base.keep b o e n hb hx)
  ·obtain⟨sl,e1⟩:=I.base.slot b o e n hb hx
   exact⟨sl,(hs.2 b (m8 (p5 (j4 e) I.ok.above))).trans e1⟩
  ·obtain⟨o',e1⟩:=I.base.there b o e hx
   exact⟨o',(hs.2 b (m8 (p5 (j4 e) I.ok.above))).trans e1⟩
  ·by_cases hj:j=i
   ·subst hj
    rw[hi]at e1;cases e1
    rw[P3 hiσ]at e2
    cases e2
    exact⟨u,r,.inl ⟨hk,by simp⟩⟩
   ·rw[D8 (Ne.symm hj)]at e2
    obtain⟨u',r',q⟩:=hl j y v' e1 e2 e3
    refine⟨u',r',?_⟩
    rcases q with⟨k,e⟩ | ⟨k,c,e,z⟩
    ·refine .inl ⟨k,?_⟩
     have:y≠x:=fun e=>hj (aT3 hN e1 (e ▸ hi))
     simp[this,e]
    ·exact .inr ⟨k,c,e,z.sameBut hs (cne y c e)⟩
  ·obtain⟨w',z⟩:=I.cell y c e
   exact⟨w',z.sameBut hs (cne y c e)⟩
  ·obtain⟨e,n,ne,nf,d⟩:=I.pin p hp
   exact⟨(hs.2 p.1 ne).trans e,n,ne,nf,d⟩
 ·have hfn:X.fn x=true:=by
   rcases hf with z | z
   ·exact z
   ·rw[z]at hk;cases hk
  obtain⟨c,hc⟩:=I.ok.has x (.inl hk)
  obtain⟨w',z⟩:=I.cell x c hc
  refine wpAny_storeName_cell I.ok.kind hk hc z (fun h' hc' hs=>?_)
  obtain⟨oc,hoc,hocd⟩:=id z
  refine h { s with heap:=h' } ⟨I.ok,I.os,I.bare,⟨fun b o e n hb hx=>?_,fun b o e n hb hx=>?_,I.base.free,fun b o e hx=>?_,I.base.tups,I.base.frzs,I.base.tbls⟩,⟨m,hn.sameBut hs (Ne.symm (cne x c hc)),fun j y v' e1 e2 e3=>?_⟩,fun y c' e=>?_,I.free,I.freeC,fun p hp=>?_,tracked ⟨oc,hoc,I.freeC x c hc⟩ hs,by simpa using I.len⟩ ⟨c,hs,.inr hc⟩
  ·exact(hs.2 b (m8 (p5 (j4 e) (I.ok.cab x c hfn hc)))).trans (I.base.keep b o e n hb hx)
  ·obtain⟨sl,e1⟩:=I.base.slot b o e n hb hx
   exact⟨sl,(hs.2 b (m8 (p5 (j4 e) (I.ok.cab x c hfn hc)))).trans e1⟩
  ·obtain⟨o',e1⟩:=I.base.there b o e hx
   exact⟨o',(hs.2 b (m8 (p5 (j4 e) (I.ok.cab x c hfn hc)))).trans e1⟩
  ·by_cases hj:j=i
   ·subst hj
    rw[hi]at e1;cases e1
    rw[P3 hiσ]at e2
    cases e2
    exact⟨u,r,.inr ⟨.inl hk,c,hc,hc'⟩⟩
   ·rw[D8 (Ne.symm hj)]at e2
    obtain⟨u',r',q⟩:=hl j y v' e1 e2 e3
    refine⟨u',r',?_⟩
    rcases q with q | ⟨k,c',e,z'⟩
    ·exact .inl q
    ·refine .inr ⟨k,c',e,z'.sameBut hs ?_⟩
     rintro rfl
     exact hj (aT3 hN e1 (I.ok.inj _ _ _ e hc ▸ hi))
  ·by_cases hcc:c'=c
   ·subst hcc;exact⟨_,hc'⟩
   ·obtain⟨w2,z2⟩:=I.cell y c' e
    exact⟨w2,z2.sameBut hs hcc⟩
  ·obtain⟨e,n,ne,nf,d⟩:=I.pin p hp
   refine⟨(hs.2 p.1 ?_).trans e,n,ne,nf,d⟩
   intro q
   rw[q,hoc]at e
   have q':oc=p.2:=Option.some.inj e
   exact d w' (by rw[<- q'];exact hocd)
theorem ay4 {v:V}{Q:Unit->Shared->Prop}(I:Inv X pins σ H s)(hN:X.N.Nodup)(hi:X.N[i]?=some x)(hx:Loc X.env.scope x)(r:RelV v u)
  (h:∀ s',Inv X pins (σ.set i (some v)) H s'->Q () s')(hf:X.fn x=true\/X.env.scope.names.lookup x=some .local:=by first | exact .inl rfl | exact .inr rfl | assumption):p9 M A (storeName X.env x u) Q E s:=
 aF9 I hN hi hx r (fun s' I' _=>h s' I') hf
theorem Inv.call' {s':Shared}{ch:List Addr}(I:Inv X pins σ H s)(ho:s'.os=s.os)(u:Un (frs X.stack) ch H H' s.heap s'.heap)(hok:HOk X.prog X.w H' s'.heap)(hg:au1 s'.gens)
  (hch:∀ b∈ch,(b∈X.ex\/X.s₀.heap.objs.size<=b)/\b≠X.env.locals/\(∀ x c,X.env.cells.lookup x=some c->c≠b)/\∀ p∈X.pn++pins,p.1≠b):Inv X pins σ H' s':=by
 obtain⟨h',g',d',t',o'⟩:=s'
 have e:o'=s.os:=ho
 subst e
 exact I.call (g':=g') (t':=t') (d':=d') u hok hg hch
end
abbrev XK:=Value->Option Addr->Hp->Prop
abbrev St:=List (Option V)
abbrev VK:=V->Hp->Prop
abbrev TE:=St->Hp->VK->Prop
abbrev TT:=St->Hp->(Bool->Hp->Prop)->Prop
abbrev TA:=St->Hp->(List V->Hp->Prop)->Prop
structure Ends where
 nx:St->Hp->Prop
 rt:VK
 bk:St->Hp->Prop:=fun _ _=>False
 ct:St->Hp->Prop:=fun _ _=>False
abbrev TS:=Ends->St->Hp->Prop
def EP (X:Cx)(pins:List (Addr × Obj))(σ:St)(Q:VK)(u:Value)(s':Shared):Prop:=∃ v H',Inv X pins σ H' s'/\RelV v u/\Q v H'
def TP (X:Cx)(pins:List (Addr × Obj))(σ:St)(Q:Bool->Hp->Prop)(b:Bool)(s':Shared):Prop:=∃ H',Inv X pins σ H' s'/\Q b H'
def AP (X:Cx)(pins:List (Addr × Obj))(σ:St)(Q:List V->Hp->Prop)(us:List Value)(s':Shared):Prop:=∃ vs H',Inv X pins σ H' s'/\C3 vs us/\Q vs H'
def SP (X:Cx)(pins:List (Addr × Obj))(D:Ends)(f:Flow)(s':Shared):Prop:=
 match f with
 | .next=>∃ σ' H',Inv X pins σ' H' s'/\D.nx σ' H'
 | .brk=>∃ σ' H',Inv X pins σ' H' s'/\D.bk σ' H'
 | .cont=>∃ σ' H',Inv X pins σ' H' s'/\D.ct σ' H'
 | .ret u=>∃ v σ' H',Inv X pins σ' H' s'/\RelV v u/\D.rt v H'
def PE (X:Cx)(e:Expr)(t:TE):Prop:=
 ∀ (pins:List (Addr × Obj)) (s:Shared) (σ:St) (H:Hp) (Q:VK),Inv X pins σ H s->t σ H Q->p9 (p7 X.prog X.w) X.A (eval e X.env) (EP X pins σ Q) X.xe s
def PT (X:Cx)(e:Expr)(t:TT):Prop:=
 ∀ (pins:List (Addr × Obj)) (s:Shared) (σ:St) (H:Hp) (Q:Bool->Hp->Prop),Inv X pins σ H s->t σ H Q->p9 (p7 X.prog X.w) X.A (isTrue e X.env (eval e X.env)) (TP X pins σ Q) X.xe s
def PW (X:Cx)(e:Expr)(t:TT):Prop:=
 ∀ (whole:Sem Value) (pins:List (Addr × Obj)) (s:Shared) (σ:St) (H:Hp) (Q:Bool->Hp->Prop),Inv X pins σ H s->t σ H Q->p9 (p7 X.prog X.w) X.A (isTrue e X.env whole) (TP X pins σ Q) X.xe s
theorem PW.pt {X:Cx}{t:TT}(h:PW X e t):PT X e t:=h _
def PA (X:Cx)(es:List Expr)(t:TA):Prop:=
 ∀ (pos:Pos) (pins:List (Addr × Obj)) (s:Shared) (σ:St) (H:Hp) (Q:List V->Hp->Prop),Inv X pins σ H s->t σ H Q->p9 (p7 X.prog X.w) X.A (spliced (Z9 pos (A6 es X.env))) (AP X pins σ Q) X.xe s
def PS (X:Cx)(st:Stmt)(t:TS):Prop:=
 ∀ (pins:List (Addr × Obj)) (s:Shared) (σ:St) (H:Hp) (D:Ends),Inv X pins σ H s->t D σ H->p9 (p7 X.prog X.w) X.A (exec st X.env) (SP X pins D) X.xe s
def PSs (X:Cx)(st:List Stmt)(t:TS):Prop:=
 ∀ (pins:List (Addr × Obj)) (s:Shared) (σ:St) (H:Hp) (D:Ends),Inv X pins σ H s->t D σ H->p9 (p7 X.prog X.w) X.A (execs st X.env) (SP X pins D) X.xe s
theorem thn {α:Type}{t:Sem α}{Q Q':α->Shared->Prop}(h:p9 M A t Q E s)(hQ:∀ a s,Q a s->Q' a s):p9 M A t Q' E s:=E6 h hQ fun _ _ x=>x
end L2
variable {X:L2.Cx}{r:L2.V->List L2.V->L2.Hp->L2.VK->Prop}{ta te:L2.TE}{σ:L2.St}
namespace L2
open PySem PySem.Spec PyProof.Rows
section
theorem bin {a b:Expr}{tb:TE}(ha:PE X a ta)(hb:PE X b tb){R:V->V->Hp->Prop}(I:Inv X pins σ H s)(h:ta σ H fun x H1=>tb σ H1 fun y H2=>R x y H2)
  {α:Type}{Q:α->Shared->Prop}{f:Value->Value->Sem α}
  (hf:∀ v u s2 x y H2,Inv X pins σ H2 s2->RelV x v->RelV y u->R x y H2->p9 (p7 X.prog X.w) X.A (f v u) Q X.xe s2) :
  p9 (p7 X.prog X.w) X.A (eval a X.env) (fun v s₁=>p9 (p7 X.prog X.w) X.A (eval b X.env) (fun u s₂=>p9 (p7 X.prog X.w) X.A (f v u) Q X.xe s₂) X.xe s₁) X.xe s:=by
 refine thn (ha pins s σ H _ I h) fun v s1 ⟨x,H1,I1,r1,q1⟩=>?_
 refine thn (hb pins s1 σ H1 _ I1 q1) fun u s2 ⟨y,H2,I2,r2,q2⟩=>?_
 exact hf v u s2 x y H2 I2 r1 r2 q2
def cd3 (i:Nat):TE:=fun σ H Q=>∃ v,σ[i]?=some (some v)/\Q v H
def tC (v:V):TE:=fun _ H Q=>Q v H
theorem bV7 (hN:X.N[i]?=some x)(hv:Vis X.env.scope x)(hd:(x == ("__debug__":Str))=false:=by decide)(hcd:(x == ("__classdict__":Str))=false:=by decide):PE X (.Name x pos) (cd3 i):=by
 intro pins s σ H Q I h
 obtain⟨v,e,h⟩:=h
 obtain⟨m,hn,hl⟩:=I.loc
 obtain⟨u,r,l⟩:=hl i x v hN e hv
 have fin:EP X pins σ Q u s:=⟨v,H,I,r,h⟩
 rcases l with⟨hk,hm⟩ | ⟨hk,c,hc,hcell⟩
 ·exact wpAny_Name (cb4 I.ok.kind hk hn hm fin) hd
 ·rcases hk with hk | hk
  ·exact wpAny_Name (cc4 I.ok.kind hk hc hcell fin) hd
  ·exact wpAny_Name (wpAny_loadName_free I.ok.kind hk hc hcell fin hcd) hd
theorem m6 {i j pos}:PE X (.Constant (.int i) j pos) (tC (.int i)):=fun _ _ _ H _ I h=>wpAny_Constant_int ⟨.int i,H,I.tok _,⟨_,rfl⟩,h⟩
theorem bQ7 {b j pos}:PE X (.Constant (.bool b) j pos) (tC (.bl b)):=fun _ _ _ H _ I h=>Constant_bool ⟨.bl b,H,I,rfl,h⟩
theorem az8 {j pos}:PE X (.Constant .none j pos) (tC .non):=fun _ _ _ H _ I h=>Constant_none ⟨.non,H,I,rfl,h⟩
theorem X0 {x j pos}:PE X (.Constant (.str x) j pos) (tC (.str x)):=fun _ _ _ H _ I h=>Calls.Constant_str ⟨.str x,H,I.tok _,⟨_,rfl⟩,h⟩
def Gl (X:Cx)(x:Str):Prop:=X.env.kindOf x=some .globalImplicit
theorem aL6 (I:Inv X pins σ H s)(hg:Gl X x)(hm:X.mg x=some u)(h:Q u s)
  (hd:(x == ("__debug__":Str))=false:=by decide):p9 (p7 X.prog X.w) X.A (eval (.Name x pos) X.env) Q E s :=
 Calls.Name_function_global I.ok.kind hg (Calls.loadGlobal_global (by rw[I.ok.glob];exact I.mod.glob.keeps I.bk) hm h) hd
theorem aa1 (I:Inv X pins σ H s)(hg:Gl X x)(hm:X.mg x=none)(hv:R1 x=some u)(h:Q u s)
  (hn:x≠"__name__":=by decide)(hd:(x == ("__debug__":Str))=false:=by decide):p9 (p7 X.prog X.w) X.A (eval (.Name x pos) X.env) Q E s:=by
 obtain⟨mb,h1,h2⟩:=I.mod.blt
 exact Calls.Name_function_global I.ok.kind hg (Calls.loadGlobal_builtin (by rw[I.ok.glob];exact I.mod.glob.keeps I.bk) hm (by rw[I.ok.blt];exact h1.keeps I.bk) ((h2 x hn).trans hv) h) hd
theorem aw2 {v:V}(hg:Gl X x)(hm:X.mg x=some u)(r:RelV v u)(hd:(x == ("__debug__":Str))=false:=by decide):PE X (.Name x pos) (tC v) :=
 fun _ _ _ H _ I h=>aL6 I hg hm ⟨v,H,I,r,h⟩ hd
variable {a b:Expr} {tb:TE}
def PC (X:Cx)(op:CmpOp)(a b:Expr)(t:TE):Prop:=
 ∀ (pins:List (Addr × Obj)) (s:Shared) (σ:St) (H:Hp) (Q:VK),Inv X pins σ H s->t σ H Q ->
  p9 (p7 X.prog X.w) X.A (eval a X.env) (fun v s₁=>p9 (p7 X.prog X.w) X.A (eval b X.env) (fun u s₂=>p9 (p7 X.prog X.w) X.A (J6 op v u) (EP X pins σ Q) X.xe s₂) X.xe s₁) X.xe s
def tB (t:TE):TT:=fun σ H Q=>t σ H fun x H1=>∃ c,x=.bl c/\Q c H1
theorem bV6 {op:CmpOp}{t:TE}(h:PC X op a b t)(h1:am2 op b=false:=by first | exact nobehind _ (by decide) (by decide) | rfl):PT X (.Compare a [op] [b] pos) (tB t):=by
 intro pins s σ H Q I hw
 refine bS0 (thn (h pins s σ H _ I hw) fun v s1 h1=>thn h1 fun u s2 h2=>thn h2 fun c s3 ⟨x,H1,I1,r1,q1⟩=>?_) h1
 obtain⟨d,rfl,q⟩:=q1
 cases r1
 exact K9 ⟨H1,I1,q⟩
theorem aK6 {t:TE}(h:PE X e t)(he:∀ whole,isTrue e X.env whole=(do let v <- whole;standAt e.pos;cc5 [v] (truthy v)):=by intro _;rfl):PT X e (tB t):=by
 intro pins s σ H Q I hw
 refine isTrue_plain (thn (h pins s σ H _ I hw) fun v s1 ⟨x,H1,I1,r1,q1⟩=>?_) (he _)
 obtain⟨d,rfl,q⟩:=q1
 cases r1
 exact K9 ⟨H1,I1,q⟩
variable {tA tB':TT} {rest:List Expr}
def ck3 (t u:TT):TT:=fun σ H Q=>t σ H fun c H1=>if c=true then u σ H1 Q else Q false H1
def tOr (t u:TT):TT:=fun σ H Q=>t σ H fun c H1=>if c=true then Q true H1 else u σ H1 Q
def cj6 (t:TT):TT:=fun σ H Q=>t σ H fun c H1=>Q (!c) H1
theorem aK5 (ha:PT X a tA):PW X (.BoolOp .And [a] pos) tA:=by
 intro wh pins s σ H Q I h
 refine isTrue_and (thn (ha pins s σ H Q I h) fun c s1 e=>?_)
 cases c with
 | true=>exact isTrue_and_nil e
 | false=>exact e
theorem ba9 (ha:PT X a tA):PW X (.BoolOp .Or [a] pos) tA:=by
 intro wh pins s σ H Q I h
 refine isTrue_or (thn (ha pins s σ H Q I h) fun c s1 e=>?_)
 cases c with
 | false=>exact isTrue_or_nil e
 | true=>exact e
theorem bb0 (ha:PT X a tA)(hb:PW X (.BoolOp .And (b::rest) pos) tB'):PW X (.BoolOp .And (a::b::rest) pos) (ck3 tA tB'):=by
 intro wh pins s σ H Q I h
 refine isTrue_and (thn (ha pins s σ H _ I h) fun c s1 ⟨H1,I1,q1⟩=>?_)
 cases c with
 | true=>exact hb wh pins s1 σ H1 Q I1 q1
 | false=>exact⟨H1,I1,q1⟩
theorem bh8 (ha:PT X a tA)(hb:PW X (.BoolOp .Or (b::rest) pos) tB'):PW X (.BoolOp .Or (a::b::rest) pos) (tOr tA tB'):=by
 intro wh pins s σ H Q I h
 refine isTrue_or (thn (ha pins s σ H _ I h) fun c s1 ⟨H1,I1,q1⟩=>?_)
 cases c with
 | true=>exact⟨H1,I1,q1⟩
 | false=>exact hb wh pins s1 σ H1 Q I1 q1
theorem ac8 (ha:PT X a tA):PT X (.UnaryOp .Not a pos) (cj6 tA):=by
 intro pins s σ H Q I h
 exact isTrue_not (ha pins s σ H (fun c H1=>Q (!c) H1) I h)
def cj5 (ta tb:TE):TE:=fun σ H Q=>ta σ H fun x H1=>∃ c,x=.bl c/\if c=true then Q (.bl true) H1 else tb σ H1 Q
theorem bV8 {op}{t:TE}(h:PE X a t):PE X (.BoolOp op [a] pos) t:=fun pins s σ H Q I hw=>BoolOp_one (h pins s σ H Q I hw)
theorem cg5 (ha:PE X a ta)(hb:PE X (.BoolOp .Or (b::rest) pos) tb):PE X (.BoolOp .Or (a::b::rest) pos) (cj5 ta tb):=by
 intro pins s σ H Q I h
 refine BoolOp_or (thn (ha pins s σ H _ I h) fun v s1 ⟨x,H1,I1,r1,q1⟩=>?_)
 obtain⟨c,rfl,q1⟩:=q1
 cases r1
 refine K9 ?_
 cases c with
 | false=>exact hb pins s1 σ H1 Q I1 q1
 | true=>exact⟨.bl true,H1,I1,rfl,q1⟩
def tIf (t:TT)(ta tb:TE):TE:=fun σ H Q=>t σ H fun c H1=>if c=true then ta σ H1 Q else tb σ H1 Q
theorem bx8 {c:Expr}(hc:PT X c tA)(ha:PE X a ta)(hb:PE X b tb):PE X (.IfExp c a b pos) (tIf tA ta tb):=by
 intro pins s σ H Q I h
 refine wpAny_IfExp (thn (hc pins s σ H _ I h) fun d s1 ⟨H1,I1,q1⟩=>?_)
 cases d with
 | true=>exact ha pins s1 σ H1 Q I1 q1
 | false=>exact hb pins s1 σ H1 Q I1 q1
end
def SqL (K:W.Frag)(H:Hp)(a:Addr)(xs:List V):Prop:=
 Rd H a (.lst xs) \/
  ∃ (o:Obj) (its:Array Value) (n:Nat),K.lookup a=some o/\o.cls=.type "list"/\o.dict=none/\o.data=.seq its n/\its.size<=f6/\C3 xs its.toList
def SqT (K:W.Frag)(H:Hp)(a:Addr)(xs:List V):Prop:=
 Rd H a (.tup xs) \/
  ∃ (o:Obj) (its:Array Value) (n:Nat),K.lookup a=some o/\o.cls=.type "tuple"/\o.data=.seq its n/\its.size<=f6/\C3 xs its.toList
def cl3:Value->Option V
 | .none=>some .non
 | .bool b=>some (.bl b)
 | .int i _=>some (.int i)
 | .str x _=>some (.str x)
 | .bytes b _=>some (.byt b)
 | .float b _=>some (.flt b)
 | .ref a=>some (.ref a)
 | .type n=>some (.ty n)
 | _=>none
theorem RelV.abs {x:V}(r:RelV x u):cl3 u=some x:=by
 cases x with
 | non=>cases r;rfl
 | bl _=>cases r;rfl
 | int _=>obtain⟨t,rfl⟩:=r;rfl
 | str _=>obtain⟨t,rfl⟩:=r;rfl
 | byt _=>obtain⟨t,rfl⟩:=r;rfl
 | flt _=>obtain⟨t,rfl⟩:=r;rfl
 | ref _=>cases r;rfl
 | ty _=>cases r;rfl
theorem RelV.inj {x y:V}(r:RelV x u)(q:RelV y u):x=y:=Option.some.inj (r.abs.symm.trans q.abs)
theorem C3.inj:∀ {xs ys:List V} {us:List Value},C3 xs us->C3 ys us->xs=ys
 | _,_,_,.nil,.nil=>rfl
 | _,_,_,.cons r t,.cons r' t'=>by rw[r.inj r',C3.inj t t']
theorem SqL.of {K:W.Frag}(h:H a=some (.lst xs)):SqL K H a xs:=.inl (.inl h)
theorem SqT.of {K:W.Frag}(h:H a=some (.tup xs)):SqT K H a xs:=.inl (.inl h)
theorem Inv.list (I:Inv X pins σ H s)(h:SqL X.K H a xs):∃ its:List Value,C3 xs its/\PlainL s.heap a its.toArray/\xs.length<=f6:=by
 rcases h with h | ⟨o,its,n,hk,hc,hd,hs,hz,r⟩
 ·obtain⟨z,its,n,r,e⟩:=h.ok I.hok
  exact⟨its,r,⟨_,n,e,rfl,rfl,rfl⟩,z⟩
 ·refine⟨its.toList,r,⟨o,n,I.kIn a o hk,hc,hd,by simpa using hs⟩,?_⟩
  have e:=r.length
  simp only[j8]at e
  omega
theorem Inv.tuple (I:Inv X pins σ H s)(h:SqT X.K H a xs):∃ its:List Value,C3 xs its/\IsTup s.heap a its.toArray/\xs.length<=f6:=by
 rcases h with h | ⟨o,its,n,hk,hc,hs,hz,r⟩
 ·obtain⟨z,its,r,p⟩:=h.ok I.hok
  exact⟨its,r,p,z⟩
 ·refine⟨its.toList,r,⟨o,I.kIn a o hk,hc,n,by simpa using hs⟩,?_⟩
  have e:=r.length
  simp only[j8]at e
  omega
theorem Inv.list_inj (I:Inv X pins σ H s)(h:SqL X.K H a xs)(h':SqL X.K H a ys):xs=ys:=by
 obtain⟨its,r,⟨o,n,e,_,_,d⟩,_⟩:=I.list h
 obtain⟨its',r',⟨o',n',e',_,_,d'⟩,_⟩:=I.list h'
 rw[e]at e';cases e'
 rw[d]at d'
 injection d' with d1 _
 have:its=its':=by simpa using congrArg Array.toList d1
 subst this
 exact r.inj r'
theorem Inv.tuple_inj (I:Inv X pins σ H s)(h:SqT X.K H a xs)(h':SqT X.K H a ys):xs=ys:=by
 obtain⟨its,r,⟨o,e,_,n,d⟩,_⟩:=I.tuple h
 obtain⟨its',r',⟨o',e',_,n',d'⟩,_⟩:=I.tuple h'
 rw[e]at e';cases e'
 rw[d]at d'
 injection d' with d1 _
 have:its=its':=by simpa using congrArg Array.toList d1
 subst this
 exact r.inj r'
abbrev Cx.wish (X:Cx)(E:Value->Shared->Prop):Cx:={ X with xe:=E }
abbrev Cx.nox (X:Cx):Cx:=X.wish fun _ _=>False
theorem Cx.Ok.wish (ok:X.Ok)(E:Value->Shared->Prop):(X.wish E).Ok:=
 ⟨ok.mod,ok.kind,ok.glob,ok.blt,ok.above,ok.inj,ok.has,ok.cab,ok.hd,ok.frames,ok.stk,ok.exf,ok.bs,ok.bsz,ok.noex,ok.exfs,ok.funs,ok.frf⟩
theorem Cx.Ok.unwish (ok:(X.wish E).Ok):X.Ok:=
 ⟨ok.mod,ok.kind,ok.glob,ok.blt,ok.above,ok.inj,ok.has,ok.cab,ok.hd,ok.frames,ok.stk,ok.exf,ok.bs,ok.bsz,ok.noex,ok.exfs,ok.funs,ok.frf⟩
theorem Inv.wish (I:Inv X pins σ H s)(E:Value->Shared->Prop):Inv (X.wish E) pins σ H s:=⟨I.ok.wish E,I.os,I.bare,I.base,I.loc,I.cell,I.free,I.freeC,I.pin,I.hok,I.len⟩
theorem Inv.unwish (I:Inv (X.wish E) pins σ H s):Inv X pins σ H s:=⟨I.ok.unwish,I.os,I.bare,I.base,I.loc,I.cell,I.free,I.freeC,I.pin,I.hok,I.len⟩
theorem SP.unwish {D:Ends}{f:Flow}{s':Shared}(h:SP (X.wish E) pins D f s'):SP X pins D f s':=by
 cases f with
 | next=>obtain⟨σ',H',I,q⟩:=h;exact⟨σ',H',I.unwish,q⟩
 | brk=>obtain⟨σ',H',I,q⟩:=h;exact⟨σ',H',I.unwish,q⟩
 | cont=>obtain⟨σ',H',I,q⟩:=h;exact⟨σ',H',I.unwish,q⟩
 | ret u=>obtain⟨v,σ',H',I,r,q⟩:=h;exact⟨v,σ',H',I.unwish,r,q⟩
theorem PSs.nox {st:List Stmt}{t:TS}(h:PSs X.nox st t):PSs X st t:=fun pins s σ H D I hw =>
 E6 (h pins s σ H D (I.wish _) hw) (fun _ _ q=>q.unwish) fun _ _ z=>False.elim z
section
variable {st:Stmt} {rest:List Stmt} {t u:TS}
def cd8:TS:=fun D σ H=>D.nx σ H
def cj3 (t u:TS):TS:=fun D σ H=>t { D with nx:=u D } σ H
theorem B8:PSs X [] cd8:=fun _ _ σ H _ I h=>au2 ⟨σ,H,I,h⟩
theorem d9 (h1:PS X st t)(h2:PSs X rest u):PSs X (st::rest) (cj3 t u):=by
 intro pins s σ H D I h
 refine aY6 (thn (h1 pins s σ H { D with nx:=u D } I h) fun f s1 q=>?_)
 cases f with
 | next =>
  obtain⟨σ',H',I',q⟩:=q
  exact h2 pins s1 σ' H' D I' q
 | ret v=>exact q
 | brk=>exact q
 | cont=>exact q
theorem m5 (h1:PS X st t):PSs X [st] t:=by
 intro pins s σ H D I h
 refine aY6 (thn (h1 pins s σ H D I h) fun f s1 q=>?_)
 cases f with
 | next=>exact au2 q
 | ret v=>exact q
 | brk=>exact q
 | cont=>exact q
theorem Inv.quiet (I:Inv X pins σ H s):interactive X.env=false:=by simp[interactive,I.ok.kind]
def ce0 (te:TE):TS:=fun D σ H=>te σ H fun _ H1=>D.nx σ H1
theorem K2 (he:PE X e te)(hs:bS1 e none pos.line X.env=pure false:=by rfl):PS X (.Expr e pos) (ce0 te):=by
 intro pins s σ H D I h
 exact wpAny_Expr_any (thn (he pins s σ H _ I h) fun v s1 ⟨x,H1,I1,r1,q1⟩=>⟨σ,H1,I1,q1⟩) I.quiet hs
def cj4 (te:TE):TS:=fun D σ H=>te σ H D.rt
theorem x8 (he:PE X e te):PS X (.Return (some e) pos) (cj4 te):=by
 intro pins s σ H D I h
 exact wpAny_Return_some (thn (he pins s σ H _ I h) fun v s1 ⟨x,H1,I1,r1,q1⟩=>⟨x,σ,H1,I1,r1,q1⟩)
def cj8 (c:TT)(t u:TS):TS:=fun D σ H=>c σ H fun b H1=>if b=true then t D σ H1 else u D σ H1
theorem G8 {c:Expr}{a b:List Stmt}{tc:TT}(hc:PT X c tc)(ha:PSs X a t)(hb:PSs X b u):PS X (.If c a b pos) (cj8 tc t u):=by
 intro pins s σ H D I h
 refine wpAny_If (thn (hc pins s σ H _ I h) fun d s1 ⟨H1,I1,q1⟩=>?_)
 cases d with
 | true=>exact ha pins s1 σ H1 D I1 q1
 | false=>exact hb pins s1 σ H1 D I1 q1
def bU1:TS:=fun _ _ _=>False
theorem K1 {sts:List Stmt}:PSs X sts bU1:=fun _ _ _ _ _ _ h=>h.elim
end
abbrev TG:=V->St->Hp->(St->Hp->Prop)->Prop
abbrev TGs:=List V->St->Hp->(St->Hp->Prop)->Prop
def PG (X:Cx)(target:Expr)(t:TG):Prop:=
 ∀ (pins:List (Addr × Obj)) (s:Shared) (σ:St) (H:Hp) (v:V) (u:Value) (Q:St->Hp->Prop),Inv X pins σ H s->RelV v u->t v σ H Q ->
  p9 (p7 X.prog X.w) X.A (assign target X.env u) (fun _ s'=>∃ σ' H',Inv X pins σ' H' s'/\Q σ' H') X.xe s
def PGs (X:Cx)(ts:List Expr)(t:TGs):Prop:=
 ∀ (pins:List (Addr × Obj)) (s:Shared) (σ:St) (H:Hp) (vs:List V) (us:List Value) (Q:St->Hp->Prop),Inv X pins σ H s->C3 vs us->t vs σ H Q ->
  p9 (p7 X.prog X.w) X.A (assignInOrder ((ak9 ts X.env).map (·.2)) us) (fun _ s'=>∃ σ' H',Inv X pins σ' H' s'/\Q σ' H') X.xe s
abbrev ca6:=V->V->V->Hp->(Hp->Prop)->Prop
def ci7 (X:Cx)(t:ca6):Prop:=
 ∀ (pins:List (Addr × Obj)) (s:Shared) (σ:St) (H:Hp) (o i v:V) (ov iv u:Value) (Q:Hp->Prop),Inv X pins σ H s->RelV o ov->RelV i iv->RelV v u->t o i v H Q ->
  p9 (p7 X.prog X.w) X.A (setItem ov iv u) (fun _ s'=>∃ H',Inv X pins σ H' s'/\Q H') X.xe s
abbrev TIp:=V->V->Hp->VK->Prop
def PIp (X:Cx)(op:Operator)(t:TIp):Prop:=
 ∀ (pins:List (Addr × Obj)) (s:Shared) (σ:St) (H:Hp) (x y:V) (v u:Value) (Q:VK),Inv X pins σ H s->RelV x v->RelV y u->t x y H Q ->
  p9 (p7 X.prog X.w) X.A (inplaceOp op v u) (EP X pins σ Q) X.xe s
def aC1 (i:Nat):TG:=fun v σ H Q=>Q (σ.set i (some v)) H
theorem B0 (hN:X.N.Nodup)(hi:X.N[i]?=some x)(hx:Loc X.env.scope x)(hf:X.fn x=true\/X.env.scope.names.lookup x=some .local:=by first | exact .inl rfl | exact .inr rfl | assumption):PG X (.Name x pos) (aC1 i):=by
 intro pins s σ H v u Q I r h
 exact wpAny_assign_Name (ay4 I hN hi hx r (fun s' I'=>⟨_,H,I',h⟩) hf)
def cl2:TGs:=fun vs σ H Q=>vs=[]/\Q σ H
def ch9 (t:TG)(u:TGs):TGs:=fun vs σ H Q=>∃ v r,vs=v::r/\t v σ H fun σ' H'=>u r σ' H' Q
theorem ad0:PGs X [] cl2:=by
 intro pins s σ H vs us Q I r h
 obtain⟨e,h⟩:=h
 subst e
 cases r
 exact assignInOrder_nil ⟨σ,H,I,h⟩
theorem K3 {t:TG}{u:TGs}(h1:PG X e t)(h2:PGs X es u)
  (hs:(ak9 (e::es) X.env).map (·.2)=assign e X.env::(ak9 es X.env).map (·.2):=by rfl):PGs X (e::es) (ch9 t u):=by
 intro pins s σ H vs us Q I r h
 obtain⟨v,vr,e1,h⟩:=h
 subst e1
 cases r with
 | cons r rr =>
  rw[hs]
  refine assignInOrder_cons (thn (h1 pins s σ H _ _ _ I r h) fun _ s1 ⟨σ1,H1,I1,q1⟩=>?_)
  exact h2 pins s1 σ1 H1 _ _ Q I1 rr q1
def ch8 (K:W.Frag)(n:Nat)(t:TGs):TG:=fun v σ H Q=>∃ a xs,v=.ref a/\SqT K H a xs/\xs.length=n/\t xs σ H Q
theorem aq6 {k:Nat}{t:TGs}(hc:X.calm=true)(h:PGs X es t)
  (hn:(ak9 es X.env).length=n:=by rfl)(hst:(ak9 es X.env).findIdx? (·.1)=none:=by rfl):PG X (.Tuple es k pos) (ch8 X.K n t):=by
 intro pins s σ H v u Q I r hw
 obtain⟨a,xs,e1,hq,hl,hw⟩:=hw
 subst e1
 cases r
 obtain⟨its,rv,ht,hz⟩:=I.tuple hq
 refine assign_Tuple_tuple (I.ok.hd hc) ht (by simp[hn,<- hl,rv.length]) hst fun h' hx=>?_
 have I1:Inv X pins σ H { s with heap:=h' }:=I.kept (t':=s.toks) fun b o e=>hx b o (m8 (j4 e)) e
 exact h pins _ σ H xs _ Q I1 (by simpa using rv) hw
def ck2 (te:TE)(g:TG):TS:=fun D σ H=>te σ H fun x H1=>g x σ H1 D.nx
theorem B5 {pos':Pos}(hN:X.N.Nodup)(hi:X.N[i]?=some x)(hx:Loc X.env.scope x)(he:PE X e te)(hs:bS1 e (some (.Name x pos')) pos.line X.env=pure false:=by rfl)(hf:X.fn x=true\/X.env.scope.names.lookup x=some .local:=by first | exact .inl rfl | exact .inr rfl | assumption) :
  PS X (.Assign [.Name x pos'] e pos) (ck2 te (aC1 i)):=by
 intro pins s σ H D I h
 refine wpAny_Assign_Name (thn (he pins s σ H _ I h) fun v s1 ⟨y,H1,I1,r1,q1⟩=>?_) hs
 exact ay4 I1 hN hi hx r1 (fun s2 I2=>⟨_,H1,I2,q1⟩) hf
def ck1 (i:Nat)(te:TE)(ti:TIp):TS:=fun D σ H=>∃ x,σ[i]?=some (some x)/\te σ H fun y H1=>ti x y H1 fun z H2=>D.nx (σ.set i (some z)) H2
theorem bb2 {op:Operator}{ti:TIp}{pos':Pos}(hN:X.N.Nodup)(hi:X.N[i]?=some x)(hx:Loc X.env.scope x)(he:PE X e te)(ho:PIp X op ti)(hf:X.fn x=true\/X.env.scope.names.lookup x=some .local:=by first | exact .inl rfl | exact .inr rfl | assumption) :
  PS X (.AugAssign (.Name x pos') op e pos) (ck1 i te ti):=by
 intro pins s σ H D I h
 obtain⟨v,e1,h⟩:=h
 obtain⟨m,hn,hl⟩:=I.loc
 have vis:Vis X.env.scope x:=by rcases hx with k | k;exact .inl k;exact .inr (.inl k)
 obtain⟨u,r,l⟩:=hl i x v hi e1 vis
 refine wpAny_AugAssign_Name ?_
 have go:p9 (p7 X.prog X.w) X.A (eval e X.env) (fun w s₂=>p9 (p7 X.prog X.w) X.A (inplaceOp op u w) (fun r s₃=>p9 (p7 X.prog X.w) X.A (storeName X.env x r) (fun _=>SP X pins D .next) X.xe s₃) X.xe s₂) X.xe s:=by
  refine thn (he pins s σ H _ I h) fun w s1 ⟨y,H1,I1,r1,q1⟩=>?_
  refine thn (ho pins s1 σ H1 v y u w _ I1 r r1 q1) fun z s2 ⟨zv,H2,I2,r2,q2⟩=>?_
  exact ay4 I2 hN hi hx r2 (fun s3 I3=>⟨_,H2,I3,q2⟩) hf
 rcases l with⟨hk,hm⟩ | ⟨hk,c,hc,hcell⟩
 ·exact cb4 I.ok.kind hk hn hm go
 ·rcases hk with hk | hk
  ·exact cc4 I.ok.kind hk hc hcell go
  ·rcases hx with k | k
   ·have:X.env.scope.names.lookup x=some .free:=hk
    rw[k]at this;cases this
   ·have:X.env.scope.names.lookup x=some .free:=hk
    rw[k]at this;cases this
def ce2 (to ti te:TE)(tget:V->V->Hp->VK->Prop)(tip:TIp)(tset:ca6):TS:=fun D σ H=>to σ H fun o H1=>ti σ H1 fun i H2=>tget o i H2 fun x H3=>te σ H3 fun y H4=>tip x y H4 fun z H5=>tset o i z H5 fun H6=>D.nx σ H6
def ci8 (X:Cx)(t:V->V->Hp->VK->Prop):Prop:=
 ∀ (pins:List (Addr × Obj)) (s:Shared) (σ:St) (H:Hp) (o i:V) (ov iv:Value) (Q:VK),Inv X pins σ H s->RelV o ov->RelV i iv->t o i H Q ->
  p9 (p7 X.prog X.w) X.A (bm7 ov iv) (EP X pins σ Q) X.xe s
theorem aK8 {o i:Expr}{to ti:TE}{tget:V->V->Hp->VK->Prop}{tip:TIp}{tset:ca6}{op:Operator}{tpos:Pos}(ho:PE X o to)(hi:PE X i ti)(hg:ci8 X tget)(he:PE X e te)(hp:PIp X op tip)(hs:ci7 X tset)
  (ha:∀ ov iv new,augStore i ov iv new=(do cc5 [new,ov,iv] (setItem ov iv new);release [new,ov,iv] [];pure .next):=by intros;rfl):PS X (.AugAssign (.Subscript o i tpos) op e pos) (ce2 to ti te tget tip tset):=by
 intro pins s σ H D I h
 refine wpAny_AugAssign_SubscriptAny (thn (ho pins s σ H _ I h) fun ov s1 ⟨x1,H1,I1,r1,q1⟩=>?_) ha
 refine thn (hi pins s1 σ H1 _ I1 q1) fun iv s2 ⟨x2,H2,I2,r2,q2⟩=>?_
 refine thn (hg pins s2 σ H2 x1 x2 ov iv _ I2 r1 r2 q2) fun old s3 ⟨x3,H3,I3,r3,q3⟩=>?_
 refine thn (he pins s3 σ H3 _ I3 q3) fun v s4 ⟨x4,H4,I4,r4,q4⟩=>?_
 refine thn (hp pins s4 σ H4 x3 x4 old v _ I4 r3 r4 q4) fun new s5 ⟨x5,H5,I5,r5,q5⟩=>?_
 exact thn (hs pins s5 σ H5 x1 x2 x5 ov iv new _ I5 r1 r2 r5 q5) fun _ s6 ⟨H6,I6,q6⟩=>⟨σ,H6,I6,q6⟩
def ipI (f:Int->Int->Int):TIp:=fun x y H Q=>∃ i j,x=.int i/\y=.int j/\Q (.int (f i j)) H
theorem bc4:PIp X .Add (ipI fun i j=>i+j):=by
 intro pins s σ H x y v u Q I r1 r2 h
 obtain⟨i,j,e1,e2,q⟩:=h
 subst e1;subst e2
 obtain⟨t,rfl⟩:=r1
 obtain⟨t',rfl⟩:=r2
 exact iadd_int ⟨.int _,H,I.tok _,⟨_,rfl⟩,q⟩
def bT7 (c:TT)(tb:TS):TS:=fun D σ H=>∃ W:Nat->St->Hp->Prop,(∃ m,W m σ H)/\∀ m σ H,W m σ H ->
 c σ H fun b H1=>if b=true then ∃ N:St->Hp->Prop,(∀ σ' H',N σ' H'->∃ m',m'<m/\W m' σ' H')/\tb { D with nx:=N,ct:=N,bk:=D.nx } σ H1 else D.nx σ H1
theorem bx1 {c:Expr}{body:List Stmt}{tc:TT}{tb:TS}(hp:PassesOwn (p7 X.prog X.w) X.A X.env X.xe)(hc:PT X c tc)(hb:PSs X body tb):PS X (.While c body [] pos) (bT7 tc tb):=by
 intro pins s σ H D I h
 obtain⟨W,⟨m0,w0⟩,turn⟩:=h
 refine wpAny_While (codeAny_whileLoop (fun n s'=>∃ σ' H',Inv X pins σ' H' s'/\W n σ' H') ?_ m0 ⟨σ,H,I,w0⟩)
 rintro n s1 ⟨σ1,H1,I1,w1⟩
 refine R3 hp (thn (hc pins s1 σ1 H1 _ I1 (turn n σ1 H1 w1)) fun b s2 ⟨H2,I2,q2⟩=>?_)
 cases b with
 | true =>
  obtain⟨N,hN,q2⟩:=q2
  rw[if_pos rfl]
  refine R3 hp (thn (hb pins s2 σ1 H2 _ I2 q2) fun f s3 q3=>?_)
  cases f with
  | next =>
   obtain⟨σ3,H3,I3,n3⟩:=q3
   obtain⟨m',hm,w3⟩:=hN σ3 H3 n3
   exact⟨m',hm,σ3,H3,I3,w3⟩
  | cont =>
   obtain⟨σ3,H3,I3,n3⟩:=q3
   obtain⟨m',hm,w3⟩:=hN σ3 H3 n3
   exact⟨m',hm,σ3,H3,I3,w3⟩
  | brk=>exact q3
  | ret v=>exact q3
 | false =>
  rw[if_neg j5]
  exact au2 ⟨σ1,H2,I2,q2⟩
structure It where
 go:Nat->Hp->Prop
 yld:Nat->Hp->V->Hp->Prop
 stop:Nat->Hp->Prop
def R4 (X:Cx)(pins:List (Addr × Obj))(H:Hp)(b:Addr):Prop:=
 H b=none/\b≠X.env.locals/\b∉X.fs/\(b∈X.ex\/X.s₀.heap.objs.size<=b)/\(∀ x c,X.env.cells.lookup x=some c->c≠b)/\∀ p∈X.pn++pins,p.1≠b
theorem Inv.fpOk {b:Addr}(I:Inv X pins σ H s)(hb:s.heap.objs.size<=b)(hn:H' b=none):R4 X pins H' b:=by
 refine⟨hn,Y0 (p5 I.lt hb),I.nofs hb,.inr (p8 I.sz hb),fun x c e z=>?_,fun p hp z=>?_⟩
 ·obtain⟨v,q⟩:=I.cell x c e
  exact absurd (p5 q.lt (by rw[z];exact hb)) (G5 _)
 ·exact absurd (p5 (j4 (I.pin p hp).1) (by rw[z];exact hb)) (G5 _)
structure Turn (P:Program) (w:World) (K:W.Frag) (tg:Expr) (J:It) (fp:List Addr) (it:Addr) (tn:Nat->Heap->Prop):Prop where
 mem:it∈fp
 obj:∀ i h,tn i h->∀ b∈fp,∃ o,h.get? b=some o/\∀ v,o.data≠.cell v
 keep:∀ i h h',tn i h->(∀ b∈fp,∀ o,h.get? b=some o->h'.get? b=some o)->tn i h'
 item:∀ (X:Cx),X.prog=P->X.w=w->X.K=K->X.calm=true->∀ (i:Nat) (pins:List (Addr × Obj)) (s:Shared) (σ:St) (H:Hp) (E:Value->Shared->Prop),Inv X pins σ H s->(∀ b∈fp,R4 X pins H b)->tn i s.heap->J.go i H ->
  p9 (p7 P w) X.A (pyNext (.ref it)) (fun r s1=>∃ u,r=some u /\
   p9 (p7 P w) X.A (bm8 tg (.ref it) u) (fun _ s2=>∃ x H',Inv X pins σ H' s2/\RelV x u/\J.yld i H x H'/\tn (i+1) s2.heap/\∀ b∈fp,H' b=none) E s1) E s
 done:∀ (X:Cx),X.prog=P->X.w=w->X.K=K->X.calm=true->∀ (i:Nat) (pins:List (Addr × Obj)) (s:Shared) (σ:St) (H:Hp) (E:Value->Shared->Prop),Inv X pins σ H s->(∀ b∈fp,R4 X pins H b)->tn i s.heap->J.stop i H ->
  p9 (p7 P w) X.A (pyNext (.ref it)) (fun r s1=>r=none/\Inv X pins σ H s1) E s
 self:∀ (A:Around) (i:Nat) (s:Shared) (Q:Value->Shared->Prop) (E:Value->Shared->Prop),tn i s.heap->Q (.ref it) s->p9 (p7 P w) A (pyIter (.ref it)) Q E s
abbrev TI:=St->Hp->(It->Hp->Prop)->Prop
def PIE (X:Cx)(pins:List (Addr × Obj))(σ:St)(tg:Expr)(R:It->Hp->Prop)(itv:Value)(s2:Shared):Prop:=
 ∃ (it:Addr) (fp:List Addr) (tn:Nat->Heap->Prop) (J:It) (H':Hp),itv=.ref it/\Inv X pins σ H' s2/\Turn X.prog X.w X.K tg J fp it tn/\tn 0 s2.heap/\(∀ b∈fp,R4 X pins H' b)/\R J H'
def PI (X:Cx)(tg iter:Expr)(wi:TI):Prop:=
 ∀ (pins:List (Addr × Obj)) (s:Shared) (σ:St) (H:Hp) (R:It->Hp->Prop),Inv X pins σ H s->wi σ H R ->
  p9 (p7 X.prog X.w) X.A (eval iter X.env) (fun v s1=>p9 (p7 X.prog X.w) X.A (pyIter v) (PIE X pins σ tg R) X.xe s1) X.xe s
theorem bB5 {it:Addr} {o:Obj} {n:String} {vs:Array Value} {Q:Unit->Shared->Prop} (ho:s.heap.get? it=some o) (hc:o.cls=.type n) (hd:o.data=.fields vs)
    (hn:["enumerate","zip","dict_itemiterator","dict_reverseitemiterator","odict_iterator","itertools.zip_longest","itertools.pairwise"].contains n=false) (hQ:Q () s):p9 M A (bm8 tg (.ref it) u) Q E s:=by
  unfold bm8
  cases tg<;>first
    | exact j9 hQ
    | (cases u<;>first
        | exact j9 hQ
        | (refine a8 (wpAny_load ho ?_)
           rw[hc,hd]
           show p9 M A (if (["enumerate","zip","dict_itemiterator","dict_reverseitemiterator","odict_iterator","itertools.zip_longest","itertools.pairwise"].contains n && vs[0]? == some (au3 _))=true then _ else _) Q E s
           rw[if_neg (by intro h;rw[hn,Bool.false_and]at h;cases h)]
           exact j9 hQ))
def Itl (K:W.Frag)(a:Addr):It:=
 ⟨fun i H=>∃ xs x,SqL K H a xs/\xs[i]?=some x,fun i H x H'=>H'=H/\∀ xs,SqL K H a xs->xs[i]?=some x,fun i H=>∃ xs,SqL K H a xs/\xs.length<=i⟩
def Itt (K:W.Frag)(a:Addr):It:=
 ⟨fun i H=>∃ xs x,SqT K H a xs/\xs[i]?=some x,fun i H x H'=>H'=H/\∀ xs,SqT K H a xs->xs[i]?=some x,fun i H=>∃ xs,SqT K H a xs/\xs.length<=i⟩
def Itr (lo:Int)(n:Nat):It:=⟨fun i _=>i<n,fun i H x H'=>H'=H/\x=.int (lo+i),fun i _=>n<=i⟩
theorem bo0 {K:W.Frag}(a it:Addr):Turn P w K tg (Itl K a) [it] it (fun i h=>h.IsListIter it a i) where
 mem:=by simp
 obj:=fun i h st b hb=>by
  have e:b=it:=by simpa using hb
  subst e
  obtain⟨o,e,c,d⟩:=st
  exact⟨o,e,fun v z=>by rw[d]at z;cases z⟩
 keep:=fun i h h' st k=>st.at fun o e=>k it (by simp) o e
 item:=by
  intro X hP hw hK hc i pins s σ H E I hf st hg
  subst hP hw hK
  obtain⟨xs,x,hq,hx⟩:=hg
  obtain⟨its,rv,p,hz⟩:=I.list hq
  obtain⟨u,hu,ru⟩:=rv.get hx
  obtain⟨f0,f1,f2,f3,f4,f5⟩:=hf it (by simp)
  refine wpAny_pyNext_list_item st p.isList (x:=u) (by simpa using hu) fun h' st' sb=>?_
  have I1:Inv X pins σ H { s with heap:=h' }:=I.turned (t':=s.toks) (fun b o hb e=>(sb.2 b hb).trans e) f0 f1 f3 f4 f5
  obtain⟨o,e,c,d⟩:=id st'
  exact⟨u,rfl,bB5 (s:={ s with heap:=h' }) e c d (by decide) ⟨x,H,I1,ru,⟨rfl,fun ys hy=>by rw[I.list_inj hy hq];exact hx⟩,st',fun b hb=>(hf b hb).1⟩⟩
 done:=by
  intro X hP hw hK hc i pins s σ H E I hf st hg
  subst hP hw hK
  obtain⟨xs,hq,hx⟩:=hg
  obtain⟨its,rv,p,hz⟩:=I.list hq
  obtain⟨f0,f1,f2,f3,f4,f5⟩:=hf it (by simp)
  have hl:=rv.length
  exact wpAny_pyNext_list_end (I.ok.hd hc) st p.isList (by simp;omega) fun h' eb=>⟨rfl,I.turned (t':=s.toks) (fun b o hb e=>eb b o hb e) f0 f1 f3 f4 f5⟩
 self:=fun _ _ _ _ _ st h=>wpAny_pyIter_listiter st h
theorem aZ3 {K:W.Frag}(a it:Addr):Turn P w K tg (Itt K a) [it] it (fun i h=>h.IsTupleIter it a i) where
 mem:=by simp
 obj:=fun i h st b hb=>by
  have e:b=it:=by simpa using hb
  subst e
  obtain⟨o,e,c,d⟩:=st
  exact⟨o,e,fun v z=>by rw[d]at z;cases z⟩
 keep:=fun i h h' st k=>st.at fun o e=>k it (by simp) o e
 item:=by
  intro X hP hw hK hc i pins s σ H E I hf st hg
  subst hP hw hK
  obtain⟨xs,x,hq,hx⟩:=hg
  obtain⟨its,rv,p,hz⟩:=I.tuple hq
  obtain⟨u,hu,ru⟩:=rv.get hx
  obtain⟨f0,f1,f2,f3,f4,f5⟩:=hf it (by simp)
  refine wpAny_pyNext_tuple_item st (show s.heap.IsTuple a its.toArray from p) (x:=u) (by simpa using hu) fun h' st' sb=>?_
  have I1:Inv X pins σ H { s with heap:=h' }:=I.turned (t':=s.toks) (fun b o hb e=>(sb.2 b hb).trans e) f0 f1 f3 f4 f5
  obtain⟨o,e,c,d⟩:=id st'
  exact⟨u,rfl,bB5 (s:={ s with heap:=h' }) e c d (by decide) ⟨x,H,I1,ru,⟨rfl,fun ys hy=>by rw[I.tuple_inj hy hq];exact hx⟩,st',fun b hb=>(hf b hb).1⟩⟩
 done:=by
  intro X hP hw hK hc i pins s σ H E I hf st hg
  subst hP hw hK
  obtain⟨xs,hq,hx⟩:=hg
  obtain⟨its,rv,p,hz⟩:=I.tuple hq
  obtain⟨f0,f1,f2,f3,f4,f5⟩:=hf it (by simp)
  have hl:=rv.length
  exact wpAny_pyNext_tuple_end (I.ok.hd hc) st (show s.heap.IsTuple a its.toArray from p) (by simp;omega) fun h' eb=>⟨rfl,I.turned (t':=s.toks) (fun b o hb e=>eb b o hb e) f0 f1 f3 f4 f5⟩
 self:=fun _ _ _ _ _ st h=>wpAny_pyIter_tupleiter st h
theorem aZ4 {K:W.Frag}(it:Addr)(lo:Int)(n:Nat):Turn P w K tg (Itr lo n) [it] it (fun i h=>IsRangeIter h it (lo+(i:Nat)*1) ((n:Int) - (i:Nat)) 1) where
 mem:=by simp
 obj:=fun i h st b hb=>by
  have e:b=it:=by simpa using hb
  subst e
  exact⟨_,st,fun v z=>by
   have z':Data.fields _=Data.cell v:=z
   cases z'⟩
 keep:=fun i h h' st k=>k it (by simp) _ st
 item:=by
  intro X hP hw hK hc i pins s σ H E I hf st hg
  subst hP hw hK
  obtain⟨f0,f1,f2,f3,f4,f5⟩:=hf it (by simp)
  have W:=Walks.range (prog:=X.prog) (w:=X.w) (I.ok.hd hc) it lo 1 n
  refine W.item i s _ _ hg st fun v h' tk hv st' kk=>?_
  obtain⟨t,rfl⟩:=hv
  have I1:Inv X pins σ H { s with heap:=h',toks:=tk }:=I.turned (fun b o hb e=>kk b o (by simpa using hb) e) f0 f1 f3 f4 f5
  refine⟨_,rfl,bB5 (s:={ s with heap:=h',toks:=tk }) (n:="range_iterator") st' rfl rfl (by decide) ⟨.int (lo+i),H,I1,⟨t,?_⟩,⟨rfl,rfl⟩,st',fun b hb=>(hf b hb).1⟩⟩
  rw[N7]
 done:=by
  intro X hP hw hK hc i pins s σ H E I hf st hg
  subst hP hw hK
  obtain⟨f0,f1,f2,f3,f4,f5⟩:=hf it (by simp)
  exact wpAny_pyNext_range_end (I.ok.hd hc) st (by have:n<=i:=hg;omega) fun h' eb=>⟨rfl,I.turned (t':=s.toks) (fun b o hb e=>eb b o hb e) f0 f1 f3 f4 f5⟩
 self:=fun _ _ _ _ _ st h=>wpAny_pyIter_rangeiter st h
def ch5 (K:W.Frag)(tl:TE):TI:=fun σ H R=>tl σ H fun x H1=>∃ a,x=.ref a/\(∃ xs,SqL K H1 a xs)/\R (Itl K a) H1
def cl1 (K:W.Frag)(tl:TE):TI:=fun σ H R=>tl σ H fun x H1=>∃ a,x=.ref a/\(∃ xs,SqT K H1 a xs)/\R (Itt K a) H1
theorem Q2 {l:Expr}{tl:TE}(hl:PE X l tl):PI X tg l (ch5 X.K tl):=by
 intro pins s σ H R I h
 refine thn (hl pins s σ H _ I h) fun v s1 ⟨x,H1,I1,r1,q1⟩=>?_
 obtain⟨a,e,⟨xs,hq⟩,q⟩:=q1
 subst e
 cases r1
 obtain⟨its,rv,p,hz⟩:=I1.list hq
 refine wpAny_pyIter_list p.isList ?_
 refine⟨s1.heap.objs.size,[s1.heap.objs.size],_,_,H1,rfl,I1.kept (t':=s1.toks) fun b o e=>a7 _ e,bo0 a _,⟨_,m7 _ rfl,rfl,rfl⟩,fun b hb=>?_,q⟩
 have e:b=s1.heap.objs.size:=by simpa using hb
 subst e
 exact I1.fpOk (c5 _) (I1.hok.fresh (c5 _))
theorem bx4 {l:Expr}{tl:TE}(hl:PE X l tl):PI X tg l (cl1 X.K tl):=by
 intro pins s σ H R I h
 refine thn (hl pins s σ H _ I h) fun v s1 ⟨x,H1,I1,r1,q1⟩=>?_
 obtain⟨a,e,⟨xs,hq⟩,q⟩:=q1
 subst e
 cases r1
 obtain⟨its,rv,p,hz⟩:=I1.tuple hq
 refine ai0 (show s1.heap.IsTuple a its.toArray from p) ?_
 refine⟨s1.heap.objs.size,[s1.heap.objs.size],_,_,H1,rfl,I1.kept (t':=s1.toks) fun b o e=>a7 _ e,aZ3 a _,⟨_,m7 _ rfl,rfl,rfl⟩,fun b hb=>?_,q⟩
 have e:b=s1.heap.objs.size:=by simpa using hb
 subst e
 exact I1.fpOk (c5 _) (I1.hok.fresh (c5 _))
theorem aS3 {R:It->Hp->Prop}{lo hi:Int}{t u v:Tok}{tk:Nat}(I:Inv X pins σ H s)(h1:-(2 ^ 62)<=lo)(h2:lo<2 ^ 62)(h3:-(2 ^ 62)<=hi)(h4:hi<2 ^ 62)
  (q:R (Itr lo (hi - lo).toNat) H):p9 (p7 X.prog X.w) X.A (pyIter (.ref s.heap.objs.size)) (PIE X pins σ tg R) E { s with heap:=s.heap.push { cls:=.type "range",data:=.fields #[.int lo t,.int hi u,.int 1 v] },toks:=tk }:=by
 refine wpAny_pyIter_range (IsRange.new ..) (small_one h1 h2 h3 h4) ?_
 have I1:Inv X pins σ H { s with heap:=s.heap.push { cls:=.type "range",data:=.fields #[.int lo t,.int hi u,.int 1 v] },toks:=tk }:=I.kept fun b o e=>a7 _ e
 refine⟨(s.heap.push { cls:=.type "range",data:=.fields #[.int lo t,.int hi u,.int 1 v] }).objs.size,[(s.heap.push { cls:=.type "range",data:=.fields #[.int lo t,.int hi u,.int 1 v] }).objs.size],_,_,H,rfl,
  I1.kept (t':=tk) fun b o e=>a7 _ e,aZ4 _ lo (hi - lo).toNat,?_,fun b hb=>?_,q⟩
 ·have e1:lo+((0:Nat):Int)*1=lo:=by simp
  have e2:(((hi - lo).toNat:Nat):Int) - ((0:Nat):Int)=Builtin.Range.rangeSize lo hi 1:=by rw[bG5];split<;>omega
  show IsRangeIter _ _ (lo+((0:Nat):Int)*1) ((((hi - lo).toNat:Nat):Int) - ((0:Nat):Int)) 1
  rw[e1,e2]
  exact m7 _ rfl
 ·have e:b=(s.heap.push { cls:=.type "range",data:=.fields #[.int lo t,.int hi u,.int 1 v] }).objs.size:=by simpa using hb
  subst e
  exact I1.fpOk (c5 _) (I1.hok.fresh (c5 _))
def ch4 (ta:TA):TI:=fun σ H R=>ta σ H fun vs H1=>∃ j:Int,vs=[.int j] /\ -(2 ^ 62)<=j/\j<2 ^ 62/\R (Itr 0 j.toNat) H1
def ch3 (ta:TA):TI:=fun σ H R=>ta σ H fun vs H1=>∃ i j:Int,vs=[.int i,.int j]/\(-(2 ^ 62)<=i/\i<2 ^ 62 /\ -(2 ^ 62)<=j/\j<2 ^ 62)/\R (Itr i (j - i).toNat) H1
theorem ab0 {a:Expr}{ta:TA}{p:Pos}(hg:Gl X "range")(hm:X.mg "range"=none)(ha:PA X [a] ta)(hs:A6 [a] X.env=[(false,eval a X.env)]:=by rfl):PI X tg (.Call (.Name "range" p) [a] [] pos) (ch4 ta):=by
 intro pins s σ H R I h
 refine Call_ (aa1 I hg hm bF4 (PyProof.Rows.callWith_type1 (thn (ha pos pins s σ H _ I h) fun us s1 ⟨vs,H1,I1,r1,q1⟩=>?_) hs rfl))
 obtain⟨j,e,q1,q2,q⟩:=q1
 subst e
 cases r1 with
 | cons r rr =>
  cases rr
  obtain⟨t,rfl⟩:=r
  exact call_range_1 (aS3 I1 (by omega) (by omega) q1 q2 (by simpa using q))
theorem aq5 {a b:Expr}{ta:TA}{p:Pos}(hg:Gl X "range")(hm:X.mg "range"=none)(ha:PA X [a,b] ta)(hs:A6 [a,b] X.env=[(false,eval a X.env),(false,eval b X.env)]:=by rfl)(hs2:A6 [b] X.env=[(false,eval b X.env)]:=by rfl) :
  PI X tg (.Call (.Name "range" p) [a,b] [] pos) (ch3 ta):=by
 intro pins s σ H R I h
 refine Call_ (aa1 I hg hm bF4 (PyProof.Rows.callWith_type1 (thn (ha pos pins s σ H _ I h) fun us s1 ⟨vs,H1,I1,r1,q1⟩=>?_) (by rw[hs,hs2]) (by rw[hs2];rfl)))
 obtain⟨i,j,e,⟨q1,q2,q3,q4⟩,q⟩:=q1
 subst e
 cases r1 with
 | cons r rr =>
  cases rr with
  | cons r' rr =>
   cases rr
   obtain⟨t,rfl⟩:=r
   obtain⟨t',rfl⟩:=r'
   exact call_range_2 (aS3 I1 q1 q2 q3 q4 q)
def cj9 (wi:TI)(g:TG)(tb:TS):TS:=fun D σ H=>wi σ H fun J H1=>∃ W:Nat->Nat->St->Hp->Prop,(∃ m,W 0 m σ H1)/\∀ i m σ H,W i m σ H ->
 (J.stop i H/\D.nx σ H)\/(J.go i H/\∃ N:St->Hp->Prop,(∀ σ' H',N σ' H'->∃ m',m'<m/\W (i+1) m' σ' H')/\∀ x H',J.yld i H x H'->g x σ H' fun σ2 H2=>tb { D with nx:=N,ct:=N,bk:=D.nx } σ2 H2)
def al5 (fp:List Addr)(h:Heap):List (Addr × Obj):=fp.filterMap fun b=>(h.get? b).map fun o=>(b,o)
theorem Q5 {b:Addr}{o:Obj}(hb:b∈fp)(e:h.get? b=some o):(b,o)∈al5 fp h:=ae6.mpr ⟨b,hb,by rw[e];rfl⟩
theorem bq1 {p:Addr × Obj}(hp:p∈al5 fp h):p.1∈fp/\h.get? p.1=some p.2:=by
 obtain⟨b,hb,e⟩:=ae6.mp hp
 cases q:h.get? b with
 | none=>rw[q]at e;cases e
 | some o =>
  rw[q]at e
  have e':(b,o)=p:=Option.some.inj e
  subst e'
  exact⟨hb,q⟩
theorem Inv.pinned (I:Inv X pins σ H s)(hf:∀ b∈fp,R4 X pins H b)(ho:∀ b∈fp,∃ o,s.heap.get? b=some o/\∀ v,o.data≠.cell v):Inv X (pins++al5 fp s.heap) σ H s:=
 I.pins_of fun p hp=>(k7.mp hp).elim (fun z=>I.pin p (k9 _ z)) fun z=>by
  obtain⟨hb,e⟩:=bq1 z
  obtain⟨f0,f1,f2,_⟩:=hf p.1 hb
  obtain⟨o,e',d⟩:=ho p.1 hb
  rw[e]at e';cases e'
  exact⟨e,f0,f1,f2,d⟩
theorem Inv.unpinned {pl:List (Addr × Obj)}(I:Inv X (pins++pl) σ H s):Inv X pins σ H s:=I.pins_of fun p hp=>I.pin p (k9 _ (D7 _ hp))
theorem aa0 {iter:Expr}{body:List Stmt}{wi:TI}{g:TG}{tb:TS}(hp:PassesOwn (p7 X.prog X.w) X.A X.env X.xe)(hc:X.calm=true)(hi:PI X tg iter wi)(hg:PG X tg g)(hb:PSs X body tb)
  (hs:∀ x,al0 iter X.env x=pure x:=by intro _;rfl):PS X (.For tg iter body [] pos) (cj9 wi g tb):=by
 intro pins s σ H D I h
 refine wpAny_For (thn (hi pins s σ H _ I h) fun v s1 h1=>thn h1 fun itv s2 h2=>?_) hs
 obtain⟨it,fp,tn,J,H2,e,I2,T,st2,f2,W,⟨m0,w0⟩,turn⟩:=h2
 subst e
 have stat:∀ {H':Hp},(∀ b∈fp,H' b=none)->∀ b∈fp,R4 X pins H' b:=fun hn b hb=>⟨hn b hb,(f2 b hb).2⟩
 refine codeAny_forLoop_any (fun n s'=>∃ i σ' H',Inv X pins σ' H' s'/\tn i s'.heap/\(∀ b∈fp,H' b=none)/\W i n σ' H') ?_ m0 ⟨0,σ,H2,I2,st2,fun b hb=>(f2 b hb).1,w0⟩
 rintro n s3 ⟨i,σ3,H3,I3,st3,fr3,w3⟩
 rcases turn i n σ3 H3 w3 with⟨stop,qn⟩ | ⟨go,N,hN,step⟩
 ·refine R3 hp (thn (T.done X rfl rfl rfl hc i pins s3 σ3 H3 X.xe I3 (stat fr3) st3 stop) fun r s4 ⟨hr,I4⟩=>?_)
  subst hr
  exact au2 ⟨σ3,H3,I4,qn⟩
 ·refine R3 hp (thn (T.item X rfl rfl rfl hc i pins s3 σ3 H3 X.xe I3 (stat fr3) st3 go) fun r s4 ⟨u,hr,h4⟩=>?_)
  subst hr
  refine R3 hp (thn h4 fun _ s5 ⟨x,H5,I5,r5,y5,st5,fr5⟩=>?_)
  have I5':=I5.pinned (stat fr5) (T.obj _ _ st5)
  refine R3 hp (thn (hg _ s5 σ3 H5 x u _ I5' r5 (step x H5 y5)) fun _ s6 ⟨σ6,H6,I6,q6⟩=>?_)
  refine R3 hp (thn (hb _ s6 σ6 H6 _ I6 q6) fun f s7 q7=>?_)
  have bS2:∀ {σ7:St} {H7:Hp},Inv X (pins++al5 fp s5.heap) σ7 H7 s7->N σ7 H7->∃ m,m<n/\∃ i σ' H',Inv X pins σ' H' s7/\tn i s7.heap/\(∀ b∈fp,H' b=none)/\W i m σ' H':=fun {σ7 H7} I7 n7=>by
   obtain⟨m',hm,w7⟩:=hN σ7 H7 n7
   refine⟨m',hm,i+1,σ7,H7,I7.unpinned,T.keep _ _ _ st5 fun b hb o e=>(I7.pin (b,o) (k9 _ (k9 _ (Q5 hb e)))).1,fun b hb=>?_,w7⟩
   obtain⟨o,e,d⟩:=T.obj _ _ st5 b hb
   exact(I7.pin (b,o) (k9 _ (k9 _ (Q5 hb e)))).2.1
  cases f with
  | next=>obtain⟨σ7,H7,I7,n7⟩:=q7;exact bS2 I7 n7
  | cont=>obtain⟨σ7,H7,I7,n7⟩:=q7;exact bS2 I7 n7
  | brk=>obtain⟨σ7,H7,I7,q7⟩:=q7;exact⟨σ7,H7,I7.unpinned,q7⟩
  | ret v=>obtain⟨x7,σ7,H7,I7,r7,q7⟩:=q7;exact⟨x7,σ7,H7,I7.unpinned,r7,q7⟩
theorem aV7 {K:W.Frag}{g:TG}{tb:TS}{D:Ends}(Pv:Nat->St->Hp->Prop)(h0:Pv 0 σ H)(hl:∀ i σ H,i<=xs.length->Pv i σ H->SqL K H a xs)
  (hs:∀ i x σ H,xs[i]?=some x->Pv i σ H->g x σ H fun σ2 H2=>tb { D with nx:=Pv (i+1),ct:=Pv (i+1),bk:=D.nx } σ2 H2)(hd:∀ σ H,Pv xs.length σ H->D.nx σ H) :
  ∃ W:Nat->Nat->St->Hp->Prop,(∃ m,W 0 m σ H)/\∀ i m σ H,W i m σ H ->
   ((Itl K a).stop i H/\D.nx σ H)\/((Itl K a).go i H/\∃ N:St->Hp->Prop,(∀ σ' H',N σ' H'->∃ m',m'<m/\W (i+1) m' σ' H')/\∀ x H',(Itl K a).yld i H x H'->g x σ H' fun σ2 H2=>tb { D with nx:=N,ct:=N,bk:=D.nx } σ2 H2):=by
 refine⟨fun i m σ H=>m=xs.length - i/\i<=xs.length/\Pv i σ H,⟨xs.length,by simp,o5 _,h0⟩,?_⟩
 rintro i m σ H ⟨rfl,hi,p⟩
 have q:=hl i σ H hi p
 by_cases hlt:i<xs.length
 ·refine .inr ⟨⟨xs,xs[i],q,by simp[hlt]⟩,Pv (i+1),fun σ' H' p'=>⟨xs.length - (i+1),by omega,rfl,hlt,p'⟩,fun x H' y=>?_⟩
  obtain⟨e,y⟩:=y
  subst e
  exact hs i x σ _ (y xs q) p
 ·have e:i=xs.length:=by omega
  subst e
  exact .inl ⟨⟨xs,q,c5 _⟩,hd σ H p⟩
theorem bM5 {K:W.Frag}{g:TG}{tb:TS}{D:Ends}(Pv:Nat->St->Hp->Prop)(h0:Pv 0 σ H)(hl:∀ i σ H,i<=xs.length->Pv i σ H->SqT K H a xs)
  (hs:∀ i x σ H,xs[i]?=some x->Pv i σ H->g x σ H fun σ2 H2=>tb { D with nx:=Pv (i+1),ct:=Pv (i+1),bk:=D.nx } σ2 H2)(hd:∀ σ H,Pv xs.length σ H->D.nx σ H) :
  ∃ W:Nat->Nat->St->Hp->Prop,(∃ m,W 0 m σ H)/\∀ i m σ H,W i m σ H ->
   ((Itt K a).stop i H/\D.nx σ H)\/((Itt K a).go i H/\∃ N:St->Hp->Prop,(∀ σ' H',N σ' H'->∃ m',m'<m/\W (i+1) m' σ' H')/\∀ x H',(Itt K a).yld i H x H'->g x σ H' fun σ2 H2=>tb { D with nx:=N,ct:=N,bk:=D.nx } σ2 H2):=by
 refine⟨fun i m σ H=>m=xs.length - i/\i<=xs.length/\Pv i σ H,⟨xs.length,by simp,o5 _,h0⟩,?_⟩
 rintro i m σ H ⟨rfl,hi,p⟩
 have q:=hl i σ H hi p
 by_cases hlt:i<xs.length
 ·refine .inr ⟨⟨xs,xs[i],q,by simp[hlt]⟩,Pv (i+1),fun σ' H' p'=>⟨xs.length - (i+1),by omega,rfl,hlt,p'⟩,fun x H' y=>?_⟩
  obtain⟨e,y⟩:=y
  subst e
  exact hs i x σ _ (y xs q) p
 ·have e:i=xs.length:=by omega
  subst e
  exact .inl ⟨⟨xs,q,c5 _⟩,hd σ H p⟩
theorem aj3 {lo:Int}{g:TG}{tb:TS}{D:Ends}(Pv:Nat->St->Hp->Prop)(h0:Pv 0 σ H)
  (hs:∀ i σ H,i<n->Pv i σ H->g (.int (lo+i)) σ H fun σ2 H2=>tb { D with nx:=Pv (i+1),ct:=Pv (i+1),bk:=D.nx } σ2 H2)(hd:∀ σ H,Pv n σ H->D.nx σ H) :
  ∃ W:Nat->Nat->St->Hp->Prop,(∃ m,W 0 m σ H)/\∀ i m σ H,W i m σ H ->
   ((Itr lo n).stop i H/\D.nx σ H)\/((Itr lo n).go i H/\∃ N:St->Hp->Prop,(∀ σ' H',N σ' H'->∃ m',m'<m/\W (i+1) m' σ' H')/\∀ x H',(Itr lo n).yld i H x H'->g x σ H' fun σ2 H2=>tb { D with nx:=N,ct:=N,bk:=D.nx } σ2 H2):=by
 refine⟨fun i m σ H=>m=n - i/\i<=n/\Pv i σ H,⟨n,by simp,o5 _,h0⟩,?_⟩
 rintro i m σ H ⟨rfl,hi,p⟩
 by_cases hlt:i<n
 ·refine .inr ⟨hlt,Pv (i+1),fun σ' H' p'=>⟨n - (i+1),by omega,rfl,hlt,p'⟩,fun x H' y=>?_⟩
  obtain⟨e,y⟩:=y
  subst e y
  exact hs i σ _ hlt p
 ·have e:i=n:=by omega
  subst e
  exact .inl ⟨c5 _,hd σ H p⟩
abbrev R2:=V->V->Hp->VK->Prop
def OpR (X:Cx)(f:Value->Value->Sem Value)(r:R2):Prop:=
 ∀ (pins:List (Addr × Obj)) (s:Shared) (σ:St) (H:Hp) (x y:V) (v u:Value) (Q:VK),Inv X pins σ H s->RelV x v->RelV y u->r x y H Q ->
  p9 (p7 X.prog X.w) X.A (f v u) (EP X pins σ Q) X.xe s
def UnR (X:Cx)(f:Value->Sem Value)(r:V->Hp->VK->Prop):Prop:=
 ∀ (pins:List (Addr × Obj)) (s:Shared) (σ:St) (H:Hp) (x:V) (v:Value) (Q:VK),Inv X pins σ H s->RelV x v->r x H Q ->
  p9 (p7 X.prog X.w) X.A (f v) (EP X pins σ Q) X.xe s
def X8 (X:Cx)(f:Value)(r:List V->Hp->VK->Prop):Prop:=
 ∀ (pins:List (Addr × Obj)) (s:Shared) (σ:St) (H:Hp) (xs:List V) (us:List Value) (Q:VK),Inv X pins σ H s->C3 xs us->r xs H Q ->
  p9 (p7 X.prog X.w) X.A (call f us) (EP X pins σ Q) X.xe s
def cl4 (X:Cx)(r:V->Hp->(Bool->Hp->Prop)->Prop):Prop:=
 ∀ (pins:List (Addr × Obj)) (s:Shared) (σ:St) (H:Hp) (x:V) (v:Value) (Q:Bool->Hp->Prop),Inv X pins σ H s->RelV x v->r x H Q ->
  p9 (p7 X.prog X.w) X.A (truthy v) (TP X pins σ Q) X.xe s
def tOp (r:R2)(ta tb:TE):TE:=fun σ H Q=>ta σ H fun x H1=>tb σ H1 fun y H2=>r x y H2 Q
def tUn (r:V->Hp->VK->Prop)(ta:TE):TE:=fun σ H Q=>ta σ H fun x H1=>r x H1 Q
def rI (C:Int->Int->Prop)(g:Int->Int->V):R2:=fun x y H Q=>∃ i j,x=.int i/\y=.int j/\C i j/\Q (g i j) H
def rI0 (g:Int->Int->V):R2:=fun x y H Q=>∃ i j,x=.int i/\y=.int j/\Q (g i j) H
def rU (g:Int->V):V->Hp->VK->Prop:=fun x H Q=>∃ i,x=.int i/\Q (g i) H
section
variable {a b c:Expr} {tb tc:TE}
theorem ca3 (ha:PE X a ta)(hb:PE X b tb){R:V->V->Hp->Prop}(I:Inv X pins σ H s)
  (h:ta σ H fun x H1=>tb σ H1 fun y H2=>R x y H2){f:Value->Value->Sem Value}
  (hf:∀ v u s2 x y H2,Inv X pins σ H2 s2->RelV x v->RelV y u->R x y H2->p9 (p7 X.prog X.w) X.A (f v u) Q X.xe s2) :
  p9 (p7 X.prog X.w) X.A (eval a X.env) (fun v s₁=>p9 (p7 X.prog X.w) X.A (eval b X.env) (fun u s₂=>p9 (p7 X.prog X.w) X.A (f v u) Q X.xe s₂) X.xe s₁) X.xe s:=by
 refine thn (ha pins s σ H _ I h) fun v s1 ⟨x,H1,I1,r1,q1⟩=>?_
 refine thn (hb pins s1 σ H1 _ I1 q1) fun u s2 ⟨y,H2,I2,r2,q2⟩=>?_
 exact hf v u s2 x y H2 I2 r1 r2 q2
theorem C0 {op:Operator}{r:R2}(ho:OpR X (Y7 op) r)(ha:PE X a ta)(hb:PE X b tb):PE X (.BinOp a op b pos) (tOp r ta tb):=by
 intro pins s σ H Q I h
 exact wpAny_BinOp (ca3 ha hb I h fun v u s2 x y H2 I2 rx ry q=>ho pins s2 σ H2 x y v u Q I2 rx ry q)
theorem bx5 {op:UnaryOp}{r:V->Hp->VK->Prop}(ho:UnR X (unaryOp op) r)(ha:PE X a ta):PE X (.UnaryOp op a pos) (tUn r ta):=by
 intro pins s σ H Q I h
 exact UnaryOp_ (thn (ha pins s σ H _ I h) fun v s1 ⟨x,H1,I1,r1,q1⟩=>ho pins s1 σ H1 x v Q I1 r1 q1)
theorem opI {f:Value->Value->Sem Value}{C:Int->Int->Prop}{g:Int->Int->Int}
  (rule:∀ (i j:Int) (t u:Tok) (s:Shared) (Q:Value->Shared->Prop) (E:Value->Shared->Prop),C i j->Q (.int (g i j) s.toks) { s with toks:=s.toks+1 }->p9 (p7 X.prog X.w) X.A (f (.int i t) (.int j u)) Q E s) :
  OpR X f (rI C fun i j=>.int (g i j)):=by
 intro pins s σ H x y v u Q I rx ry h
 obtain⟨i,j,rfl,rfl,hc,q⟩:=h
 obtain⟨t,rfl⟩:=rx
 obtain⟨t',rfl⟩:=ry
 exact rule i j t t' s _ _ hc ⟨.int (g i j),H,I.tok _,⟨_,rfl⟩,q⟩
theorem cg6 {f:Value->Value->Sem Value}{g:Int->Int->Int}
  (rule:∀ (i j:Int) (t u:Tok) (s:Shared) (Q:Value->Shared->Prop) (E:Value->Shared->Prop),Q (.int (g i j) s.toks) { s with toks:=s.toks+1 }->p9 (p7 X.prog X.w) X.A (f (.int i t) (.int j u)) Q E s) :
  OpR X f (rI0 fun i j=>.int (g i j)):=by
 intro pins s σ H x y v u Q I rx ry h
 obtain⟨i,j,rfl,rfl,q⟩:=h
 obtain⟨t,rfl⟩:=rx
 obtain⟨t',rfl⟩:=ry
 exact rule i j t t' s _ _ ⟨.int (g i j),H,I.tok _,⟨_,rfl⟩,q⟩
theorem bW2 {f:Value->Value->Sem Value}{g:Int->Int->Bool}
  (rule:∀ (i j:Int) (t u:Tok) (s:Shared) (Q:Value->Shared->Prop) (E:Value->Shared->Prop),Q (.bool (g i j)) s->p9 (p7 X.prog X.w) X.A (f (.int i t) (.int j u)) Q E s) :
  OpR X f (rI0 fun i j=>.bl (g i j)):=by
 intro pins s σ H x y v u Q I rx ry h
 obtain⟨i,j,rfl,rfl,q⟩:=h
 obtain⟨t,rfl⟩:=rx
 obtain⟨t',rfl⟩:=ry
 exact rule i j t t' s _ _ ⟨.bl (g i j),H,I,rfl,q⟩
def cl7 (i j:Int):Prop:=0<j/\j<1073741824
def cl6 (i j:Int):Prop:=0<=j/\j<=1000000/\i.natAbs<2 ^ 64
def ca7 (i j:Int):Prop:=(-(2 ^ 64)<i/\i<2 ^ 64)\/(-(2 ^ 64)<j/\j<2 ^ 64)
theorem ca7.ok {i j:Int}(h:ca7 i j):IntMulOk i j:=by
 rcases h with⟨h1,h2⟩ | ⟨h1,h2⟩
 ·exact .of_left (intBits_le_64 h1 h2)
 ·exact .of_right (intBits_le_64 h1 h2)
theorem X1:OpR X (Y7 .Add) (rI0 fun i j=>.int (i+j)):=cg6 fun _ _ _ _ _ _ _ q=>add_int q
theorem aq8:OpR X (Y7 .Sub) (rI0 fun i j=>.int (i - j)):=cg6 fun _ _ _ _ _ _ _ q=>sub_int q
theorem ad3:OpR X (Y7 .Mult) (rI ca7 fun i j=>.int (i*j)):=opI fun _ _ _ _ _ _ _ hc q=>mul_int q hc.ok
theorem an6:OpR X (Y7 .FloorDiv) (rI cl7 fun i j=>.int (i / j)):=opI fun i j _ _ _ _ _ hc q=>by
 have h1:(0:Int)<j:=hc.1
 have h2:j<1073741824:=hc.2
 exact floordiv_int (by omega) (by rw[Int.fdiv_eq_ediv_of_nonneg i (by omega)];exact q) (.inl (PyProof.noPylong_small (by omega)))
theorem V4:OpR X (Y7 .Mod) (rI (fun _ j=>0<j) fun i j=>.int (i % j)):=opI fun i j _ _ _ _ _ hc q=>by
 have h1:(0:Int)<j:=hc
 exact mod_int' (by omega) (by rw[Int.fmod_eq_emod_of_nonneg i (by omega)];exact q)
theorem bW1:OpR X (Y7 .Pow) (rI cl6 fun i j=>.int (i ^ j.toNat)):=opI fun _ _ _ _ _ _ _ hc q=>pow_int_small hc.1 hc.2.1 hc.2.2 q
theorem unI {f:Value->Sem Value}{g:Int->Int}
  (rule:∀ (i:Int) (t:Tok) (s:Shared) (Q:Value->Shared->Prop) (E:Value->Shared->Prop),Q (.int (g i) s.toks) { s with toks:=s.toks+1 }->p9 (p7 X.prog X.w) X.A (f (.int i t)) Q E s) :
  UnR X f (rU fun i=>.int (g i)):=by
 intro pins s σ H x v Q I rx h
 obtain⟨i,rfl,q⟩:=h
 obtain⟨t,rfl⟩:=rx
 exact rule i t s _ _ ⟨.int (g i),H,I.tok _,⟨_,rfl⟩,q⟩
theorem aZ1:UnR X (unaryOp .USub) (rU fun i=>.int (-i)):=unI fun _ _ _ _ _ q=>neg_int q
end
def ce7:V->V->Bool
 | .non,.non=>true | .non,.int _=>true | .int _,.non=>true | .non,.bl _=>true | .bl _,.non=>true | .non,.str _=>true | .str _,.non=>true
 | .int _,.int _=>true | .bl _,.bl _=>true | .str _,.str _=>true | .byt _,.byt _=>true
 | .int _,.str _=>true | .str _,.int _=>true | .bl _,.str _=>true | .str _,.bl _=>true
 | _,_=>false
def rEq:R2:=fun x y H Q=>ce7 x y=true/\Q (.bl (decide (x=y))) H
def rNe:R2:=fun x y H Q=>ce7 x y=true/\Q (.bl (!decide (x=y))) H
theorem bl2 {i j:Int}:decide (V.int i=V.int j)=(i == j):=by
 rw[ao6]
 simp
theorem bC4 {i j:Bool}:decide (V.bl i=V.bl j)=(i == j):=by
 rw[ao6]
 simp
theorem bl1 {i j:Str}:decide (V.str i=V.str j)=(i == j):=by
 rw[ao6]
 simp
theorem bl3 {i j:Array UInt8}:decide (V.byt i=V.byt j)=(i.toList == j.toList):=by
 rw[ao6]
 cases i
 cases j
 simp
section
variable {a b c:Expr} {tb tc:TE}
theorem E2 {Q:VK}{k k':Bool}(I:Inv X pins σ H s)(q:Q (.bl k) H)(e:k=k'):EP X pins σ Q (.bool k') s:=by
 subst e
 exact⟨.bl k,H,I,rfl,q⟩
theorem Z1:OpR X (J6 .Eq) rEq:=by
 intro pins s σ H x y v u Q I rx ry h
 obtain⟨hs,q⟩:=h
 cases x with
 | non =>
  cases rx
  cases y with
  | non=>cases ry;exact PySem.EqNone.eq_none_none (E2 I q (by simp))
  | bl j=>cases ry;exact PySem.EqNone.eq_none_bool (E2 I q (by simp))
  | int j=>obtain⟨t',rfl⟩:=ry;exact PySem.EqNone.eq_none_int (E2 I q (by simp))
  | str j=>obtain⟨t',rfl⟩:=ry;exact PySem.EqNone.eq_none_str (E2 I q (by simp))
  | _=>exact absurd (show false=true from hs) j5
 | bl i =>
  cases rx
  cases y with
  | non=>cases ry;exact PySem.EqNone.eq_bool_none (E2 I q (by simp))
  | bl j=>cases ry;exact eq_bool (E2 I q bC4)
  | str j=>obtain⟨t',rfl⟩:=ry;exact PySem.EqMixed.eq_bool_str (E2 I q (by simp))
  | _=>exact absurd (show false=true from hs) j5
 | int i =>
  obtain⟨t,rfl⟩:=rx
  cases y with
  | non=>cases ry;exact PySem.EqNone.eq_int_none (E2 I q (by simp))
  | int j=>obtain⟨t',rfl⟩:=ry;exact eq_int (E2 I q bl2)
  | str j=>obtain⟨t',rfl⟩:=ry;exact PySem.EqMixed.eq_int_str (E2 I q (by simp))
  | _=>exact absurd (show false=true from hs) j5
 | str i =>
  obtain⟨t,rfl⟩:=rx
  cases y with
  | non=>cases ry;exact PySem.EqNone.eq_str_none (E2 I q (by simp))
  | bl j=>cases ry;exact PySem.EqMixed.eq_str_bool (E2 I q (by simp))
  | int j=>obtain⟨t',rfl⟩:=ry;exact PySem.EqMixed.eq_str_int (E2 I q (by simp))
  | str j=>obtain⟨t',rfl⟩:=ry;exact eq_str (E2 I q bl1)
  | _=>exact absurd (show false=true from hs) j5
 | byt i =>
  obtain⟨t,rfl⟩:=rx
  cases y with
  | byt j=>obtain⟨t',rfl⟩:=ry;exact PySem.W.eq_bytes (E2 I q bl3)
  | _=>exact absurd (show false=true from hs) j5
 | _=>cases y<;>exact absurd (show false=true from hs) j5
theorem aS8:OpR X (J6 .NotEq) rNe:=by
 intro pins s σ H x y v u Q I rx ry h
 obtain⟨hs,q⟩:=h
 cases x with
 | non =>
  cases rx
  cases y with
  | non=>cases ry;exact PySem.EqNone.ne_none_none (E2 I q (by simp))
  | bl j=>cases ry;exact PySem.EqNone.ne_none_bool (E2 I q (by simp))
  | int j=>obtain⟨t',rfl⟩:=ry;exact PySem.EqNone.ne_none_int (E2 I q (by simp))
  | str j=>obtain⟨t',rfl⟩:=ry;exact PySem.EqNone.ne_none_str (E2 I q (by simp))
  | _=>exact absurd (show false=true from hs) j5
 | bl i =>
  cases rx
  cases y with
  | non=>cases ry;exact PySem.EqNone.ne_bool_none (E2 I q (by simp))
  | bl j=>cases ry;exact ne_bool (E2 I q (congrArg not bC4))
  | str j=>obtain⟨t',rfl⟩:=ry;exact PySem.EqMixed.ne_bool_str (E2 I q (by simp))
  | _=>exact absurd (show false=true from hs) j5
 | int i =>
  obtain⟨t,rfl⟩:=rx
  cases y with
  | non=>cases ry;exact PySem.EqNone.ne_int_none (E2 I q (by simp))
  | int j=>obtain⟨t',rfl⟩:=ry;exact ne_int (E2 I q (congrArg not bl2))
  | str j=>obtain⟨t',rfl⟩:=ry;exact PySem.EqMixed.ne_int_str (E2 I q (by simp))
  | _=>exact absurd (show false=true from hs) j5
 | str i =>
  obtain⟨t,rfl⟩:=rx
  cases y with
  | non=>cases ry;exact PySem.EqNone.ne_str_none (E2 I q (by simp))
  | bl j=>cases ry;exact PySem.EqMixed.ne_str_bool (E2 I q (by simp))
  | int j=>obtain⟨t',rfl⟩:=ry;exact PySem.EqMixed.ne_str_int (E2 I q (by simp))
  | str j=>obtain⟨t',rfl⟩:=ry;exact ne_str (E2 I q (congrArg not bl1))
  | _=>exact absurd (show false=true from hs) j5
 | byt i =>
  obtain⟨t,rfl⟩:=rx
  cases y with
  | byt j=>obtain⟨t',rfl⟩:=ry;exact PySem.W.ne_bytes (E2 I q (congrArg not bl3))
  | _=>exact absurd (show false=true from hs) j5
 | _=>cases y<;>exact absurd (show false=true from hs) j5
theorem at4:OpR X (J6 .Lt) (rI0 fun i j=>.bl (decide (i<j))):=bW2 fun _ _ _ _ _ _ _ q=>lt_int q
theorem aA2:OpR X (J6 .LtE) (rI0 fun i j=>.bl (decide (i<=j))):=bW2 fun _ _ _ _ _ _ _ q=>le_int q
theorem aS9:OpR X (J6 .Gt) (rI0 fun i j=>.bl (decide (j<i))):=bW2 fun _ _ _ _ _ _ _ q=>gt_int q
theorem aw5:OpR X (J6 .IsNot) (fun x y H Q=>y=.non/\Q (.bl (!decide (x=.non))) H):=by
 intro pins s σ H x y v u Q I rx ry h
 obtain⟨rfl,q⟩:=h
 cases ry
 refine isnot_none_gen (E2 I q ?_)
 cases x<;>first
  | (cases rx;rfl)
  | (obtain⟨t,rfl⟩:=rx;rfl)
theorem E1 (b:Expr){op:CmpOp}(h:op≠.In:=by decide)(h2:op≠.NotIn:=by decide):am2 op b=false:=by
 have e1:(op == CmpOp.In)=false:=by cases op<;>first | rfl | exact absurd rfl h
 have e2:(op == CmpOp.NotIn)=false:=by cases op<;>first | rfl | exact absurd rfl h2
 cases b<;>simp[am2,e1,e2]
theorem ai5 {op:CmpOp}{r:R2}(ho:OpR X (J6 op) r)(ha:PE X a ta)(hb:PE X b tb)(hm:am2 op b=false):PE X (.Compare a [op] [b] pos) (tOp r ta tb):=by
 intro pins s σ H Q I h
 exact wpAny_Compare1 (ca3 ha hb I h fun v u s2 x y H2 I2 rx ry q=>ho pins s2 σ H2 x y v u Q I2 rx ry q) hm
def bP1 (t:TE):TT:=fun σ H Q=>t σ H fun x H'=>∃ k,x=.bl k/\Q k H'
theorem A4 {op:CmpOp}{r:R2}(ho:OpR X (J6 op) r)(ha:PE X a ta)(hb:PE X b tb)(hm:am2 op b=false):PT X (.Compare a [op] [b] pos) (bP1 (tOp r ta tb)):=by
 intro pins s σ H Q I h
 refine bS0 (thn (ha pins s σ H _ I h) fun v s1 ⟨x,H1,I1,r1,q1⟩=>thn (hb pins s1 σ H1 _ I1 q1) fun u s2 ⟨y,H2,I2,r2,q2⟩ =>
  thn (ho pins s2 σ H2 x y v u _ I2 r1 r2 q2) fun c s3 ⟨z,H3,I3,r3,k,e,q3⟩=>?_) hm
 subst e
 cases r3
 exact K9 ⟨H3,I3,q3⟩
def bu9 (r r':R2)(ta tb tc:TE):TE:=fun σ H Q=>ta σ H fun x H1=>tb σ H1 fun y H2=>r x y H2 fun z H3=>∃ k,z=.bl k /\
 (if k=true then tc σ H3 fun w' H4=>r' y w' H4 Q else Q (.bl false) H3)
theorem bx9 {op op':CmpOp}{r r':R2}(ho:OpR X (J6 op) r)(ho':OpR X (J6 op') r')(ha:PE X a ta)(hb:PE X b tb)(hc:PE X c tc)
  (hm:lastMarks [op,op'] [b,c]=false:=by with_unfolding_all rfl):PE X (.Compare a [op,op'] [b,c] pos) (bu9 r r' ta tb tc):=by
 intro pins s σ H Q I h
 refine Compare_chain (thn (ha pins s σ H _ I h) fun v s1 ⟨x,H1,I1,r1,q1⟩=>chain_link (thn (hb pins s1 σ H1 _ I1 q1) fun u s2 ⟨y,H2,I2,r2,q2⟩ =>
  thn (ho pins s2 σ H2 x y v u _ I2 r1 r2 q2) fun d s3 ⟨z,H3,I3,r3,k,e,q3⟩=>?_)) hm
 subst e
 cases r3
 refine K9 ?_
 cases k with
 | false=>exact ite_ff ⟨.bl false,H3,I3,rfl,q3⟩
 | true=>exact ite_tt (chain_last (thn (hc pins s3 σ H3 _ I3 q3) fun w' s4 ⟨z',H4,I4,r4,q4⟩=>ho' pins s4 σ H4 y z' u w' Q I4 r2 r4 q4))
theorem az7 {op op':CmpOp}{r r':R2}(ho:OpR X (J6 op) r)(ho':OpR X (J6 op') r')(ha:PE X a ta)(hb:PE X b tb)(hc:PE X c tc)
  (hm:lastMarks [op,op'] [b,c]=false:=by with_unfolding_all rfl):PT X (.Compare a [op,op'] [b,c] pos) (bP1 (bu9 r r' ta tb tc)):=by
 intro pins s σ H Q I h
 refine isTrue_chain (thn (ha pins s σ H _ I h) fun v s1 ⟨x,H1,I1,r1,q1⟩=>test_link (thn (hb pins s1 σ H1 _ I1 q1) fun u s2 ⟨y,H2,I2,r2,q2⟩ =>
  thn (ho pins s2 σ H2 x y v u _ I2 r1 r2 q2) fun d s3 ⟨z,H3,I3,r3,k,e,q3⟩=>?_)) hm
 subst e
 cases r3
 refine K9 ?_
 cases k with
 | false =>
  obtain⟨k',e',q'⟩:=q3
  cases e'
  exact ite_ff ⟨H3,I3,q'⟩
 | true =>
  refine ite_tt (test_last (thn (hc pins s3 σ H3 _ I3 q3) fun w' s4 ⟨z',H4,I4,r4,q4⟩=>thn (ho' pins s4 σ H4 y z' u w' _ I4 r2 r4 q4) fun d' s5 ⟨z2,H5,I5,r5,k2,e2,q5⟩=>?_))
  subst e2
  cases r5
  exact K9 ⟨H5,I5,q5⟩
def ca5 (K:W.Frag)(x:V)(H:Hp)(k:Bool):Prop:=
 match x with
 | .non=>k=false
 | .bl b=>k=b
 | .int i=>k=(i != 0)
 | .str y=>y.length<=f6/\k=((y.length:Int) != 0)
 | .byt y=>y.size<=f6/\k=((y.size:Int) != 0)
 | .ref p=>(∃ xs,SqL K H p xs/\k=!xs.isEmpty)\/(∃ xs,SqT K H p xs/\k=!xs.isEmpty)\/∃ kvs,H p=some (.dK kvs)/\k=!kvs.isEmpty
 | _=>False
theorem bc2 {κ:Type}{kvs:List (κ × V)}{vs:List (κ × Value)}(r:KV kvs vs):(!vs.isEmpty)=!kvs.isEmpty:=by
 cases r<;>rfl
theorem aB7 {its:List Value}(r:C3 xs its):(!its.toArray.isEmpty)=!xs.isEmpty:=by
 cases r<;>simp
theorem al6:(f6:Nat)<2 ^ 63:=by rw[C6];decide
theorem bT5:cl4 X (fun x H Q=>∃ k,ca5 X.K x H k/\Q k H):=by
 intro pins s σ H x v Q I rx h
 obtain⟨k,e,q⟩:=h
 have hl:=al6
 have hs:f6=16777216:=C6
 cases x with
 | non =>
  cases rx
  have e':k=false:=e
  subst e'
  exact truthy_none ⟨H,I,q⟩
 | bl b =>
  cases rx
  have e':k=b:=e
  subst e'
  exact K9 ⟨H,I,q⟩
 | int i =>
  obtain⟨t,rfl⟩:=rx
  have e':k=(i != 0):=e
  subst e'
  exact PySem.P.truthy_int ⟨H,I,q⟩
 | str y =>
  obtain⟨t,rfl⟩:=rx
  obtain⟨hy,e'⟩:y.length<=f6/\k=((y.length:Int) != 0):=e
  subst e'
  exact PySem.P.truthy_str (by omega) ⟨H,I.tok _,q⟩
 | byt y =>
  obtain⟨t,rfl⟩:=rx
  obtain⟨hy,e'⟩:y.size<=f6/\k=((y.size:Int) != 0):=e
  subst e'
  exact PySem.W.truthy_bytes (by omega) ⟨H,I.tok _,q⟩
 | ref p =>
  cases rx
  have e':(∃ xs,SqL X.K H p xs/\k=!xs.isEmpty)\/(∃ xs,SqT X.K H p xs/\k=!xs.isEmpty)\/∃ kvs,H p=some (.dK kvs)/\k=!kvs.isEmpty:=e
  rcases e' with⟨xs,hx,e'⟩ | ⟨xs,hx,e'⟩ | ⟨kvs,hx,e'⟩
  ·subst e'
   obtain⟨its,r,pl,hz⟩:=I.list hx
   have hlen:=r.length
   exact wpAny_truthy_list pl.isList (by simp only[d8];omega) ⟨H,I.tok _,by rw[aB7 r];exact q⟩
  ·subst e'
   obtain⟨its,r,pl,hz⟩:=I.tuple hx
   have hlen:=r.length
   exact truthy_tuple pl (by simp only[d8];omega) ⟨H,I.tok _,by rw[aB7 r];exact q⟩
  ·subst e'
   obtain⟨hz,hS,vs,r,m⟩:kvs.length<=f6/\(p == V2)=false/\∃ vs,KV kvs vs/\s.heap.DictOf (N5 X.prog X.w) p vs:=I.hok p _ hx
   have hlen:kvs.length=vs.length:=Paired.length r
   exact wpAny_truthy_dict hS m (by omega) ⟨H,I.tok _,by rw[bc2 r];exact q⟩
 | _=>exact(show False from e).elim
theorem an2 (ha:PE X a ta)(he:∀ whole,isTrue a X.env whole=(do let v <- whole;standAt a.pos;cc5 [v] (truthy v))) :
  PT X a (fun σ H Q=>ta σ H fun x H'=>∃ k,ca5 X.K x H' k/\Q k H'):=by
 intro pins s σ H Q I h
 exact isTrue_plain (thn (ha pins s σ H _ I h) fun v s1 ⟨x,H1,I1,r1,q1⟩=>bT5 pins s1 σ H1 x v Q I1 r1 q1) (he _)
theorem vals1 {x:V}(r:C3 [x] us):∃ u,us=[u]/\RelV x u:=by
 cases r with
 | cons r1 r2=>cases r2;exact⟨_,rfl,r1⟩
theorem vals2 {x y:V}(r:C3 [x,y] us):∃ u w',us=[u,w']/\RelV x u/\RelV y w':=by
 cases r with
 | cons r1 r2 =>
  cases r2 with
  | cons r3 r4=>cases r4;exact⟨_,_,rfl,r1,r3⟩
theorem aI0 (hc:X.calm=true):X8 X (.builtin "max") (fun xs H Q=>∃ i j,xs=[.int i,.int j]/\Q (.int (if j > i then j else i)) H):=by
 intro pins s σ H xs us Q I r h
 obtain⟨i,j,rfl,q⟩:=h
 obtain⟨u,w',rfl,⟨t,rfl⟩,⟨t',rfl⟩⟩:=vals2 r
 refine max_two_ints (I.ok.hd hc) fun h' tk k=>⟨_,H,I.kept k,?_,q⟩
 by_cases hj:j > i
 ·rw[if_pos hj,if_pos hj];exact⟨_,rfl⟩
 ·rw[if_neg hj,if_neg hj];exact⟨_,rfl⟩
theorem aH9 (hc:X.calm=true):X8 X (.builtin "min") (fun xs H Q=>∃ i j,xs=[.int i,.int j]/\Q (.int (if j<i then j else i)) H):=by
 intro pins s σ H xs us Q I r h
 obtain⟨i,j,rfl,q⟩:=h
 obtain⟨u,w',rfl,⟨t,rfl⟩,⟨t',rfl⟩⟩:=vals2 r
 refine min_two_ints (I.ok.hd hc) fun h' tk k=>⟨_,H,I.kept k,?_,q⟩
 by_cases hj:j<i
 ·rw[if_pos hj,if_pos hj];exact⟨_,rfl⟩
 ·rw[if_neg hj,if_neg hj];exact⟨_,rfl⟩
end
structure cl8 (h:Heap) (x dx C:Addr) (mA:Str->Option Value):Prop where
 obj:h.get? x=some (PySem.W.instObj C dx)
 ns:h.Ns1 dx mA
 ne:dx≠x
section
variable {K:W.Frag} {x dx:Addr} {mA:Str->Option Value} {name:Str} {v:Value}
end
theorem aF2.some_of {v:V}{o:Option Value}(r:aF2 (some v) o):∃ u,o=some u/\RelV v u:=by
 cases o with
 | none=>exact(show False from r).elim
 | some u=>exact⟨u,rfl,r⟩
section
variable {dx:Addr} {fs fs':List (Str × V)}
end
structure Cls (K:W.Frag) (C:Addr):Prop where
 pg:PySem.W.plainGet K C Str.empty=true
 hd:PySem.W.hasDictIn K C=true
 po:PySem.W.plainOver K C=true
 sa:PySem.W.findIn K (.ref C) "__setattr__"=some (some (.builtin "object.__setattr__"))
structure Con (K:W.Frag) (C:Addr) (f:Str) (v:V) (u:Value):Prop where
 at_:PySem.W.findIn K (.ref C) f=some (some u)
 rel:RelV v u
 get:PySem.W.specialIn K u "__get__"=some none
 cp:PySem.W.copiedNames.contains f=false
structure cl9 (K:W.Frag) (C:Addr) (m:Str) (f:Addr):Prop where
 at_:PySem.W.findIn K (.ref C) m=some (some (.ref f))
 fn:PySem.W.isFn K (.ref f)=true
 kp:ac2 K (.ref f)=true
section
variable {dx:Addr} {fs:List (Str × V)} {f:Str} {v:V}
end
section
variable {o value:Expr} {f:Str} {pos' tpos:Pos} {tv:TE}
end
section
variable {c:Value} {b:Bool}
inductive aD3 (K:W.Frag) (H:Hp):V->Value->Prop where
 | non:aD3 K H .non (.type "NoneType")
 | bl (x:Bool):aD3 K H (.bl x) (.type "bool")
 | int (i:Int):aD3 K H (.int i) (.type "int")
 | str (x:Str):aD3 K H (.str x) (.type "str")
 | flt (x:UInt64):aD3 K H (.flt x) (.type "float")
 | lst {a:Addr} {xs:List V} (e:H a=some (.lst xs)):aD3 K H (.ref a) (.type "list")
 | frz {a:Addr} {o:Obj} {xs:List V} (e:H a=some (.frz o (.lst xs))):aD3 K H (.ref a) (.type "list")
 | tup {a:Addr} {xs:List V} (e:H a=some (.tup xs)):aD3 K H (.ref a) (.type "tuple")
 | dK {a:Addr} {kvs:List (Key × V)} (e:H a=some (.dK kvs)):aD3 K H (.ref a) (.type "dict")
 | dT {a:Addr} {kvs:List (List Key × V)} (e:H a=some (.dT kvs)):aD3 K H (.ref a) (.type "dict")
 | ins {a C dx:Addr} {fs:List (Str × V)} (e:H a=some (.ins C dx fs)) (cl:Cls K C) (ha:PySem.W.findIn K (.ref C) "__class__"=some (some (.builtin "object.__class__")))
   (hn:PySem.W.specialIn K (.builtin "object.__class__") "__get__"=some (some (.builtin "getset_descriptor.__get__"))) (htk:PySem.W.takesIn K (.builtin "object.__class__")=some true)
   (hm:PySem.W.mroIn K C (.type "object")=some true):aD3 K H (.ref a) (.ref C)
end
structure X7 (k:Nat) (A:Around):Prop where
 hd:A.handled=none
 dp:A.depth+3*k+5<aD8
 un:A.units+16*k+200<aj9
theorem X7.mono {k:Nat}(r:X7 k A)(h:j<=k):X7 j A:=⟨r.hd,by have:=r.dp;omega,by have:=r.un;omega⟩
theorem X7.deeper {k:Nat}(r:X7 (k+1) A)(env:Env):X7 k (A.deeper env):=
 ⟨r.hd,by have:=r.dp;show A.depth+1+3*k+5<_;omega,by have:=r.un;show A.units+3+16*k+200<_;omega⟩
theorem X7.depth {k:Nat}(r:X7 k A):A.depth<aD8:=by have:=r.dp;omega
theorem X7.units {k:Nat}(r:X7 k A):A.units+64<aj9:=by have:=r.un;omega
def bI2:TA:=fun _ H Q=>Q [] H
def bf6 (ta:TE)(tr:TA):TA:=fun σ H Q=>ta σ H fun x H1=>tr σ H1 fun xs H2=>Q (x::xs) H2
section
variable {t:TA}
theorem c6:PA X [] bI2:=fun _ _ _ _ H Q I h=>Calls.spliced_nil ⟨[],H,I,.nil,h⟩
theorem a5 (ha:PE X e te)(hr:PA X es t)(hs:A6 (e::es) X.env=(false,eval e X.env)::A6 es X.env:=by rfl):PA X (e::es) (bf6 te t):=by
 intro pos pins s σ H Q I h
 rw[hs]
 show p9 _ _ (spliced ((false,eval e X.env)::Z9 pos (A6 es X.env))) _ _ s
 refine Calls.spliced_cons (thn (ha pins s σ H _ I h) fun u s1 ⟨x,H1,I1,r1,q1⟩=>?_)
 exact thn (hr pos pins s1 σ H1 _ I1 q1) fun us s2 ⟨xs,H2,I2,r2,q2⟩=>⟨x::xs,H2,I2,.cons r1 r2,q2⟩
def cj2 (t:TA):TE:=fun σ H Q=>t σ H fun xs H1=>xs.length<=f6/\∀ p,H1 p=none->Q (.ref p) (upd H1 p (.tup xs))
def cj7 (t:TA):TE:=fun σ H Q=>t σ H fun xs H1=>xs.length<=f6/\∀ p,H1 p=none->Q (.ref p) (upd H1 p (.lst xs))
theorem L0 {x1}(h:PA X es t):PE X (.Tuple es x1 pos) (cj2 t):=by
 intro pins s σ H Q I hq
 refine wpAny_Tuple_spliced (thn (h pos pins s σ H _ I hq) fun us s1 ⟨xs,H1,I1,r,z,q⟩=>⟨by rw[<- r.length];exact z,?_⟩)
 have hf:H1 s1.heap.objs.size=none:=I1.hok.fresh (c5 _)
 refine⟨.ref s1.heap.objs.size,upd H1 s1.heap.objs.size (.tup xs),I1.laid (t':=s1.toks) (fun b u e=>a7 _ e) (c5 _) ?_,rfl,q _ hf⟩
 exact⟨z,us,r,⟨_,m7 _ rfl,rfl,_,rfl⟩⟩
theorem P6 (h:PA X es t):PE X (.List es pos) (cj7 t):=by
 intro pins s σ H Q I hq
 refine wpAny_List_spliced (thn (h pos pins s σ H _ I hq) fun us s1 ⟨xs,H1,I1,r,z,q⟩=>⟨by rw[<- r.length];exact z,?_⟩)
 have hf:H1 s1.heap.objs.size=none:=I1.hok.fresh (c5 _)
 refine⟨.ref s1.heap.objs.size,upd H1 s1.heap.objs.size (.lst xs),I1.laid (t':=s1.toks) (fun b u e=>a7 _ e) (c5 _) ?_,rfl,q _ hf⟩
 exact⟨z,us,0,r,m7 _ rfl⟩
end
abbrev Sp:=List V->Hp->VK->XK->Prop
abbrev CXT:=List Env->Hp->Shared->XK->Value->Shared->Prop
structure bN7 (P:Program) (w:World) (K:W.Frag) (mg:Str->Option Value) (base:Heap) (A:Around) (outer:List Env) (s:Shared) (H:Hp):Prop where
 frames:A.frames=some outer
 mod:Mod K mg base
 bs:∀ b o,base.get? b=some o->s.heap.get? b=some o/\H b=none
 bsz:base.objs.size<=s.heap.objs.size
 funs:s.heap.FunFrames base outer
 frf:∀ b∈frs outer,H b=none
 hok:HOk P w H s.heap
 bare:au1 s.gens
def CE (outer:List Env)(P:Program)(w:World)(H:Hp)(s:Shared)(Q:VK)(u:Value)(s':Shared):Prop:=
 ∃ v H',s'.os=s.os/\au1 s'.gens/\Un (frs outer) [] H H' s.heap s'.heap/\HOk P w H' s'.heap/\RelV v u/\Q v H'
def CR (CX:CXT)(outer:List Env)(P:Program)(w:World)(H:Hp)(s:Shared)(Q:VK)(E:XK)(r:Result)(s':Shared):Prop:=
 match r with
 | .ok (.ret u)=>CE outer P w H s Q u s'
 | .ok _=>False
 | .error e=>CX outer H s E e s'
structure o9 (P:Program) (w:World) (K:W.Frag) (mg:Str->Option Value) (base:Heap) (CX:CXT) (k:Nat) (f:Addr) (fd:FuncData) (ps:List Str) (sp:Sp):Prop where
 len:∀ vs H Q E,sp vs H Q E->vs.length=ps.length
 run:∀ (A:Around) (outer:List Env) (s:Shared) (H:Hp) (args:Args) (us:List Value) (vs:List V) (Q:VK) (E:XK),X7 k A->bN7 P w K mg base A outer s H->bm9 s fd args (ps.zip us)->C3 vs us->sp vs H Q E ->
  aP4 (p7 P w) A (.call (.ref f) args) (CR CX outer P w H s Q E) s
theorem o9.mono {K:W.Frag}{mg:Str->Option Value}{base:Heap}{CX:CXT}{k:Nat}{sp:Sp}(F:o9 P w K mg base CX j f fd ps sp)(h:j<=k) :
  o9 P w K mg base CX k f fd ps sp:=⟨F.len,fun A outer s H args us vs Q E hr=>F.run A outer s H args us vs Q E (hr.mono h)⟩
section
variable {s':Shared}
theorem Inv.env0 (I:Inv X pins σ H s):bN7 X.prog X.w X.K X.mg X.base X.A X.stack s H:=
 ⟨I.ok.frames,I.ok.mod,I.bs,p8 I.ok.bsz I.sz,I.stack,I.stkFree,I.hok,I.bare⟩
theorem Inv.after {Q:VK}(I:Inv X pins σ H s)(h:CE X.stack X.prog X.w H s Q u s'):EP X pins σ Q u s':=by
 obtain⟨v,H',os,bare,un,hok,r,q⟩:=h
 obtain⟨hh,g,d,t,os'⟩:=s'
 obtain rfl:os'=s.os:=os
 exact⟨v,H',I.call (h':=hh) (g':=g) (d':=d) (t':=t) (ch:=[]) un hok bare (fun b z=>absurd z (by simp)),r,q⟩
end
def bP2 (sp:Sp)(dvs:List V)(E:XK)(t:TA):TE:=fun σ H Q=>t σ H fun vs H1=>sp (vs++dvs) H1 Q E
def Binds (K:W.Frag)(fd:FuncData)(ps:List Str)(ds:List Value):Prop:=
 ∀ (s:Shared) (us:List Value),K.In s.heap->(us++ds).length=ps.length->bm9 s fd ⟨us,[]⟩ (ps.zip (us++ds))
theorem Binds.all {K:W.Frag}(h:∀ us:List Value,us.length=ps.length->bf0 fd ⟨us,[]⟩=pure (ps.zip us)):Binds K fd ps []:=fun s us _ hl=>by
 rw[B3]at hl ⊢
 exact .of_eq (h us hl)
def as3 (CX:CXT)(X:Cx)(E:XK):Prop:=∀ (pins:List (Addr × Obj)) (σ:St) (H:Hp) (s:Shared) (e:Value) (s':Shared),Inv X pins σ H s->CX X.stack H s E e s'->X.xe e s'
section
variable {CX:CXT} {k:Nat} {sp:Sp} {dvs:List V} {ds:List Value} {E:XK} {m:Str} {p apos:Pos} {o:Expr} {t:TA}
theorem bV3 {Q:VK}{vs:List V}(F:o9 X.prog X.w X.K X.mg X.base CX k f fd ps sp)(hr:X7 k X.A)(hb:Binds X.K fd ps ds)(hd:C3 dvs ds)(hx:as3 CX X E)
  (I:Inv X pins σ H s)(r:C3 vs us)(h:sp (vs++dvs) H Q E):p9 (p7 X.prog X.w) X.A (call (.ref f) us) (EP X pins σ Q) X.xe s:=by
 have r2:C3 (vs++dvs) (us++ds):=r.append hd
 have hl:(us++ds).length=ps.length:=by rw[<- r2.length];exact F.len _ _ _ _ h
 refine wpAny_call (au4 (F.run X.A X.stack s H ⟨us,[]⟩ (us++ds) (vs++dvs) Q E hr I.env0 (hb s us I.kIn hl) r2 h) fun r s' hq=>?_)
 cases r with
 | error e=>exact hx pins σ H s e s' I hq
 | ok fl =>
  cases fl with
  | ret u=>exact I.after hq
  | next=>exact False.elim hq
  | brk=>exact False.elim hq
  | cont=>exact False.elim hq
theorem aw3 (F:o9 X.prog X.w X.K X.mg X.base CX k f fd ps sp)(hr:X7 k X.A)(hg:Gl X x)(hm:X.mg x=some (.ref f))(hk:ac2 X.K (.ref f)=true)(hb:Binds X.K fd ps ds)(hd:C3 dvs ds)(hx:as3 CX X E)
  (ha:PA X (e::es) t)(hdb:(x == ("__debug__":Str))=false:=by decide)(he:A6 (e::es) X.env=(false,eval e X.env)::A6 es X.env:=by rfl)(hpl:(Z9 pos (A6 es X.env)).any (·.1)=false:=by rfl) :
  PE X (.Call (.Name x p) (e::es) [] pos) (bP2 sp dvs E t):=by
 intro pins s σ H Q I h
 refine V9 (aL6 I hg hm ?_ hdb)
 refine PySem.W.callWith_K (h₀:=X.base) I.ok.mod.kin hk (thn (ha pos pins s σ H _ I h) fun us s1 ⟨vs,H1,I1,r,q⟩=>⟨I1.kIn,?_⟩) he hpl
 exact bV3 F hr hb hd hx I1 r q
structure Mk (K:W.Frag) (C f:Addr):Prop where
 makes:PySem.W.makesIn K C=true
 init:PySem.W.findIn K (.ref C) "__init__"=some (some (.ref f))
 fn:PySem.W.isFn K (.ref f)=true
 kp:ac2 K (.ref C)=true
end
def PK (X:Cx)(kws:List aE2)(t:TA):Prop:=
 ∀ (pos:Pos) (pins:List (Addr × Obj)) (s:Shared) (σ:St) (H:Hp) (Q:List V->Hp->Prop),Inv X pins σ H s->t σ H Q->p9 (p7 X.prog X.w) X.A (evalAll ((bG6 pos (aE3 kws X.env)).map (·.2))) (AP X pins σ Q) X.xe s
section
variable {CX:CXT} {k:Nat} {ks:List Str} {sp:Sp} {E:XK} {m:Str} {p apos kpos:Pos} {o:Expr} {kws:List aE2} {t tk:TA} {nm:Option Str}
theorem bx3:PK X [] bI2:=fun _ _ _ _ H Q I h=>wpAny_evalAll_nil ⟨[],H,I,.nil,h⟩
theorem bh9 (ha:PE X e te)(hr:PK X kws t):PK X (⟨nm,e,kpos⟩::kws) (bf6 te t):=by
 intro pos pins s σ H Q I h
 show p9 _ _ (evalAll ((do let v <- eval e X.env;standAt pos;pure v)::(bG6 pos (aE3 kws X.env)).map (·.2))) _ _ s
 refine wpAny_evalAll_cons (a8 (thn (ha pins s σ H _ I h) fun u s1 ⟨x,H1,I1,r1,q1⟩=>a8 (aI9 (j9 ?_))))
 exact thn (hr pos pins s1 σ H1 _ I1 q1) fun us s2 ⟨xs,H2,I2,r2,q2⟩=>⟨x::xs,H2,I2,.cons r1 r2,q2⟩
structure cl5 (K:W.Frag) (fd:FuncData) (ps ks:List Str) (g:List Value->List Value->List Value) (gV:List V->List V->List V):Prop where
 to:∀ (s:Shared) (us ws:List Value),K.In s.heap->(g us ws).length=ps.length->bm9 s fd ⟨us,ks.zip ws⟩ (ps.zip (g us ws))
 rel:∀ {vs:List V} {us:List Value} {zs:List V} {ws:List Value},C3 vs us->C3 zs ws->C3 (gV vs zs) (g us ws)
variable {g:List Value->List Value->List Value}
end
structure r6 (N P:List Str) (sc:Scope):Prop where
 kind:sc.kind=.function
 co:sc.isCoroutine=false
 gen:sc.isGenerator=false
 nd:N.Nodup
 pre:N.take P.length=P
 par:∀ x∈P,sc.names.lookup x=some .local\/sc.names.lookup x=some .cell
 nofree:∀ y∈sc.names,y.2≠.free
theorem r6.mk' {P:List Str}{sc:Scope}(a:sc.kind=.function:=by rfl)(b:sc.isCoroutine=false:=by rfl)(c:sc.isGenerator=false:=by rfl)(d:N.Nodup:=by decide +kernel)(e:N.take P.length=P:=by rfl)(f:∀ x∈P,sc.names.lookup x=some .local\/sc.names.lookup x=some .cell:=by decide +kernel)(g:∀ y∈sc.names,y.2≠.free:=by decide +kernel):r6 N P sc:=⟨a,b,c,d,e,f,g⟩
theorem aI1 {kindOf:Str->Option aJ0}:∀ {binds:List (Str × Value)} {m:Str->Option Value},(∀ v,(x,v)∉binds)->bindL kindOf binds m x=m x
 | [],_,_=>rfl
 | (n,v)::r,m,h=>by
  unfold bindL
  rw[aI1 fun w hw=>h w (b8 _ hw)]
  split
  ·have:x≠n:=by rintro rfl;exact h v b9
   simp[this]
  ·rfl
theorem aI3 {kindOf:Str->Option aJ0}:∀ {binds:List (Str × Value)} {m:Str->Option Value},(∀ v,(x,v)∉binds)->bindC kindOf binds m x=m x
 | [],_,_=>rfl
 | (n,v)::r,m,h=>by
  unfold bindC
  rw[aI3 fun w hw=>h w (b8 _ hw)]
  split
  ·rfl
  ·have:x≠n:=by rintro rfl;exact h v b9
   simp[this]
theorem aI2 {kindOf:Str->Option aJ0}{v:Value}:∀ {P:List Str} {vs:List Value} {i:Nat} {m:Str->Option Value},P.Nodup->P[i]?=some x->vs[i]?=some v->kindOf x=some .local ->
  bindL kindOf (P.zip vs) m x=some v
 | [],_,_,_,_,h,_,_=>by simp at h
 | _::_,[],_,_,_,_,h,_=>by simp at h
 | p::P,w::vs,0,m,nd,h1,h2,hk=>by
  simp at h1 h2;subst h1;subst h2
  show bindL kindOf ((p,w)::P.zip vs) m p=_
  unfold bindL
  rw[aI1 fun v hv=>(C7.mp nd).1 (ao7 hv).1,if_pos hk]
  simp
 | p::P,w::vs,i+1,m,nd,h1,h2,hk=>by
  show bindL kindOf ((p,w)::P.zip vs) m x=_
  unfold bindL
  exact aI2 (i:=i) (C7.mp nd).2 (by simpa using h1) (by simpa using h2) hk
theorem aI4 {kindOf:Str->Option aJ0}{v:Value}:∀ {P:List Str} {vs:List Value} {i:Nat} {m:Str->Option Value},P.Nodup->P[i]?=some x->vs[i]?=some v->kindOf x≠some .local ->
  bindC kindOf (P.zip vs) m x=some v
 | [],_,_,_,_,h,_,_=>by simp at h
 | _::_,[],_,_,_,_,h,_=>by simp at h
 | p::P,w::vs,0,m,nd,h1,h2,hk=>by
  simp at h1 h2;subst h1;subst h2
  show bindC kindOf ((p,w)::P.zip vs) m p=_
  unfold bindC
  rw[aI3 fun v hv=>(C7.mp nd).1 (ao7 hv).1,if_neg hk]
  simp
 | p::P,w::vs,i+1,m,nd,h1,h2,hk=>by
  show bindC kindOf ((p,w)::P.zip vs) m x=_
  unfold bindC
  exact aI4 (i:=i) (C7.mp nd).2 (by simpa using h1) (by simpa using h2) hk
def start (N:List Str)(vs:List V):St:=vs.map some++B9 (N.length - vs.length) none
def ag8 (CX:CXT)(P:Program)(w:World)(K:W.Frag)(mg:Str->Option Value)(base:Heap)(N:List Str)(qual:Str)(scope:Scope)(f:Addr)(cd:Value)(A:Around)(outer:List Env)(s:Shared)(H:Hp)(E:XK):Cx where
 prog:=P
 w:=w
 K:=K
 mg:=mg
 base:=base
 A:=A.deeper (M0 qual scope s.heap.objs.size f cd)
 N:=N
 s₀:=s
 H₀:=H
 env:=M0 qual scope s.heap.objs.size f cd
 outer:=outer
 stack:=M0 qual scope s.heap.objs.size f cd::outer
 ex:=[]
 calm:=true
 fn:=fun _=>true
 pn:=[]
 xe:=fun e s'=>p9 (p7 P w) (A.deeper (M0 qual scope s.heap.objs.size f cd)) (leaving (M0 qual scope s.heap.objs.size f cd) e) (fun _ s''=>CX outer H s E e s'') (fun e' s''=>CX outer H s E e' s'') s'
theorem aX3 {sc:Scope}(h:sc.names.lookup x=some .cell):∃ c,(cellsFrom n sc.names []).lookup x=some c:=by
 have q:=PySem.W.cellsFrom_some sc.names n [] (.inl h)
 exact v9.mp q
theorem bq9 {CX:CXT}{K:W.Frag}{mg:Str->Option Value}{base:Heap}{cd:Value}{s1:Shared}{E:XK}{vs:List V}
  (S:r6 N ps scope)(hd:A.handled=none)(e0:bN7 P w K mg base A outer s H)(hl:vs.length=ps.length)(r:C3 vs us)
  (x:InCallC s s.heap.objs.size (bindL (M0 qual scope s.heap.objs.size f cd).kindOf (ps.zip us) fun _=>none) (cellsFrom (s.heap.objs.size+1) scope.names []) (bindC (M0 qual scope s.heap.objs.size f cd).kindOf (ps.zip us) fun _=>none) s1) :
  Inv (ag8 CX P w K mg base N qual scope f cd A outer s H E) [] (start N vs) H s1:=by
 have hpl:ps.length<=N.length:=by have:=congrArg ak3 S.pre;rw[n6]at this;omega
 obtain⟨h1,tk,rfl,hk⟩:=x.done
 have noA:∀ b:Addr,b∉(ag8 CX P w K mg base N qual scope f cd A outer s H E).ex:=fun b z=>absurd (show b∈([]:List Addr) from z) (by simp)
 refine⟨⟨e0.mod,S.kind,rfl,rfl,c5 _,fun y z c h1 h2=>?_,fun y hy=>?_,fun y c _ h=>?_,fun _=>hd,Around.frames_deeper e0.frames,.inr ⟨rfl,rfl⟩,fun b z=>absurd z (noA b),e0.bs,e0.bsz,fun b _ _=>noA b,fun b z=>absurd z (noA b),e0.funs,e0.frf⟩,
  rfl,e0.bare,Un.kept hk,⟨_,x.toInCall.ns,fun i y v h1 h2 h3=>?_⟩,fun y c h=>⟨_,x.cell y c h⟩,e0.hok.fresh (c5 _),fun y c h=>?_,fun p hp=>absurd (show p∈([]:List (Addr × Obj)) from hp) (by simp),e0.hok.kept hk,?_⟩
 ·exact name_of_addr x.apart (PySem.mem_of_lookup h1) (PySem.mem_of_lookup h2)
 ·have hy:scope.names.lookup y=some .cell\/scope.names.lookup y=some .free:=hy
  rcases hy with hy | hy
  ·exact aX3 hy
  ·exact absurd rfl (S.nofree _ (PySem.mem_of_lookup hy))
 ·exact ap0 (x.above y c (PySem.mem_of_lookup h))
 ·have hi:i<vs.length:=by
   unfold start at h2
   by_cases hi:i<vs.length
   ·exact hi
   ·rw[D6 (by simpa using hi)]at h2
    rw[List.getElem?_replicate]at h2
    split at h2<;>cases h2
  have ha:vs[i]?=some v:=by
   unfold start at h2
   rw[S2 (by simpa using hi),q8]at h2
   cases e:vs[i]? with
   | none=>rw[e]at h2;cases h2
   | some a=>rw[e]at h2;cases h2;rfl
  obtain⟨u,hu,rv⟩:=r.get ha
  have hp:ps[i]?=some y:=by
   rw[<- S.pre,S9 (by omega)];exact h1
  have ndP:ps.Nodup:=by rw[<- S.pre];exact S.nd.sublist (F9 _ _)
  refine⟨u,rv,?_⟩
  rcases S.par y (d5 hp) with k | k
  ·exact .inl ⟨k,aI2 ndP hp hu k⟩
  ·obtain⟨c,e⟩:=aX3 (n:=s.heap.objs.size+1) k
   refine .inr ⟨.inl k,c,e,?_⟩
   have q:=x.cell y c e
   rw[aI4 ndP hp hu (by show scope.names.lookup y≠_;rw[k];decide)]at q
   exact q
 ·exact e0.hok.fresh (ap0 (x.above y c (PySem.mem_of_lookup h)))
 ·unfold start
  show _=N.length
  rw[j7,a6,List.length_replicate]
  omega
theorem bC1 {CX:CXT} {K:W.Frag} {mg:Str->Option Value} {base:Heap} {k:Nat} {name:Str} {body:List Stmt} {dV kV doc pm cdv ct oc:Value} {an od:Option Addr}
  {osl:Array (Option Value)} {sp:Sp} (lk:K.lookup f=some ⟨oc,od,.func (S4 name qual params body scope dV kV doc pm an cdv ct),osl⟩) (hcd:aP2 K cdv qual=true) (S:r6 N ps scope)
  (len:∀ vs H Q E,sp vs H Q E->vs.length=ps.length)
  (hbody : ∀ (A : Around) (outer : List Env) (s : Shared) (H : Hp) (vs : List V) (Q : VK) (E : XK), X7 k (A.deeper (M0 qual scope s.heap.objs.size f cdv)) -> sp vs H Q E ->
   ∃ t,PSs (ag8 CX P w K mg base N qual scope f cdv A outer s H E) body t/\t { nx:=fun _ H'=>Q .non H',rt:=Q } (start N vs) H) :
  o9 P w K mg base CX (k+1) f (S4 name qual params body scope dV kV doc pm an cdv ct) ps sp:=by
 refine⟨len,fun A outer s H args us vs Q E hr e0 hb r hsp=>?_⟩
 have hl:=len _ _ _ _ hsp
 have KX:K.In s.heap:=e0.mod.kin.keeps fun b o e=>(e0.bs b o e).1
 have lim:s.heap.NoLimit:=e0.mod.nolimit.keeps fun b o e=>(e0.bs b o e).1
 have hkind:∀ y∈ps.zip us,scope.names.lookup y.1=some .local\/(scope.names.lookup y.1=some .cell/\((cellsFrom (s.heap.objs.size+1) scope.names []).lookup y.1).isSome=true):=fun⟨n,v⟩ hy=>by
  rcases S.par n (ao7 hy).1 with q | q
  ·exact .inl q
  ·exact .inr ⟨q,PySem.W.cellsFrom_some _ _ _ (.inl q)⟩
 refine codeAny_call_function hr.depth (KX _ _ lk) rfl S.co S.gen rfl (PySem.W.codeRec_of KX hcd) (hb _ _ _ _ ?_)
 refine wpAny_newFunctionEnv_cells S.kind hkind fun env he s1 x=>?_
 subst he
 refine⟨lim.keeps x.toInCall.keep,codeAny_func ?_⟩
 obtain⟨t,ht,hq⟩:=hbody A outer s H vs Q E (hr.deeper _) hsp
 have I:Inv (ag8 CX P w K mg base N qual scope f cdv A outer s H E) [] (start N vs) H s1:=bq9 S hr.hd e0 hl r x
 refine E6 (ht [] s1 (start N vs) H _ I hq) (fun fl s' hs=>?_) fun e s' hs=>hs
 have fin:∀ {σ':St} {H':Hp} {v:V} {u:Value},Inv (ag8 CX P w K mg base N qual scope f cdv A outer s H E) [] σ' H' s'->RelV v u->Q v H'->CE outer P w H s Q u s':=
  fun {σ' H' v u} J rv q=>⟨v,H',J.os,J.bare,J.base,J.hok,rv,q⟩
 cases fl with
 | ret u =>
  obtain⟨v,σ',H',J,rv,q⟩:=hs
  exact fin J rv q
 | next =>
  obtain⟨σ',H',J,q⟩:=hs
  exact fin (v:=V.non) (u:=Value.none) J rfl q
 | brk =>
  obtain⟨_,_,_,q⟩:=hs
  exact False.elim q
 | cont =>
  obtain⟨_,_,_,q⟩:=hs
  exact False.elim q
section
variable {p:Pos} {t:TA} {id T:String} {r:List V->Hp->VK->Prop}
def tCB (r:List V->Hp->VK->Prop)(t:TA):TE:=fun σ H Q=>t σ H fun vs H1=>r vs H1 Q
theorem A2 (hc:X8 X (.builtin id) r)(hg:Gl X x)(hm:X.mg x=none)(hv:R1 x=some (.builtin id))(ha:PA X (e::es) t)(hn:x≠"__name__":=by decide)(hdb:(x == ("__debug__":Str))=false:=by decide)
  (he:A6 (e::es) X.env=(false,eval e X.env)::A6 es X.env:=by rfl)(hpl:(Z9 pos (A6 es X.env)).any (·.1)=false:=by rfl):PE X (.Call (.Name x p) (e::es) [] pos) (tCB r t):=by
 intro pins s σ H Q I h
 refine V9 (aa1 I hg hm hv ?_ hn hdb)
 exact PyProof.Rows.callWith_builtin1 (thn (ha pos pins s σ H _ I h) fun us s1 ⟨vs,H1,I1,r1,q1⟩=>hc pins s1 σ H1 vs us Q I1 r1 q1) he hpl
theorem T9 (hc:X8 X (.type T) r)(hg:Gl X x)(hm:X.mg x=none)(hv:R1 x=some (.type T))(ha:PA X (e::es) t)(hn:x≠"__name__":=by decide)(hdb:(x == ("__debug__":Str))=false:=by decide)
  (he:A6 (e::es) X.env=(false,eval e X.env)::A6 es X.env:=by rfl)(hpl:(Z9 pos (A6 es X.env)).any (·.1)=false:=by rfl):PE X (.Call (.Name x p) (e::es) [] pos) (tCB r t):=by
 intro pins s σ H Q I h
 refine V9 (aa1 I hg hm hv ?_ hn hdb)
 exact PyProof.Rows.callWith_type1 (thn (ha pos pins s σ H _ I h) fun us s1 ⟨vs,H1,I1,r1,q1⟩=>hc pins s1 σ H1 vs us Q I1 r1 q1) he hpl
end
end L2
namespace HT
open PySem PyProof.Rows
def lexLt:List Int->List Int->Bool
 | [],[]=>false
 | [],_::_=>true
 | _::_,[]=>false
 | x::xs,y::ys=>if x=y then lexLt xs ys else decide (x<y)
theorem X3 (x y:Int)(xs ys:List Int):lexLt (x::xs) (y::ys)=if x=y then lexLt xs ys else decide (x<y):=rfl
section
open PySem.SeqAt
open PySem.AutoSeq1 (wpAny_loadPart')
open PySem.MeetsSeq PySem.MeetsSeq2 PySem.MeetsSeq3
end
theorem bN0 {t b:Addr}{ws:List Value}(ht:IsTup s.heap t vs.toArray)(hb:IsTup s.heap b ws.toArray)(hv:vs≠[])
  (h1:ws=[]->Q (.ref t) s)(h2:ws≠[]->Q (.ref s.heap.objs.size) { s with heap:=s.heap.push { cls:=.type "tuple",data:=.seq (vs++ws).toArray } })
  (hsz:vs.length+ws.length<=f6):p9 (p7 prog w) A (Y7 .Add (.ref t) (.ref b)) Q E s:=by
 obtain⟨⟨cls,dd,data,sl⟩,ho,hc,n,hd⟩:=id ht
 obtain⟨⟨cls2,dd2,data2,sl2⟩,ho2,hc2,n2,hd2⟩:=id hb
 simp only at hc hd hc2 hd2
 subst hc hd hc2 hd2
 have e:vs.toArray++ws.toArray=(vs++ws).toArray:=by simp
 by_cases hw:ws=[]
 ·exact concat_meets ⟨_,ho,rfl⟩ ⟨_,ho2,rfl⟩ noFill_tuple_add seq_tuple_add PySem.F.slot_tuple_add PySem.F.entry_tuple_add (PySem.F.args_tuple_add_2 _ _)
   (tuple_addW1 t b vs.toArray ws.toArray n n2 dd dd2 sl sl2 (by simpa using hv) (by simp[hw])) ⟨ho,ho2,h1 hw⟩
 ·refine concat_meets ⟨_,ho,rfl⟩ ⟨_,ho2,rfl⟩ noFill_tuple_add seq_tuple_add PySem.F.slot_tuple_add PySem.F.entry_tuple_add (PySem.F.args_tuple_add_2 _ _)
   (tuple_addW2 t b vs.toArray ws.toArray n n2 dd dd2 sl sl2 (by simpa using hv) (by simpa using hw) (by rw[d8,d8];exact hsz)) ⟨ho,ho2,?_⟩
  rw[e]
  exact h2 hw
def sIx (n d:Nat):Option Int->Nat
 | none=>d
 | some v=>if v<0 then (v+(n:Int)).toNat else min v.toNat n
theorem aR7 (n d:Nat):sIx n d none=d:=rfl
theorem bh2 (n d k:Nat):sIx n d (some (k:Int))=min k n:=by
 show (if (k:Int)<0 then ((k:Int)+(n:Int)).toNat else min (k:Int).toNat n)=min k n
 rw[if_neg (by omega),j2]
end HT
namespace L2
open PySem PySem.Spec PyProof.Rows
abbrev TO:=St->Hp->(Option Int->Hp->Prop)->Prop
def PO (X:Cx)(e:Option Expr)(t:TO):Prop:=
 ∀ (pins:List (Addr × Obj)) (s:Shared) (σ:St) (H:Hp) (Q:Option Int->Hp->Prop),Inv X pins σ H s->t σ H Q ->
  p9 (p7 X.prog X.w) X.A (evalPart e X.env) (fun u s'=>∃ o H',Inv X pins σ H' s'/\IsPart u o/\Q o H') X.xe s
def bI1:TO:=fun _ H Q=>Q none H
def cd7 (t:TE):TO:=fun σ H Q=>t σ H fun x H1=>∃ i,x=.int i/\Q (some i) H1
theorem intsAre_of:∀ {us:List Value},C3 (ns.map V.int) us->M7 us ns:=by
 induction ns with
 | nil=>intro us r;rw[T4]at r;cases r;exact .nil
 | cons n ns ih =>
  intro us r
  rw[i7]at r
  cases r with
  | cons r1 r2 =>
   obtain⟨t,e⟩:=r1
   subst e
   exact .cons n t (ih r2)
section
variable {lo hi:Option Expr} {tl th:TO} {p2:Pos}
theorem an3:PO X none bI1:=by
 intro pins s σ H Q I h
 rw[evalPart_none]
 exact j9 ⟨none,H,I,.none,h⟩
theorem ac9 (h:PE X e te):PO X (some e) (cd7 te):=by
 intro pins s σ H Q I hw
 rw[evalPart_some]
 refine thn (h pins s σ H _ I hw) fun u s1 ⟨x,H1,I1,r1,q1⟩=>?_
 obtain⟨i,rfl,q⟩:=q1
 obtain⟨t,rfl⟩:=r1
 exact⟨some i,H1,I1,.int i t,q⟩
def SlR (X:Cx)(r:V->Option Int->Option Int->Hp->VK->Prop):Prop:=
 ∀ (pins:List (Addr × Obj)) (s:Shared) (σ:St) (H:Hp) (x:V) (v vl vu:Value) (lo hi:Option Int) (sl:Addr) (Q:VK),Inv X pins σ H s->RelV x v->s.heap.IsSliceOf sl vl vu .none->IsPart vl lo->IsPart vu hi->r x lo hi H Q ->
  ∃ T id,typeLookup (.type T) "__getitem__"=pure (some (.builtin id))/\s.TypeIs v T/\p9 (p7 X.prog X.w) X.A (bm7 v (.ref sl)) (EP X pins σ Q) X.xe s
def tSl (r:V->Option Int->Option Int->Hp->VK->Prop)(te:TE)(tl th:TO):TE:=fun σ H Q=>te σ H fun x H1=>tl σ H1 fun l H2=>th σ H2 fun u H3=>r x l u H3 Q
theorem ab1 {r:V->Option Int->Option Int->Hp->VK->Prop}(hr:SlR X r)(he:PE X e te)(hl:PO X lo tl)(hu:PO X hi th):PE X (.Subscript e (.Slice lo hi none p2) pos) (tSl r te tl th):=by
 intro pins s σ H Q I h
 refine Subscript_ (thn (he pins s σ H _ I h) fun v s1 ⟨x,H1,I1,r1,q1⟩=>?_)
 refine wpAny_Slice (thn (hl pins s1 σ H1 _ I1 q1) fun vl s2 ⟨l,H2,I2,pl,q2⟩=>thn (hu pins s2 σ H2 _ I2 q2) fun vu s3 ⟨u,H3,I3,pu,q3⟩=>?_)
 rw[evalPart_none]
 refine j9 ?_
 have I4:Inv X pins σ H3 { s3 with heap:=s3.heap.push { cls:=.type "slice",data:=.fields #[vl,vu,.none] } }:=I3.kept (t':=s3.toks) fun b ob q=>a7 _ q
 obtain⟨T,id,hT,ht,hg⟩:=hr pins { s3 with heap:=s3.heap.push { cls:=.type "slice",data:=.fields #[vl,vu,.none] } } σ H3 x v vl vu l u s3.heap.objs.size Q I4 r1 (Heap.IsSliceOf.new ..) pl pu q3
 show p9 (p7 X.prog X.w) X.A (bG7 e (.Slice lo hi none p2) v (.ref s3.heap.objs.size)) (EP X pins σ Q) X.xe { s3 with heap:=s3.heap.push { cls:=.type "slice",data:=.fields #[vl,vu,.none] } }
 exact tail_any (ops:=[.ref s3.heap.objs.size,v]) ht hT hg (by with_unfolding_all rfl)
def ao3 (xs:List V)(lo hi:Option Int):List V:=(xs.drop (HT.sIx xs.length 0 lo)).take (HT.sIx xs.length xs.length hi - HT.sIx xs.length 0 lo)
theorem aW9 (xs:List V)(lo hi:Option Int):(ao3 xs lo hi).length<=xs.length:=by
 unfold ao3
 rw[n6,A8]
 omega
def bQ5 (K:W.Frag):R2:=fun x y H Q=>∃ a b xs ys,x=.ref a/\y=.ref b/\SqT K H a xs/\SqT K H b ys/\xs≠[]/\xs.length+ys.length<=f6 /\
 (ys=[]->Q (.ref a) H)/\(ys≠[]->∀ p,H p=none->Q (.ref p) (upd H p (.tup (xs++ys))))
theorem C3.nil_iff (r:C3 xs us):us=[]↔xs=[]:=by
 cases r with
 | nil=>simp
 | cons _ _=>simp
theorem bJ8:OpR X (Y7 .Add) (bQ5 X.K):=by
 intro pins s σ H x y v u Q I rx ry h
 obtain⟨a,b,xs,ys,rfl,rfl,ha,hb,hx,hz,q1,q2⟩:=h
 cases rx
 cases ry
 obtain⟨its,r1,p1,_⟩:=I.tuple ha
 obtain⟨its2,r2,p2,_⟩:=I.tuple hb
 refine HT.bN0 p1 p2 (fun z=>hx (r1.nil_iff.mp z)) (fun z=>⟨.ref a,H,I,rfl,q1 (r2.nil_iff.mp z)⟩) (fun z=>?_) (by rw[<- r1.length,<- r2.length];exact hz)
 refine⟨.ref s.heap.objs.size,_,I.laid (t':=s.toks) (o:=.tup (xs++ys)) (fun b ob q=>a7 _ q) (c5 _) ?_,rfl,q2 (fun w=>z (r2.nil_iff.mpr w)) _ (I.hok.fresh (c5 _))⟩
 exact⟨by rw[j7];exact hz,_,r1.append r2,IsTup.new _ _⟩
end
def ixN (n:Nat)(i:Int):Option Nat:=if 0<=i then (if i<n then some i.toNat else none) else if -(n:Int)<=i then some (i+n).toNat else none
def atI {α:Type}(xs:List α)(i:Int):Option α:=(ixN xs.length i).bind fun j=>xs[j]?
theorem bj4 {i:Int}(h:ixN n i=some j):seqIndex? i n=some j/\j<n /\ -(n:Int)<=i/\i<n:=by
 unfold ixN at h
 by_cases h0:0<=i
 ·rw[if_pos h0]at h
  by_cases h1:i<n
  ·rw[if_pos h1]at h
   have e:i.toNat=j:=Option.some.inj h
   exact⟨by rw[bn0 h0 h1,e],by omega,by omega,h1⟩
  ·rw[if_neg h1]at h;cases h
 ·rw[if_neg h0]at h
  by_cases h1:-(n:Int)<=i
  ·rw[if_pos h1]at h
   have e:(i+n).toNat=j:=Option.some.inj h
   exact⟨by rw[aY3 (by omega) h1,e],by omega,h1,by omega⟩
  ·rw[if_neg h1]at h;cases h
theorem ax7 {α:Type}{xs:List α}{i:Int}{v:α}(h:atI xs i=some v):∃ j,seqIndex? i xs.length=some j/\xs[j]?=some v/\j<xs.length /\ -(xs.length:Int)<=i/\i<xs.length:=by
 unfold atI at h
 cases e:ixN xs.length i with
 | none=>rw[e]at h;cases h
 | some j =>
  rw[e]at h
  obtain⟨h1,h2,h3,h4⟩:=bj4 e
  exact⟨j,h1,h,h2,h3,h4⟩
theorem G3 {α:Type}{xs:List α}{v:α}(h:xs[j]?=some v):atI xs (j:Int)=some v:=by
 have hj:j<xs.length:=(c7.mp h).1
 have e:ixN xs.length (j:Int)=some j:=by
  unfold ixN
  rw[if_pos (by omega),if_pos (by omega)];simp
 unfold atI;rw[e];exact h
def ax8 (b:Expr):Prop:=∀ o i,bn1 b false o i=operate [o,i] (bm7 o i)
def IxR (X:Cx)(r:R2):Prop:=
 ∀ (value slice:Expr) (pins:List (Addr × Obj)) (s:Shared) (σ:St) (H:Hp) (x y:V) (v u:Value) (Q:VK),Inv X pins σ H s->RelV x v->RelV y u->r x y H Q ->
  bn1 slice false v u=operate [v,u] (bm7 v u)->p9 (p7 X.prog X.w) X.A (bG7 value slice v u) (EP X pins σ Q) X.xe s
def MtR (X:Cx)(id:String)(r:V->List V->Hp->VK->Prop):Prop:=
 ∀ (pins:List (Addr × Obj)) (s:Shared) (σ:St) (H:Hp) (x:V) (xs:List V) (v:Value) (us:List Value) (Q:VK),Inv X pins σ H s->RelV x v->C3 xs us->r x xs H Q ->
  p9 (p7 X.prog X.w) X.A (call (.builtin id) (v::us)) (EP X pins σ Q) X.xe s
section
variable {a b:Expr} {tb:TE}
theorem IxR.or {r r':R2}(h:IxR X r)(h':IxR X r'):IxR X (fun x y H Q=>r x y H Q\/r' x y H Q):=by
 intro value slice pins s σ H x y v u Q I rx ry q hs
 rcases q with q | q
 ·exact h value slice pins s σ H x y v u Q I rx ry q hs
 ·exact h' value slice pins s σ H x y v u Q I rx ry q hs
theorem Q9 {r:R2}(hr:IxR X r)(ha:PE X a ta)(hb:PE X b tb)(hs:ax8 b):PE X (.Subscript a b pos) (tOp r ta tb):=by
 intro pins s σ H Q I h
 exact Subscript_ (ca3 ha hb I h fun v u s2 x y H2 I2 rx ry q=>hr a b pins s2 σ H2 x y v u Q I2 rx ry q (hs _ _))
def bV5 (K:W.Frag):R2:=fun x y H Q=>∃ p xs i v,x=.ref p/\y=.int i/\SqL K H p xs/\atI xs i=some v/\Q v H
def bV4 (K:W.Frag):R2:=fun x y H Q=>∃ p xs i v,x=.ref p/\y=.int i/\SqT K H p xs/\atI xs i=some v/\Q v H
def cg3:R2:=fun x y H Q=>∃ z i c,x=.str z/\y=.int i/\z.length<=f6/\atI z.cps.toList i=some c/\Q (.str ⟨#[c]⟩) H
theorem ad4:IxR X (bV5 X.K):=by
 intro value slice pins s σ H x y v u Q I rx ry h hs
 obtain⟨p,xs,i,z,rfl,rfl,hq,he,q⟩:=h
 cases rx
 obtain⟨t,rfl⟩:=ry
 obtain⟨its,r,pl,hz⟩:=I.list hq
 obtain⟨j,h1,h2,h3,h4,h5⟩:=ax7 he
 obtain⟨w,ew,rw'⟩:=r.get h2
 have hl:=r.length
 have hn:=al6
 have fin:EP X pins σ Q w s:=⟨z,H,I,rw',q⟩
 by_cases h0:0<=i
 ·have hj:i.toNat=j:=by
   rw[bn0 h0 h5]at h1
   exact Option.some.inj h1
  exact item_listR pl.isList h0 (by omega) (by rw[hj];simpa using ew) fin hs
 ·have hj:(i+(its.toArray.size:Int)).toNat=j:=by
   rw[aY3 (by omega) h4]at h1
   rw[d8,<- hl]
   exact Option.some.inj h1
  exact bO6 (x:=w) pl.isList.typeIs slot_list_getitem.lookup
   (bO7 (Q:=fun r s'=>r=w/\EP X pins σ Q r s') pl.isList (by omega) (by rw[d8]<;>omega) (by omega) (by rw[hj];simpa using ew) ⟨rfl,fin⟩) hs
theorem U1:IxR X (bV4 X.K):=by
 intro value slice pins s σ H x y v u Q I rx ry h hs
 obtain⟨p,xs,i,z,rfl,rfl,hq,he,q⟩:=h
 cases rx
 obtain⟨t,rfl⟩:=ry
 obtain⟨its,r,pl,hz⟩:=I.tuple hq
 obtain⟨j,h1,h2,h3,h4,h5⟩:=ax7 he
 obtain⟨w,ew,rw'⟩:=r.get h2
 have hl:=r.length
 have hn:=al6
 have fin:EP X pins σ Q w s:=⟨z,H,I,rw',q⟩
 exact bO6 (x:=w) pl.typeIs slot_tuple_getitem.lookup
  (getItem_tuple (j:=j) (Q:=fun r s'=>r=w/\EP X pins σ Q r s') pl (by omega) (by omega) (by rw[d8,<- hl];exact h1) (by simpa using ew) ⟨rfl,fin⟩) hs
theorem bY6:IxR X cg3:=by
 intro value slice pins s σ H x y v u Q I rx ry h hs
 obtain⟨z,i,c,rfl,rfl,hz,he,q⟩:=h
 obtain⟨t,rfl⟩:=rx
 obtain⟨t',rfl⟩:=ry
 obtain⟨j,h1,h2,h3,h4,h5⟩:=ax7 he
 have hl:z.cps.toList.length=z.length:=by simp[Str.length]
 rw[hl]at h1 h4 h5
 have hn:=al6
 exact tail_any (typeIs_str s z t) slot_str_getitem.lookup (getItem_str (c:=c) (by
  have e1:decide (i < -(2 ^ 63:Int))=false:=decide_eq_false (by omega)
  have e2:decide (i≥2 ^ 63)=false:=decide_eq_false (by omega)
  rw[e1,e2,aa4]) (by rw[h1];simpa using h2) ⟨.str ⟨#[c]⟩,H,I.tok _,⟨_,rfl⟩,q⟩) hs
def rIx (K:W.Frag):R2:=fun x y H Q=>bV5 K x y H Q\/bV4 K x y H Q\/cg3 x y H Q
theorem bA4:IxR X (rIx X.K):=ad4.or (U1.or bY6)
theorem bb6 (its:List Value)(n j:Nat)(u:Value):Obj.mapSeq (·.setIfInBounds j u) { cls:=.type "list",data:=.seq its.toArray n }={ cls:=.type "list",data:=.seq (its.set j u).toArray n }:=by
 simp[Obj.mapSeq]
theorem Inv.lst {p:Addr}(I:Inv X pins σ H s)(h:H p=some (.lst xs)) :
  ∃ (its:List Value) (n:Nat),C3 xs its/\s.heap.get? p=some { cls:=.type "list",data:=.seq its.toArray n }/\xs.length<=f6:=by
 obtain⟨z,its,n,r,e⟩:=I.hok p _ h
 exact⟨its,n,r,e,z⟩
theorem Inv.lstUpd {p:Addr}{its its':List Value}{n':Nat}{f:Obj->Obj}(I:Inv X pins σ H s)(h:H p=some (.lst xs))
  (ho:s.heap.get? p=some { cls:=.type "list",data:=.seq its.toArray n })(hf:f { cls:=.type "list",data:=.seq its.toArray n }={ cls:=.type "list",data:=.seq its'.toArray n' })(r:C3 ys its')(hz:ys.length<=f6)(t:Nat) :
  Inv X pins σ (upd H p (.lst ys)) { s with heap:=s.heap.update p f,toks:=t }:=by
 have e:(s.heap.update p f).get? p=some { cls:=.type "list",data:=.seq its'.toArray n' }:=by
  rw[ao8 f ho (by rw[hf]<;>rfl),hf]
 refine I.write (x:=p) (e:=p) (by rw[h];trivial) (.inl rfl) (fun b u hb q=>(K7 _ _ (Ne.symm hb)).trans q) ⟨_,e⟩ ?_
 exact⟨hz,its',n',r,e⟩
def cg2:V->V->V->Hp->(Hp->Prop)->Prop:=fun o i v H Q=>∃ p xs k j,o=.ref p/\i=.int k/\H p=some (.lst xs)/\ixN xs.length k=some j/\Q (upd H p (.lst (xs.set j v)))
theorem set_list:ci7 X cg2:=by
 intro pins s σ H o i v ov iv u Q I ro ri rv h
 obtain⟨p,xs,k,j,rfl,rfl,hp,hj,q⟩:=h
 cases ro
 obtain⟨t,rfl⟩:=ri
 obtain⟨its,n,r,ho,hz⟩:=I.lst hp
 obtain⟨h1,h2,h3,h4⟩:=bj4 hj
 have hl:=r.length
 have hn:=al6
 have I':Inv X pins σ (upd H p (.lst (xs.set j v))) { s with heap:=s.heap.update p (Obj.mapSeq (·.setIfInBounds j u)) }:=
  I.lstUpd hp ho (bb6 its n j u) (r.set rv j) (by rw[A3];exact hz) s.toks
 by_cases h0:0<=k
 ·have hk:k.toNat=j:=by
   rw[bn0 h0 h4]at h1
   exact Option.some.inj h1
  exact PySem.W.ki_setAt ho h0 (by omega) (by rw[d8,<- hl];exact h4) (by rw[hk];exact⟨_,I',q⟩)
 ·have hk:(k+(its.toArray.size:Int)).toNat=j:=by
   rw[aY3 (by omega) h3]at h1
   rw[d8,<- hl]
   exact Option.some.inj h1
  exact PySem.W.ki_setBack ho (by omega) (by rw[d8,<- hl];exact h3) (by omega) (by rw[hk];exact⟨_,I',q⟩)
theorem aK2 (lo hi:Option Int)(n:Nat):(ae9 lo hi none n).1=((HT.sIx n 0 lo:Nat):Int)/\(ae9 lo hi none n).2.1=((HT.sIx n n hi:Nat):Int)/\(ae9 lo hi none n).2.2=1:=by
 refine⟨?_,?_,rfl⟩
 ·cases lo with
  | none=>simp[ae9,HT.sIx]
  | some i =>
   simp only[ae9,HT.sIx,bR4,show (1:Int) > 0 by decide,if_true]
   by_cases h:i<0
   ·simp only[h,if_true]<;>omega
   ·simp only[h,if_false]<;>omega
 ·cases hi with
  | none=>simp[ae9,HT.sIx]
  | some i =>
   simp only[ae9,HT.sIx,bR4,show (1:Int) > 0 by decide,if_true]
   by_cases h:i<0
   ·simp only[h,if_true]<;>omega
   ·simp only[h,if_false]<;>omega
theorem aE6 (its:List Value)(lo hi:Option Int):slicePick its.toArray lo hi none=((its.drop (HT.sIx its.length 0 lo)).take (HT.sIx its.length its.length hi - HT.sIx its.length 0 lo)).toArray:=by
 obtain⟨h1,h2,h3⟩:=aK2 lo hi its.toArray.size
 unfold slicePick
 rw[h1,h2,h3]
 simp only[sliceRange_one,pick_run,d8]<;>rfl
def ck6 (K:W.Frag):V->Option Int->Option Int->Hp->VK->Prop:=fun x lo hi H Q=>∃ a xs,x=.ref a/\SqL K H a xs/\∀ p,H p=none->Q (.ref p) (upd H p (.lst (ao3 xs lo hi)))
theorem ai4:SlR X (ck6 X.K):=by
 intro pins s σ H x v vl vu lo hi sl Q I rx hs pl pu h
 obtain⟨a,xs,rfl,hx,q⟩:=h
 cases rx
 obtain⟨its,r,ht,hz⟩:=I.list hx
 have hlen:=r.length
 refine⟨"list",_,slot_list_getitem.lookup,ht.isList.typeIs,?_⟩
 refine wpAny_getItem_list_slice ht.isList hs pl pu .none (by simp) ?_ (by rw[d8]<;>omega)
 rw[aE6,<- hlen]
 refine⟨.ref s.heap.objs.size,_,I.laid (t':=s.toks) (o:=.lst (ao3 xs lo hi)) (fun b ob q=>a7 _ q) (c5 _) ?_,rfl,q _ (I.hok.fresh (c5 _))⟩
 exact⟨p8 (aW9 xs lo hi) hz,_,0,(r.drop (HT.sIx xs.length 0 lo)).take (HT.sIx xs.length xs.length hi - HT.sIx xs.length 0 lo),m7 _ rfl⟩
theorem A7:X8 X (.builtin "len") (fun xs H Q=>∃ p ys,xs=[.ref p]/\(SqL X.K H p ys\/SqT X.K H p ys)/\Q (.int ys.length) H):=by
 intro pins s σ H xs us Q I r h
 obtain⟨p,ys,rfl,hq,q⟩:=h
 obtain⟨u,rfl,rx⟩:=vals1 r
 cases rx
 have hn:=al6
 rcases hq with hq | hq
 ·obtain⟨its,r',pl,hz⟩:=I.list hq
  have hlen:=r'.length
  exact Calls.call_len_list pl.isList (by simp only[d8]<;>omega) ⟨.int ys.length,H,I.tok _,⟨s.toks+1,by rw[d8,hlen]⟩,q⟩
 ·obtain⟨its,r',pl,hz⟩:=I.tuple hq
  have hlen:=r'.length
  exact len_tuple pl (by simp only[d8]<;>omega) ⟨.int ys.length,H,I.tok _,⟨s.toks+1,by rw[d8,hlen]⟩,q⟩
theorem aN5:X8 X (.type "list") (fun xs H Q=>∃ p ys,xs=[.ref p]/\(SqL X.K H p ys\/SqT X.K H p ys)/\∀ l,H l=none->Q (.ref l) (upd H l (.lst ys))):=by
 intro pins s σ H xs us Q I r h
 obtain⟨p,ys,rfl,hq,q⟩:=h
 obtain⟨u,rfl,rx⟩:=vals1 r
 cases rx
 have fin:∀ (its:List Value),C3 ys its->ys.length<=f6->∀ (h':Heap) (c':Nat),(∀ b o',s.heap.get? b=some o'->h'.get? b=some o') ->
   h'.get? s.heap.objs.size=some { cls:=.type "list",dict:=none,data:=.seq its.toArray c',slots:=#[] }->EP X pins σ Q (.ref s.heap.objs.size) { s with heap:=h' }:=fun its r' hz h' c' kp e =>
  ⟨.ref s.heap.objs.size,_,I.laid (t':=s.toks) kp (c5 _) (show L9 X.prog X.w _ h' _ (.lst ys) from ⟨hz,its,c',r',e⟩),rfl,q _ (I.hok.fresh (c5 _))⟩
 rcases hq with hq | hq
 ·obtain⟨its,r',pl,hz⟩:=I.list hq
  have hlen:=r'.length
  obtain⟨o,ho,hc,n,hd⟩:=pl.isList
  exact call_list_seq p (.inl rfl) ho hc hd (fun h' c' kp e=>fin its r' hz h' c' kp e) (by simp only[d8]<;>omega)
 ·obtain⟨its,r',pl,hz⟩:=I.tuple hq
  have hlen:=r'.length
  obtain⟨o,ho,hc,n,hd⟩:=pl
  exact call_list_seq p (.inr rfl) ho hc hd (fun h' c' kp e=>fin its r' hz h' c' kp e) (by simp only[d8]<;>omega)
theorem aa3:X8 X (.type "tuple") (fun xs H Q=>∃ p ys,xs=[.ref p]/\((SqL X.K H p ys/\∀ l,H l=none->Q (.ref l) (upd H l (.tup ys)))\/(SqT X.K H p ys/\Q (.ref p) H))):=by
 intro pins s σ H xs us Q I r h
 obtain⟨p,ys,rfl,h⟩:=h
 obtain⟨u,rfl,rx⟩:=vals1 r
 cases rx
 rcases h with⟨hq,q⟩ | ⟨hq,q⟩
 ·obtain⟨its,r',pl,hz⟩:=I.list hq
  have hlen:=r'.length
  refine call_tuple_list pl.isList (fun h' kp=>?_) (by simp only[d8]<;>omega)
  have I1:Inv X pins σ H { s with heap:=h' }:=I.kept (t':=s.toks) kp
  have I2:Inv X pins σ (upd H h'.objs.size (.tup ys)) { s with heap:=h'.push { cls:=.type "tuple",data:=.seq its.toArray } } :=
   I1.laid (t':=s.toks) (fun b o e=>a7 _ e) (c5 _) (show L9 X.prog X.w _ _ _ (.tup ys) from ⟨hz,its,r',IsTup.new _ _⟩)
  exact⟨.ref h'.objs.size,_,I2,rfl,q _ (I1.hok.fresh (c5 _))⟩
 ·obtain⟨its,r',pl,hz⟩:=I.tuple hq
  exact call_tuple_same pl ⟨.ref p,H,I,rfl,q⟩
def tyV (K:W.Frag)(T:String)(x:V)(H:Hp):Prop:=match x with
 | .str _=>T="str"
 | .int _=>T="int"
 | .ref p=>(T="list"/\∃ xs,SqL K H p xs)\/(T="tuple"/\∃ o,K.lookup p=some o/\o.cls=.type "tuple"/\o.dict=none) \/
   (T="dict"/\((∃ kvs,H p=some (.dK kvs))\/∃ kvs,H p=some (.dT kvs)))\/(T="set"/\∃ S n,H p=some (.set S n))
 | _=>False
theorem bT2 {T:String}{x:V}{v:Value}(I:Inv X pins σ H s)(r:RelV x v)(ty:tyV X.K T x H) :
  s.TypeIs v T/\∀ a,v=.ref a->∃ ob,s.heap.get? a=some ob/\ob.dict=none:=by
 cases x with
 | str z =>
  obtain⟨t,rfl⟩:=r
  cases (show T="str" from ty)
  exact⟨typeIs_str s z t,fun _ e=>nomatch e⟩
 | int i =>
  obtain⟨t,rfl⟩:=r
  cases (show T="int" from ty)
  exact⟨typeIs_int s i t,fun _ e=>nomatch e⟩
 | ref p =>
  cases r
  rcases ty with⟨rfl,xs,hq⟩ | ⟨rfl,o,hk,hc,hd⟩ | ⟨rfl,hk⟩ | ⟨rfl,S,n,hk⟩
  ·obtain⟨its,_,pl,_⟩:=I.list hq
   refine⟨pl.isList.typeIs,fun a e=>?_⟩
   cases e
   obtain⟨o,n,e,c,hd,_⟩:=pl
   exact⟨o,e,hd⟩
  ·refine⟨⟨o,I.kIn p o hk,hc⟩,fun a e=>?_⟩
   cases e
   exact⟨o,I.kIn _ o hk,hd⟩
  ·have z:∃ o,s.heap.get? p=some o/\o.ExactDict:=by
    rcases hk with⟨kvs,hk⟩ | ⟨kvs,hk⟩
    ·obtain⟨_,_,_,_,o,_,_,e,ex,_⟩:=I.hok p _ hk
     exact⟨o,e,ex⟩
    ·obtain⟨_,_,_,_,o,_,_,e,ex,_⟩:=I.hok p _ hk
     exact⟨o,e,ex⟩
   obtain⟨o,e,ex⟩:=z
   refine⟨⟨o,e,ex.1⟩,fun a e2=>?_⟩
   cases e2
   exact⟨o,e,ex.2.1⟩
  ·obtain⟨o,_,_,_,e,ex,_⟩:=I.hok p _ hk
   refine⟨⟨o,e,ex.1⟩,fun a e2=>?_⟩
   cases e2
   exact⟨o,e,ex.2.1⟩
 | _=>exact False.elim ty
def tBM (K:W.Frag)(T:String)(r:V->List V->Hp->VK->Prop)(to:TE)(t:TA):TE:=fun σ H Q=>to σ H fun x H1=>tyV K T x H1/\t σ H1 fun xs H2=>r x xs H2 Q
variable {o:Expr} {to:TE} {t:TA} {name:Str} {apos cpos:Pos} {T id:String}
theorem by0 (pa:PlainAttrs T) (slot:Slot T name id) (hty:typeOf (.builtin id)=pure (.type "method_descriptor")) (hm:MtR X id r) (ho:PE X o to) (ha:PA X (e::es) t)
  (hbase:bG8 o name X.env (eval o X.env)=eval o X.env:=by rfl)
  (hfew : ((Z9 cpos (A6 (e :: es) X.env)).all (fun x => !x.1) && (bG6 cpos (aE3 [] X.env)).all (fun x => x.1.isSome)
   && decide ((e::es).length+([]:List aE2).length+(if ([]:List aE2).isEmpty then 0 else 1)<30))=true:=by rfl)
  (hline:(apos.endLine == cpos.line)=true:=by rfl) (hs:A6 (e::es) X.env=(false,eval e X.env)::A6 es X.env:=by rfl) (hplain:(Z9 cpos (A6 es X.env)).any (·.1)=false:=by rfl) :
  PE X (.Call (.Attribute o name apos) (e::es) [] cpos) (tBM X.K T r to t):=by
 intro pins s σ H Q I h
 refine wpAny_Call_method_late hbase hfew hline rfl (thn (ho pins s σ H _ I h) fun v s1 ⟨x,H1,I1,r1,ty,q1⟩=>?_)
 obtain⟨h1,h2⟩:=bT2 I1 r1 ty
 refine⟨T,id,pa,slot,hty,h1,h2,?_⟩
 have hA:=ha cpos pins s1 σ H1 _ I1 q1
 rw[hs]at hA ⊢
 refine Calls.callWith_builtin (by show (false || (Z9 cpos (A6 es X.env)).any (·.1))=false;rw[hplain]<;>rfl) (Calls.evalArgs_plain ?_)
 exact thn hA fun us s2 ⟨vs,H2,I2,r2,q2⟩=>hm pins s2 σ H2 x vs v us Q I2 r1 r2 q2
/- xs.append(e),list.index on a module's tuple .. are MtR facts of 06m -/
end
def MtM (X:Cx)(id:String)(r:V->List V->Hp->VK->Prop):Prop:=
 ∀ (pins:List (Addr × Obj)) (s:Shared) (σ:St) (H:Hp) (x:V) (xs:List V) (v:Value) (us:List Value) (Q:VK),Inv X pins σ H s->RelV x v->C3 xs us->r x xs H Q ->
  p9 (p7 X.prog X.w) X.A (call (.builtin id) (v::us)) (EP X pins σ Q) X.xe s
theorem C3.one:∀ {x:V} {us:List Value},C3 [x] us->∃ u,us=[u]/\RelV x u
 | _,_,.cons r .nil=>⟨_,rfl,r⟩
theorem C3.rep (h:C3 xs us):∀ k:Nat,C3 (B9 k xs).flatten (B9 k us).flatten
 | 0=>.nil
 | k+1=>by
  rw[G0,G0,M9,M9]
  exact C3.append h (C3.rep h k)
theorem foldl_rep (its:List Value):∀ (k:Nat) (acc:List Value),
  aa6 (fun x1 x2=>x1++x2) acc.toArray (B9 k its.toArray)=(acc++(B9 k its).flatten).toArray
 | 0,acc=>by simp
 | k+1,acc=>by
  have e:acc.toArray++its.toArray=(acc++its).toArray:=by simp
  have e2:(acc++its)++(B9 k its).flatten=acc++(B9 (k+1) its).flatten:=by
   rw[G0,M9,A9]
  rw[<- e2,<- foldl_rep its k (acc++its),<- e,G0,ab9]
section
variable {b:Addr} {zs:List V}
theorem Inv.lset {its its':List Value}{f:Array Value->Array Value}(I:Inv X pins σ H s)(hH:H l=some (.lst xs))
  (e:s.heap.get? l=some { cls:=.type "list",data:=.seq its.toArray n })(hf:f its.toArray=its'.toArray)(hv:C3 ys its')(hz:ys.length<=f6) :
  Inv X pins σ (upd H l (.lst ys)) { s with heap:=s.heap.update l (Obj.mapSeq f),toks:=t' }:=by
 have q:=PySem.IsL.update e f
 rw[hf]at q
 refine I.write (x:=l) (e:=l) (by rw[hH];exact trivial) (.inl rfl) (fun b' u hb hu=>(K7 s.heap (Obj.mapSeq f) (Ne.symm hb)).trans hu) ⟨_,q⟩ ?_
 exact⟨hz,its',_,hv,q⟩
theorem Inv.lnew {its:List Value}(I:Inv X pins σ H s)(hv:C3 ys its)(hz:ys.length<=f6) :
  Inv X pins σ (upd H s.heap.objs.size (.lst ys)) { s with heap:=s.heap.push { cls:=.type "list",data:=.seq its.toArray },toks:=t' } :=
 I.laid (fun _ _ q=>a7 _ q) (c5 _) ⟨hz,its,0,hv,m7 _ rfl⟩
theorem Inv.fresh (I:Inv X pins σ H s):H s.heap.objs.size=none:=I.hok.fresh (c5 _)
theorem Inv.lstM (I:Inv X pins σ H s)(hH:H l=some (.lst xs)):xs.length<=f6/\∃ (its:List Value) (n:Nat),C3 xs its/\xs.length=its.length/\s.heap.get? l=some { cls:=.type "list",data:=.seq its.toArray n }:=by
 obtain⟨z,its,n,r,e⟩:=I.hok l _ hH
 exact⟨z,its,n,r,r.length,e⟩
theorem bz1 (h:n<=f6):Builtin.List.listTooLong n=false:=by
 unfold Builtin.List.listTooLong
 exact decide_eq_false (by omega)
end
def bJ1:V->List V->Hp->VK->Prop:=fun x vs H Q=>∃ l xs y,x=.ref l/\vs=[y]/\H l=some (.lst xs)/\xs.length<f6/\Q .non (upd H l (.lst (xs++[y])))
theorem ab4:MtM X "list.append" bJ1:=by
 intro pins s σ H x vs v us Q I rx rv h
 obtain⟨l,xs,y,rfl,rfl,hH,hz,q⟩:=h
 cases rx
 obtain⟨u,rfl,ru⟩:=rv.one
 obtain⟨z,its,n,r,hl,e⟩:=I.lstM hH
 refine bF5 F.slot_list_append ⟨_,e,rfl⟩ F.entry_list_append (F.args_list_append_2 _ _) (PySem.list_append l its.toArray n u (by rw[d8];omega)) ⟨e,?_⟩
 refine⟨.non,_,I.lset (its':=its++[u]) hH e (by simp) (r.append (.cons ru .nil)) ?_,rfl,q⟩
 rw[j7,Q0]
 omega
def ck8:R2:=fun x y H Q=>∃ l b xs zs,x=.ref l/\y=.ref b/\H l=some (.lst xs)/\H b=some (.lst zs)/\xs.length+zs.length<=f6/\∀ p,H p=none->Q (.ref p) (upd H p (.lst (xs++zs)))
theorem bb5:OpR X (Y7 .Add) ck8:=by
 intro pins s σ H x y v u Q I rx ry h
 obtain⟨l,b,xs,zs,rfl,rfl,hH,hB,hz,q⟩:=h
 cases rx
 cases ry
 obtain⟨z,its,n,r,hl,e⟩:=I.lstM hH
 obtain⟨z2,its2,n2,r2,hl2,e2⟩:=I.lstM hB
 refine PySem.P.add_list e e2 ?_ (by rw[d8,d8];omega)
 have ea:its.toArray++its2.toArray=(its++its2).toArray:=by simp
 rw[ea]
 exact⟨.ref _,_,I.lnew (t':=s.toks) (r.append r2) (by rw[j7];omega),rfl,q _ I.fresh⟩
def ck7:R2:=fun x y H Q=>∃ l k xs,x=.ref l/\y=.int k/\H l=some (.lst xs) /\ -(2 ^ 63)<=k/\k<2 ^ 63/\xs.length*k.toNat<=f6 /\
 ∀ p,H p=none->Q (.ref p) (upd H p (.lst (B9 k.toNat xs).flatten))
theorem len_rep {α:Type}(xs:List α)(k:Nat):(B9 k xs).flatten.length=k*xs.length:=by
 induction k with
 | zero=>simp
 | succ k ih=>rw[G0,M9,j7,ih,Y1,Nat.add_comm]
theorem bW0:OpR X (Y7 .Mult) ck7:=by
 intro pins s σ H x y v u Q I rx ry h
 obtain⟨l,k,xs,rfl,rfl,hH,h1,h2,hz,q⟩:=h
 cases rx
 obtain⟨t,rfl⟩:=ry
 obtain⟨z,its,n,r,hl,e⟩:=I.lstM hH
 have hlen:its.toArray.size*k.toNat<=f6:=by rw[d8,<- hl];exact hz
 have hcap:¬ its.toArray.size*k.toNat > (2 ^ 63 - 1) / 8:=by
  have:(f6:Nat)<=(2 ^ 63 - 1) / 8:=by decide
  omega
 have hfit:¬ (!Builtin.List.listFitsIndex k)=true:=by
  rw[fitsIndex_both h1 h2]
  exact j5
 have hlong:¬ Builtin.List.listTooLong (its.toArray.size*k.toNat)=true:=by
  rw[bz1 hlen]
  exact j5
 have hnew:aa6 (fun x1 x2=>x1++x2) #[] (B9 (if its.toArray.isEmpty=true then 0 else k.toNat) its.toArray)=(B9 k.toNat its).flatten.toArray:=by
  have f0:∀ m:Nat,aa6 (fun x1 x2=>x1++x2) #[] (B9 m its.toArray)=(B9 m its).flatten.toArray:=fun m=>by
   have:=foldl_rep its m []
   rw[K5]at this
   exact this
  rw[f0]
  cases its with
  | nil=>simp
  | cons a r'=>rw[if_neg (by simp)]
 refine wpAny_binaryOp_repeat_ref (T:="list") (U:="int") (by decide) ⟨_,e,rfl⟩ (fun s'=>typeIs_int s' k t) noFill_list_mul F.fills_int_mul F.slot_int_rmul repeat_list F.slot_int_index.lookup
  (bF5 F.slot_int_rmul (typeIs_int s k t) F.entry_int_rmul (F.args_int_rmul_2 _ _) (int___rmul___int_list k t l its.toArray n)
   ⟨e,rfl,⟨_,e,rfl⟩,bF5 F.slot_list_mul ⟨_,e,rfl⟩ F.entry_list_mul (F.args_list_mul_2 _ _) (AutoListH.list___mul___list_int_3 l its.toArray n k t hfit hcap hlong) ⟨e,?_⟩⟩)
 rw[hnew]
 exact⟨.ref _,_,I.lnew (t':=s.toks) (r.rep k.toNat) (by rw[len_rep,Nat.mul_comm];exact hz),rfl,q _ I.fresh⟩
end L2
namespace Att
open PySem PySem.W PySem.Calls PyProof.Rows
theorem au9 {P:Params}:∀ (ns:List Int) (vs:List Value),WellAll P h vs (ns.map WData.int)->M7 vs ns:=by
 intro ns
 induction ns with
 | nil =>
  intro vs w
  rw[T4]at w
  cases w
  exact .nil
 | cons n ns ih =>
  intro vs w
  rw[i7]at w
  cases w with
  | cons a b =>
   cases a
   exact .cons _ _ (ih _ b)
theorem bo4 {l:OpenLaw}(hn:l.most=some n){P:Params}{args:List WData}{vals:List Value}
  (hpre:l.row.toRowW.claim.pre args=true)(hwl:WellAll P h vals args) :
  ∃ a vs ns,vals=[Value.ref a]/\args=[WData.list (ns.map WData.int)]/\h.get? a=some { cls:=.type "list",data:=.seq vs.toArray }/\M7 vs ns/\ns.length<=n:=by
 have hsh:WShape.hasAll [] args [.list .int]=true:=(pre_splitW hpre).1
 have hc:l.pre.holds [] { args:=args }=true:=(pre_splitW hpre).2
 obtain⟨d,r,rfl,h1,h2⟩:=hasAllW_cons hsh
 obtain rfl:=hasAllW_nil h2
 obtain⟨xs,rfl,h3⟩:=hasW_list h1
 obtain⟨ns,rfl⟩:=items_int h3
 have hlen:ns.length<=n:=by
  unfold OpenLaw.pre at hc
  have h4:(WTm.not (.lt (.lit (.int (n:Int))) (.len (.arg 0)))).holds [] { args:=[.list (ns.map .int)] }=true:=by
   have h4:=(holds_andW hc).1
   rw[hn]at h4
   exact h4
  have h5:=condW_of h4 (w_not (w_lt w_lit (w_len_list (w_arg rfl))))
  rw[a6]at h5
  refine Nat.le_of_not_lt fun q=>?_
  have q':(n:Int)<((ns.length:Nat):Int):=by omega
  first
   | (rw[decide_eq_true q']at h5;exact absurd h5 (by decide))
   | (simp at h5;omega)
 cases hwl with
 | cons w1 w2 =>
  cases w2
  cases w1 with
  | list ho hall=>exact⟨_,_,ns,rfl,rfl,ho,au9 ns _ hall,hlen⟩
theorem bp4 (l:OpenLaw)(args:List WData):l.row.toRowW.claim.post args (.bool true) args=true:=
 postW_of (r:=l.row.toRowW) (X:=(true == true))
  (show WShape.has [] (.bool true) .bool=true by first | rfl | decide | simp[WShape.has,WShape.arms,WShape.armsAll])
  (show (WTm.eq .res (.lit (.bool true))).value [] { args:=args,res:=some (.bool true),after:=args }=some (.bool (true == true)) from w_eq_bool (w_res rfl) w_lit) rfl
theorem attach_call {l:OpenLaw} {q:Program} {loose:List Str} {d:DefRec}
  (hn:l.most=some n) (hdf:d.params.defaults=[])
  (call : ∀ (w : World) (s₀ s₁ : Shared) (mg mb : Str -> Option Value) (fa : Addr) (o : Obj) (pm cd doc : Value) (a : Addr) (vs : List Value) (ns : List Int),
   Ground q loose [] XP w s₀ mg mb s₁.heap->YP w s₁.heap ->
   s₁.heap.get? fa=some o->o.data=.func (docDef d.name d.params d.body d.scope pm cd doc)->s₁.heap.CodeRec cd d.name->mg d.name=some (.ref fa) ->
   s₁.heap.get? a=some { cls:=.type "list",data:=.seq vs.toArray }->M7 vs ns->ns.length<=n->s₁.gens=#[] ->
   aP4 (p7 l.prog w) bn2 (.call (.ref fa) ⟨[.ref a],[]⟩) (fun r s'=>r=.ok (.ret (.bool true))/\OldK s₁.heap s'.heap/\s'.os=s₁.os/\au1 s'.gens) s₁) :
  WalkO q loose XP YP l.row.toRowW d [] (fun f vs=>PySem.call f vs):=by
 intro w s₀ s₁ mg mb G Y fa o pm cd doc dV kV ho hd hcd hD hmg hg args vals as hpre hlay hrd hwl hlo
 obtain rfl:dV=.none:=Dflts.none hD hdf
 obtain rfl:kV=.none:=Dflts.noKw hD
 obtain⟨a,vs,ns,rfl,rfl,hobj,hints,hlen⟩:=bo4 hn hpre hwl
 refine enter_call (au4 (call w s₀ s₁ mg mb fa o pm cd doc a vs ns G Y ho (fd_plain hd) hcd hmg hobj hints hlen hg) fun r s' hq=>?_)
 obtain⟨rfl,h2,h3,h4⟩:=hq
 exact⟨.inl ⟨.bool true,.bool true,[],rfl,fun _=>rfl,.bool true,bp4 l _,fun _=>⟨List.Pairwise.nil,fun _ hm=>(nomatch hm)⟩⟩,h2,h3,h4⟩
section
variable {K:Frag}
end
end Att
namespace L2
open PySem PySem.Spec PyProof.Rows
theorem aa8:∀ {vs:List Value} {ns:List Int},M7 vs ns->C3 (ns.map V.int) vs
 | _,_,.nil=>.nil
 | _,_,.cons n t h=>.cons ⟨t,rfl⟩ (aa8 h)
end L2
namespace L2
open PySem PySem.Spec PyProof.Rows
def aj4 (s:Stmt):Arguments:=match s with
 | .FunctionDef _ a _ _ _ _ _ _ _ _=>a
 | _=>{ posonlyargs:=[],args:=[],vararg:=none,kwonlyargs:=[],kw_defaults:=[],kwarg:=none,defaults:=[] }
def U6 (s:Stmt):List Stmt:=match s with
 | .FunctionDef _ _ b _ _ _ _ _ _ _=>b
 | _=>[]
def m9 (s:Stmt):Scope:=match s with
 | .FunctionDef _ _ _ _ _ _ sc _ _ _=>sc
 | _=>{ kind:=.function,names:=[],isGenerator:=false,isCoroutine:=false }
abbrev CX0:CXT:=fun _ _ _ _ _ _=>False
abbrev E0:XK:=fun _ _ _=>False
theorem E7:as3 CX0 X E0:=fun _ _ _ _ _ _ _ h=>h.elim
structure Fun (K:W.Frag) (x qual:Str) (st:Stmt) (f:Addr) (fd:FuncData):Prop where
 ex:∃ (oc:Value) (od:Option Addr) (kV doc pm:Value) (an:Option Addr) (cdv ct:Value) (osl:Array (Option Value)),
  fd=S4 x qual (aj4 st) (U6 st) (m9 st) .none kV doc pm an cdv ct/\K.lookup f=some ⟨oc,od,.func fd,osl⟩/\aP2 K cdv qual=true
 kp:ac2 K (.ref f)=true
section
variable {K:W.Frag} {mg:Str->Option Value} {base:Heap}
theorem Fun.ok {st:Stmt} {k:Nat} {sp:Sp} (F:Fun K x qual st f fd) (S:r6 N ps (m9 st))
  (hbody : ∀ (cdv : Value) (A : Around) (outer : List Env) (s : Shared) (H : Hp) (vs : List V) (Q : VK) (E : XK), X7 k (A.deeper (M0 qual (m9 st) s.heap.objs.size f cdv)) -> sp vs H Q E ->
   ∃ t,PSs (ag8 CX0 P w K mg base N qual (m9 st) f cdv A outer s H E).nox (U6 st) t/\t { nx:=fun _ H'=>Q .non H',rt:=Q } (start N vs) H) (len:∀ vs H Q E,sp vs H Q E->vs.length=ps.length:=by intro _ _ _ _ h;repeat first | (obtain⟨rfl,_⟩:=h;rfl) | obtain⟨_,h⟩:=h):o9 P w K mg base CX0 (k+1) f fd ps sp:=by
 obtain⟨oc,od,kV,doc,pm,an,cdv,ct,osl,rfl,lk,hcd⟩:=F.ex
 refine bC1 lk hcd S len fun A outer s H vs Q E hr hsp=>?_
 obtain⟨t,h,q⟩:=hbody cdv A outer s H vs Q E hr hsp
 exact⟨t,h.nox,q⟩
theorem Fun.binds {st:Stmt}(F:Fun K x qual st f fd)
  (h:∀ (kV doc pm:Value) (an:Option Addr) (cdv ct:Value) (us:List Value),us.length=ps.length->bf0 (S4 x qual (aj4 st) (U6 st) (m9 st) .none kV doc pm an cdv ct) ⟨us,[]⟩=pure (ps.zip us)):Binds K fd ps []:=by
 obtain⟨oc,od,kV,doc,pm,an,cdv,ct,osl,rfl,lk,hcd⟩:=F.ex
 exact .all (h kV doc pm an cdv ct)
theorem fun_mk {st:Stmt}{oc:Value}{od an:Option Addr}{osl:Array (Option Value)}{kV doc pm cdv ct:Value}(l:K.lookup f=some ⟨oc,od,.func (S4 x qual (aj4 st) (U6 st) (m9 st) .none kV doc pm an cdv ct),osl⟩)
  (c:aP2 K cdv qual=true)(k:ac2 K (.ref f)=true):Fun K x qual st f (S4 x qual (aj4 st) (U6 st) (m9 st) .none kV doc pm an cdv ct):=⟨⟨oc,od,kV,doc,pm,an,cdv,ct,osl,rfl,l,c⟩,k⟩
structure Fq (K:W.Frag) (mg:Str->Option Value) (x:Str) (st:Stmt) (f:Addr) (fd:FuncData) (ps:List Str):Prop where
 F:Fun K x x st f fd
 b:Binds K fd ps []
 m:mg x=some (.ref f)
theorem v7 {CX:CXT}{k:Nat}{sp:Sp}{t:TA}{E:XK}{p:Pos}{st:Stmt}(F:o9 X.prog X.w X.K X.mg X.base CX k f fd ps sp)(hr:X7 k X.A)(hg:Gl X x)(q:Fq X.K X.mg x st f fd ps)(hx:as3 CX X E)
  (ha:PA X (e::es) t)(hdb:(x == ("__debug__":Str))=false:=by decide)(he:A6 (e::es) X.env=(false,eval e X.env)::A6 es X.env:=by rfl)(hpl:(Z9 pos (A6 es X.env)).any (·.1)=false:=by rfl) :
  PE X (.Call (.Name x p) (e::es) [] pos) (bP2 sp [] E t):=aw3 F hr hg q.m q.F.kp q.b .nil hx ha hdb he hpl
end
theorem pv (i:Nat)(hN:X.N[i]?=some x:=by rfl)(hv:Vis X.env.scope x:=by first | exact Or.inl rfl | exact Or.inr (Or.inl rfl) | exact Or.inr (Or.inr rfl))(hd:(x == ("__debug__":Str))=false:=by decide)
  (hcd:(x == ("__classdict__":Str))=false:=by decide):PE X (.Name x pos) (cd3 i):=bV7 hN hv hd hcd
theorem J8 {A B:Prop}(h:B):if false=true then A else B:=by
 rw[if_neg j5]
 exact h
theorem P7 {A B:Prop}(h:A):if true=true then A else B:=by
 rw[if_pos rfl]
 exact h
theorem aU6 {c A B:Prop}[Decidable c](h1:c->A)(h2:¬ c->B):if c then A else B:=by
 by_cases h:c
 ·rw[if_pos h]
  exact h1 h
 ·rw[if_neg h]
  exact h2 h
theorem bj5 {c A B:Prop}[Decidable c](hc:c)(h:B):if (!decide c)=true then A else B:=by
 rw[decide_eq_true hc]
 exact J8 h
def y7 (H H':Hp):Prop:=∀ b o,H b=some o->H' b=some o
theorem y7.refl (H:Hp):y7 H H:=fun _ _ h=>h
theorem y7.trans {H1 H2:Hp}(a:y7 H H1)(b:y7 H1 H2):y7 H H2:=fun c o h=>b c o (a c o h)
theorem y7.free (e:y7 H H')(h:H' l=Option.none):H l=Option.none:=by
 cases q:H l with
 | none=>rfl
 | some o =>
  rw[e l o q]at h
  cases h
theorem y7.seq {K:W.Frag}(e:y7 H H')(h:SqL K H a xs):SqL K H' a xs:=by
 rcases h with(h | ⟨o,h⟩) | h
 ·exact .inl (.inl (e _ _ h))
 ·exact .inl (.inr ⟨o,e _ _ h⟩)
 ·exact .inr h
end L2
namespace Tim
open PySem PyProof.Rows
def W4:Bool->Keyed->Array Keyed->Nat->Nat->Nat->StateT SortSt Sem (Option Nat):=sortPriv% PySem.Builtin.gallop
def N0:Nat->StateT SortSt Sem Unit:=sortPriv% PySem.Builtin.setMinGallop
def aA8:Array Keyed->Array Keyed->StateT SortSt Sem (Array Keyed):=sortPriv% PySem.Builtin.mergeLo
def aA9:Array Keyed->Array Keyed->StateT SortSt Sem (Array Keyed):=sortPriv% PySem.Builtin.mergeHi
def ad9 (left:Bool)(key:Keyed)(arr:Array Keyed)(base:Nat)(i:Nat):StateT SortSt Sem (Option Bool):=do
 let x <- af8 arr (base+i)
 if left then lt' x key else return (<- lt' key x).map (!·)
theorem bd4 (left:Bool)(key:Keyed)(arr:Array Keyed)(base n hint:Nat):W4 left key arr base n hint=(do
 let mut lastofs:=0
 let mut ofs:=1
 let mut lo:=0
 let mut hi:=0
 let some right <- ad9 left key arr base hint | return none
 if right then
  let maxofs:=n - hint
  for _ in [0:n] do
   if ofs≥maxofs then break
   let some more <- ad9 left key arr base (hint+ofs) | return none
   if !more then break
   lastofs:=ofs
   ofs:=2*ofs+1
  lo:=hint+lastofs+1
  hi:=hint+min ofs maxofs
 else
  let maxofs:=hint+1
  for _ in [0:n] do
   if ofs≥maxofs then break
   let some found <- ad9 left key arr base (hint - ofs) | return none
   if found then break
   lastofs:=ofs
   ofs:=2*ofs+1
  lo:=hint+1 - min ofs maxofs
  hi:=hint - lastofs
 for _ in [0:n] do
  if lo≥hi then break
  let m:=lo+(hi - lo) / 2
  let some more <- ad9 left key arr base m | return none
  if more then lo:=m+1 else hi:=m
 return some hi):=rfl
theorem ap6 (g:Nat):N0 g=modify (fun s=>SortSt.mk' (kindOf s) (l9 s) (B7 s) g (M3 s)):=rfl
structure Ord (B:Keyed->Keyed->Bool):Prop where
 irr:∀ x,B x x=false
 tr:∀ x y z,B x y=true->B y z=true->B x z=true
 ng:∀ x y z,B x z=true->B x y=true\/B y z=true
def le (B:Keyed->Keyed->Bool)(x y:Keyed):Prop:=B y x=false
theorem Ord.rf (o:Ord B)(x:Keyed):le B x x:=o.irr x
theorem Ord.of_lt (o:Ord B){x y:Keyed}(h:B x y=true):le B x y:=by
 unfold le
 cases e:B y x with
 | false=>rfl
 | true =>
  have:=o.tr _ _ _ h e
  rw[o.irr]at this
  cases this
theorem Ord.trans (o:Ord B){x y z:Keyed}(h1:le B x y)(h2:le B y z):le B x z:=by
 unfold le at *
 cases e:B z x with
 | false=>rfl
 | true =>
  rcases o.ng _ y _ e with h | h
  ·rw[h2]at h;cases h
  ·rw[h1]at h;cases h
theorem Ord.lt_le (o:Ord B){x y z:Keyed}(h1:B x y=true)(h2:le B y z):B x z=true:=by
 unfold le at h2
 rcases o.ng _ z _ h1 with h | h
 ·exact h
 ·rw[h2]at h;cases h
theorem Ord.le_lt (o:Ord B){x y z:Keyed}(h1:le B x y)(h2:B y z=true):B x z=true:=by
 unfold le at h1
 rcases o.ng _ x _ h2 with h | h
 ·rw[h1]at h;cases h
 ·exact h
section
variable {S:Keyed->Prop}
def Cmp (prog:Program)(w:World)(A:Around)(E:Value->Shared->Prop)(s:Shared)(κ:SortKind)(S:Keyed->Prop)(B:Keyed->Keyed->Bool):Prop:=
 ∀ (x y:Keyed),S x->S y->∀ (Q:Bool->Shared->Prop),Q (B x y) s->p9 (p7 prog w) A (keyLt' κ x.1 y.1) Q (fun _ _=>False) s
theorem ay1 (C:Cmp prog w A E s κ S B){x y:Keyed}{st:SortSt}{Q:Option Bool->SortSt->Prop}(hk:kindOf st=κ)(hx:S x)(hy:S y)(h:Q (some (B x y)) st):wpS (p7 prog w) A E s (lt' x y) Q st:=by
 rw[lt'_eq]
 refine j3 (au5 ?_)
 rw[hk]
 refine j3 (wpS_lift (wpAny_attempt ?_))
 refine E6 (C x y hx hy (fun b s'=>s'=s/\b=B x y) ⟨rfl,rfl⟩) (fun b s' hb=>?_) (fun _ _ f=>f.elim)
 obtain⟨rfl,rfl⟩:=hb
 exact⟨rfl,l5 h⟩
theorem C4 {arr:Array Keyed}{x:Keyed}{st:SortSt}{Q:Keyed->SortSt->Prop}(hi:arr[i]?=some x)(h:Q x st):wpS (p7 prog w) A E s (af8 arr i) Q st:=by
 rw[elem'_eq,hi]
 exact l5 h
theorem bn9 (C:Cmp prog w A E s κ S B){x y:Keyed}{st:SortSt}{Q:Option Bool->SortSt->Prop}(hk:kindOf st=κ)(hi:(l9 st)[i]?=some x)(hj:(l9 st)[j]?=some y)(hx:S x)(hy:S y)(h:Q (some (B x y)) st) :
  wpS (p7 prog w) A E s (ltAt' i j) Q st:=by
 rw[ltAt'_eq]
 refine j3 (au5 ?_)
 show wpS _ _ _ _ (do let x <- af8 (l9 st) i;let y <- af8 (l9 st) j;lt' x y) Q st
 exact j3 (C4 hi (j3 (C4 hj (ay1 C hk hx hy h))))
theorem aa7 {n:String}{st:SortSt}{Q:Unit->SortSt->Prop}(h:Q () st):wpS (p7 prog w) A E s (liftM (rule n):StateT SortSt Sem Unit) Q st:=wpS_lift (bF6 ⟨rfl,h⟩)
def byn (B:Keyed->Keyed->Bool)(left:Bool)(key x:Keyed):Bool:=if left=true then B x key else !B key x
theorem aY9 (C:Cmp prog w A E s κ S B){left:Bool}{key x:Keyed}{arr:Array Keyed}{base:Nat}{st:SortSt}{Q:Option Bool->SortSt->Prop}(hk:kindOf st=κ)(hi:arr[base+i]?=some x)(hx:S x)(hy:S key)
  (h:Q (some (byn B left key x)) st):wpS (p7 prog w) A E s (ad9 left key arr base i) Q st:=by
 unfold ad9
 refine j3 (C4 hi ?_)
 cases left with
 | true=>exact ay1 C hk hx hy h
 | false=>exact j3 (ay1 C hk hy hx (l5 h))
theorem aF4 {st:SortSt} {Q:Option Nat->SortSt->Prop} (P:Nat->Bool) {f:Nat->Option (Option Nat) × Nat × Nat->StateT SortSt Sem (ForInStep (Option (Option Nat) × Nat × Nat))} {k:Option (Option Nat) × Nat × Nat->StateT SortSt Sem (Option Nat)}
  (mono:∀ i j,i<=j->j<n->P j=true->P i=true)
  (hf : ∀ x lo hi (R : ForInStep (Option (Option Nat) × Nat × Nat) -> SortSt -> Prop), hi <= n -> (hi <= lo -> R (.done (none, lo, hi)) st) -> (lo < hi -> P (lo + (hi - lo) / 2) = true -> R (.yield (none, lo + (hi - lo) / 2 + 1, hi)) st) ->
   (lo<hi->P (lo+(hi - lo) / 2)=false->R (.yield (none,lo,lo+(hi - lo) / 2)) st)->wpS (p7 prog w) A E s (f x (none,lo,hi)) R st)
  (hk:∀ lo hi (R:Option Nat->SortSt->Prop),R (some hi) st->wpS (p7 prog w) A E s (k (none,lo,hi)) R st)
  (h:∀ k,k<=n->(∀ i,i<k->P i=true)->(∀ i,k<=i->i<n->P i=false)->Q (some k) st) {lo hi:Nat}
  (h1:lo<=hi) (h2:hi<=n) (h3:∀ i,i<lo->P i=true) (h4:∀ i,hi<=i->i<n->P i=false) :
  wpS (p7 prog w) A E s (forIn [:n] ((none,lo,hi):Option (Option Nat) × Nat × Nat) f >>= k) Q st:=by
 have anti:∀ i j,i<=j->j<n->P i=false->P j=false:=fun i j h1 h2 h3=>by
  cases e:P j with
  | false=>rfl
  | true=>rw[mono i j h1 h2 e]at h3;cases h3
 refine j3 (U2 (E5 (I:=fun x c st'=>st'=st/\∃ lo hi,c=(none,lo,hi)/\lo<=hi/\hi<=n/\hi - lo<=n - x/\(∀ i,i<lo->P i=true)/\(∀ i,hi<=i->i<n->P i=false))
  (Q:=fun c st'=>st'=st/\∃ k,c=(none,k,k)/\k<=n/\(∀ i,i<k->P i=true)/\(∀ i,k<=i->i<n->P i=false)) ?step ?fin ⟨rfl,lo,hi,rfl,h1,h2,by omega,h3,h4⟩) ?post)
 case fin =>
  rintro c st' ⟨rfl,lo,hi,rfl,h1,h2,hm,h3,h4⟩
  have:lo=hi:=by omega
  subst this
  exact⟨rfl,lo,rfl,h2,h3,h4⟩
 case post =>
  rintro c st' ⟨rfl,k,rfl,h2,h3,h4⟩
  exact hk _ _ _ (h k h2 h3 h4)
 case step =>
  rintro x c st' _ hx ⟨rfl,lo,hi,rfl,h1,h2,hm,h3,h4⟩
  refine hf x lo hi _ h2 (fun hge=>?_) (fun hlt e=>?_) (fun hlt e=>?_)
  ·have:lo=hi:=by omega
   subst this
   exact⟨rfl,lo,rfl,h2,h3,h4⟩
  ·exact⟨rfl,_,hi,rfl,by omega,h2,by omega,fun i hi'=>mono i _ (by omega) (by omega) e,h4⟩
  ·exact⟨rfl,lo,_,rfl,by omega,by omega,by omega,h3,fun i h5 h6=>anti _ i h5 h6 e⟩
theorem aJ4 {left:Bool} {key:Keyed} {arr:Array Keyed} {base hint:Nat} {st:SortSt} {Q:Option Nat->SortSt->Prop} (P:Nat->Bool)
  (hP:∀ i,i<n->∀ R:Option Bool->SortSt->Prop,R (some (P i)) st->wpS (p7 prog w) A E s (ad9 left key arr base i) R st)
  (mono:∀ i j,i<=j->j<n->P j=true->P i=true) (hh:hint<n)
  (h:∀ k,k<=n->(∀ i,i<k->P i=true)->(∀ i,k<=i->i<n->P i=false)->Q (some k) st) :
  wpS (p7 prog w) A E s (W4 left key arr base n hint) Q st:=by
 have anti:∀ i j,i<=j->j<n->P i=false->P j=false:=fun i j h1 h2 h3=>by
  cases e:P j with
  | false=>rfl
  | true=>rw[mono i j h1 h2 e]at h3;cases h3
 rw[bd4]
 dsimp only
 refine j3 (hP hint hh _ ?_)
 cases e0:P hint with
 | true =>
  dsimp only
  rw[if_pos rfl]
  refine j3 (U2 (E5 (I:=fun x c st'=>st'=st/\∃ l o,c=(none,l,o)/\l<o/\x+1<=o/\hint+l<n/\P (hint+l)=true)
   (Q:=fun c st'=>st'=st/\∃ l o,c=(none,l,o)/\l<o/\hint+l<n/\P (hint+l)=true/\(n - hint<=o\/(hint+o<n/\P (hint+o)=false))) ?step ?fin ⟨rfl,0,1,rfl,by omega,by omega,by omega,e0⟩) ?post)
  case fin =>
   rintro c st' ⟨rfl,l,o,rfl,h1,h2,h3,h4⟩
   exact⟨rfl,l,o,rfl,h1,h3,h4,.inl (by omega)⟩
  case post =>
   rintro c st' ⟨rfl,l,o,rfl,h1,h3,h4,h5⟩
   dsimp only
   refine aF4 P mono
    (fun x lo hi R hn a b c => by
     dsimp only
     by_cases hge:lo≥hi
     ·rw[if_pos hge]
      exact l5 (a hge)
     ·rw[if_neg hge]
      refine j3 (hP _ (by omega) _ ?_)
      cases e:P (lo+(hi - lo) / 2) with
      | true =>
       dsimp only
       rw[if_pos rfl]
       exact l5 (b (by omega) e)
      | false =>
       dsimp only
       rw[if_neg j5]
       exact l5 (c (by omega) e)) (fun lo hi R hR=>l5 hR) h (lo:=hint+l+1) (hi:=hint+min o (n - hint)) (by omega) (by omega) (fun i hi=>mono i _ (by omega) h3 h4) (fun i h6 h7=>?_)
   rcases h5 with h5 | ⟨h5,h8⟩
   ·omega
   ·exact anti _ i (by omega) h7 h8
  case step =>
   rintro x c st' _ hx ⟨rfl,l,o,rfl,h1,h2,h3,h4⟩
   dsimp only
   by_cases hge:o≥n - hint
   ·rw[if_pos hge]
    exact l5 ⟨rfl,l,o,rfl,h1,h3,h4,.inl hge⟩
   ·rw[if_neg hge]
    refine j3 (hP _ (by omega) _ ?_)
    cases e:P (hint+o) with
    | true =>
     dsimp only
     rw[if_neg (by simp)]
     exact l5 ⟨rfl,o,2*o+1,rfl,by omega,by omega,by omega,e⟩
    | false =>
     dsimp only
     rw[if_pos (by simp)]
     exact l5 ⟨rfl,l,o,rfl,h1,h3,h4,.inr ⟨by omega,e⟩⟩
 | false =>
  dsimp only
  rw[if_neg j5]
  refine j3 (U2 (E5 (I:=fun x c st'=>st'=st/\∃ l o,c=(none,l,o)/\l<o/\x+1<=o/\l<=hint/\P (hint - l)=false)
   (Q:=fun c st'=>st'=st/\∃ l o,c=(none,l,o)/\l<o/\l<=hint/\P (hint - l)=false/\(hint+1<=o\/(o<=hint/\P (hint - o)=true))) ?step ?fin ⟨rfl,0,1,rfl,by omega,by omega,by omega,e0⟩) ?post)
  case fin =>
   rintro c st' ⟨rfl,l,o,rfl,h1,h2,h3,h4⟩
   exact⟨rfl,l,o,rfl,h1,h3,h4,.inl (by omega)⟩
  case post =>
   rintro c st' ⟨rfl,l,o,rfl,h1,h3,h4,h5⟩
   dsimp only
   refine aF4 P mono
    (fun x lo hi R hn a b c => by
     dsimp only
     by_cases hge:lo≥hi
     ·rw[if_pos hge]
      exact l5 (a hge)
     ·rw[if_neg hge]
      refine j3 (hP _ (by omega) _ ?_)
      cases e:P (lo+(hi - lo) / 2) with
      | true =>
       dsimp only
       rw[if_pos rfl]
       exact l5 (b (by omega) e)
      | false =>
       dsimp only
       rw[if_neg j5]
       exact l5 (c (by omega) e)) (fun lo hi R hR=>l5 hR) h (lo:=hint+1 - min o (hint+1)) (hi:=hint - l) (by omega) (by omega) (fun i hi=>?_) (fun i h6 h7=>anti _ i h6 h7 h4)
   rcases h5 with h5 | ⟨h5,h8⟩
   ·omega
   ·exact mono i _ (by omega) (by omega) h8
  case step =>
   rintro x c st' _ hx ⟨rfl,l,o,rfl,h1,h2,h3,h4⟩
   dsimp only
   by_cases hge:o≥hint+1
   ·rw[if_pos hge]
    exact l5 ⟨rfl,l,o,rfl,h1,h3,h4,.inl hge⟩
   ·rw[if_neg hge]
    refine j3 (hP _ (by omega) _ ?_)
    cases e:P (hint - o) with
    | true =>
     dsimp only
     rw[if_pos rfl]
     exact l5 ⟨rfl,l,o,rfl,h1,h3,h4,.inr ⟨by omega,e⟩⟩
    | false =>
     dsimp only
     rw[if_neg j5]
     exact l5 ⟨rfl,o,2*o+1,rfl,by omega,by omega,by omega,e⟩
theorem T7 (o:Ord B)(C:Cmp prog w A E s κ S B){left:Bool}{key:Keyed}{arr:Array Keyed}{base hint:Nat}{st:SortSt}{Q:Option Nat->SortSt->Prop}(hk:kindOf st=κ)(hkey:S key)(hb:base+n<=arr.size)
  (hS:∀ (i:Nat) (x:Keyed),i<n->arr[base+i]?=some x->S x)
  (hs:∀ (i j:Nat) (x y:Keyed),i<=j->j<n->arr[base+i]?=some x->arr[base+j]?=some y->le B x y)(hh:hint<n)
  (h:∀ k,k<=n->(∀ (i:Nat) (x:Keyed),i<k->arr[base+i]?=some x->byn B left key x=true)->(∀ (i:Nat) (x:Keyed),k<=i->i<n->arr[base+i]?=some x->byn B left key x=false)->Q (some k) st) :
  wpS (p7 prog w) A E s (W4 left key arr base n hint) Q st:=by
 have ex:∀ i,i<n->∃ x,arr[base+i]?=some x:=fun i hi=>⟨arr[base+i]'(by omega),getElem?_pos arr _ (by omega)⟩
 have ev:∀ (i:Nat) (x:Keyed),arr[base+i]?=some x->((arr[base+i]?).getD key)=x:=fun i x e=>by rw[e];rfl
 refine aJ4 (fun i=>byn B left key ((arr[base+i]?).getD key)) (fun i hi R hR=>?_) (fun i j hij hj hp=>?_) hh (fun k hk' h1 h2=>h k hk' (fun i x hi e=>?_) (fun i x h3 h4 e=>?_))
 ·obtain⟨x,e⟩:=ex i hi
  rw[ev i x e]at hR
  exact aY9 C hk e (hS i x hi e) hkey hR
 ·obtain⟨x,e⟩:=ex i (by omega)
  obtain⟨y,e'⟩:=ex j hj
  rw[ev j y e']at hp
  rw[ev i x e]
  have l:=hs i j x y hij hj e e'
  unfold byn at hp ⊢
  cases left with
  | true =>
   simp only[if_true]at hp ⊢
   exact o.le_lt l hp
  | false =>
   simp only[l6,if_false,aF3]at hp ⊢
   exact o.trans l hp
 ·have:=h1 i hi;rw[ev i x e]at this;exact this
 ·have:=h2 i h3 h4;rw[ev i x e]at this;exact this
end
theorem aT7 (a b:Array Keyed):aA8 a b=(do
 rule "list.sort.merge-lo"
 let total:=a.size+b.size
 let done (out:Array Keyed) (ia ib:Nat):=out++a.extract ia a.size++b.extract ib b.size
 let lastOfA (out:Array Keyed) (ia ib:Nat):=out++b.extract ib b.size++a.extract ia a.size
 let mut out:Array Keyed:=#[<- af8 b 0]
 let mut ia:=0
 let mut ib:=1
 if ib == b.size then return done out ia ib
 if ia+1 == a.size then return lastOfA out ia ib
 let mut minGallop:=gallopOf (<- get)
 for _ in [0:total] do
  let mut acount:=0
  let mut bcount:=0
  for _ in [0:total] do
   let some bWins <- lt' (<- af8 b ib) (<- af8 a ia) | return done out ia ib
   if bWins then
    out:=out.push (<- af8 b ib);ib:=ib+1;bcount:=bcount+1;acount:=0
    if ib == b.size then return done out ia ib
    if bcount≥minGallop then break
   else
    out:=out.push (<- af8 a ia);ia:=ia+1;acount:=acount+1;bcount:=0
    if ia+1 == a.size then return lastOfA out ia ib
    if acount≥minGallop then break
  rule "list.sort.gallop"
  minGallop:=minGallop+1
  for _ in [0:total] do
   if minGallop > 1 then minGallop:=minGallop - 1
   N0 minGallop
   let some k <- W4 false (<- af8 b ib) a ia (a.size - ia) 0 | return done out ia ib
   acount:=k
   if k > 0 then
    out:=out++a.extract ia (ia+k);ia:=ia+k
    if ia+1 == a.size then return lastOfA out ia ib
    if ia == a.size then return done out ia ib
   out:=out.push (<- af8 b ib);ib:=ib+1
   if ib == b.size then return done out ia ib
   let some k <- W4 true (<- af8 a ia) b ib (b.size - ib) 0 | return done out ia ib
   bcount:=k
   if k > 0 then
    out:=out++b.extract ib (ib+k);ib:=ib+k
    if ib == b.size then return done out ia ib
   out:=out.push (<- af8 a ia);ia:=ia+1
   if ia+1 == a.size then return lastOfA out ia ib
   if acount<7 && bcount<7 then break
  minGallop:=minGallop+1
  N0 minGallop
 af0 "internal:list.sort.merge-bound"):=rfl
theorem aT8 (a b:Array Keyed):aA9 a b=(do
 rule "list.sort.merge-hi"
 let total:=a.size+b.size
 let done (out:Array Keyed) (na nb:Nat):=a.extract 0 na++b.extract 0 nb++out.reverse
 let firstOfB (out:Array Keyed) (na nb:Nat):=b.extract 0 nb++a.extract 0 na++out.reverse
 let mut na:=a.size - 1
 let mut nb:=b.size
 let mut out:Array Keyed:=#[<- af8 a na]
 if na == 0 then return done out na nb
 if nb == 1 then return firstOfB out na nb
 let mut minGallop:=gallopOf (<- get)
 for _ in [0:total] do
  let mut acount:=0
  let mut bcount:=0
  for _ in [0:total] do
   let some aWins <- lt' (<- af8 b (nb - 1)) (<- af8 a (na - 1)) | return done out na nb
   if aWins then
    na:=na - 1;out:=out.push (<- af8 a na);acount:=acount+1;bcount:=0
    if na == 0 then return done out na nb
    if acount≥minGallop then break
   else
    nb:=nb - 1;out:=out.push (<- af8 b nb);bcount:=bcount+1;acount:=0
    if nb == 1 then return firstOfB out na nb
    if bcount≥minGallop then break
  rule "list.sort.gallop"
  minGallop:=minGallop+1
  for _ in [0:total] do
   if minGallop > 1 then minGallop:=minGallop - 1
   N0 minGallop
   let some at_ <- W4 false (<- af8 b (nb - 1)) a 0 na (na - 1) | return done out na nb
   let k:=na - at_
   acount:=k
   if k > 0 then
    out:=out++(a.extract at_ na).reverse;na:=at_
    if na == 0 then return done out na nb
   nb:=nb - 1;out:=out.push (<- af8 b nb)
   if nb == 1 then return firstOfB out na nb
   let some at_ <- W4 true (<- af8 a (na - 1)) b 0 nb (nb - 1) | return done out na nb
   let k:=nb - at_
   bcount:=k
   if k > 0 then
    out:=out++(b.extract at_ nb).reverse;nb:=at_
    if nb == 1 then return firstOfB out na nb
    if nb == 0 then return done out na nb
   na:=na - 1;out:=out.push (<- af8 a na)
   if na == 0 then return done out na nb
   if acount<7 && bcount<7 then break
  minGallop:=minGallop+1
  N0 minGallop
 af0 "internal:list.sort.merge-bound"):=rfl
structure MI (R:Keyed->Keyed->Prop) (out ra rb all:List Keyed):Prop where
 so:out.Pairwise R
 oa:∀ x∈out,∀ y∈ra,R x y
 ob:∀ x∈out,∀ y∈rb,R x y
 sa:ra.Pairwise R
 sb:rb.Pairwise R
 pm:(out++(ra++rb)).Perm all
theorem MI.blkA {blk all:List Keyed}(m:MI R out (blk++ra) rb all)(h:∀ x∈blk,∀ y∈rb,R x y):MI R (out++blk) ra rb all:=by
 obtain⟨s1,s2,s3⟩:=o7.mp m.sa
 refine⟨o7.mpr ⟨m.so,s1,fun x hx y hy=>m.oa x hx y (D7 _ hy)⟩,fun x hx y hy=>?_,fun x hx y hy=>?_,s2,m.sb,?_⟩
 ·rcases k7.mp hx with hx | hx
  ·exact m.oa x hx y (k9 _ hy)
  ·exact s3 x hx y hy
 ·rcases k7.mp hx with hx | hx
  ·exact m.ob x hx y hy
  ·exact h x hx y hy
 ·have:=m.pm
  simpa [A9] using this
theorem MI.blkB {blk all:List Keyed}(m:MI R out ra (blk++rb) all)(h:∀ x∈blk,∀ y∈ra,R x y):MI R (out++blk) ra rb all:=by
 obtain⟨s1,s2,s3⟩:=o7.mp m.sb
 refine⟨o7.mpr ⟨m.so,s1,fun x hx y hy=>m.ob x hx y (D7 _ hy)⟩,fun x hx y hy=>?_,fun x hx y hy=>?_,m.sa,s2,?_⟩
 ·rcases k7.mp hx with hx | hx
  ·exact m.oa x hx y hy
  ·exact h x hx y hy
 ·rcases k7.mp hx with hx | hx
  ·exact m.ob x hx y (k9 _ hy)
  ·exact s3 x hx y hy
 ·refine List.Perm.trans ?_ m.pm
  rw[A9]
  refine List.Perm.append_left _ ?_
  rw[<- A9,<- A9]
  exact List.Perm.append_right _ bF0
theorem MI.oneA {x:Keyed}{all:List Keyed}(m:MI R out (x::ra) rb all)(h:∀ y∈rb,R x y):MI R (out++[x]) ra rb all:=
 MI.blkA (blk:=[x]) m fun z hz y hy=>by rw[j6.mp hz];exact h y hy
theorem MI.oneB {x:Keyed}{all:List Keyed}(m:MI R out ra (x::rb) all)(h:∀ y∈ra,R x y):MI R (out++[x]) ra rb all:=
 MI.blkB (blk:=[x]) m fun z hz y hy=>by rw[j6.mp hz];exact h y hy
theorem MI.endAB {all:List Keyed}(m:MI R out ra rb all)(h:∀ x∈ra,∀ y∈rb,R x y):(out++(ra++rb)).Pairwise R/\(out++(ra++rb)).Perm all:=by
 refine⟨o7.mpr ⟨m.so,o7.mpr ⟨m.sa,m.sb,h⟩,fun x hx y hy=>?_⟩,m.pm⟩
 rcases k7.mp hy with hy | hy
 ·exact m.oa x hx y hy
 ·exact m.ob x hx y hy
theorem MI.endBA {all:List Keyed}(m:MI R out ra rb all)(h:∀ x∈rb,∀ y∈ra,R x y):(out++(rb++ra)).Pairwise R/\(out++(rb++ra)).Perm all:=by
 refine⟨o7.mpr ⟨m.so,o7.mpr ⟨m.sb,m.sa,h⟩,fun x hx y hy=>?_⟩,List.Perm.trans (List.Perm.append_left _ bF0) m.pm⟩
 rcases k7.mp hy with hy | hy
 ·exact m.ob x hx y hy
 ·exact m.oa x hx y hy
theorem drop_cons {α:Type}{l:List α}{x:α}(h:l[i]?=some x):l.drop i=x::l.drop (i+1):=by
 obtain⟨hi,rfl⟩:=c7.mp h
 exact af3 hi
theorem al9 {α:Type}(l:List α)(i k:Nat):l.drop i=(l.drop i).take k++l.drop (i+k):=by
 rw[<- be5]
 exact(x9 k (l.drop i)).symm
theorem F4 {α:Type}{l:List α}{x:α}(h:x∈l.drop i):∃ j,i<=j/\j<l.length/\l[j]?=some x:=by
 obtain⟨k,hk⟩:=o4.mp h
 rw[P4]at hk
 exact⟨i+k,by omega,(c7.mp hk).1,hk⟩
theorem U5 {α:Type}{l:List α}{k:Nat}{x:α}(h:x∈(l.drop i).take k):∃ j,j<k/\l[i+j]?=some x:=by
 obtain⟨j,hj⟩:=o4.mp h
 rw[P5]at hj
 split at hj
 ·rename_i hlt
  rw[P4]at hj
  exact⟨j,hlt,hj⟩
 ·cases hj
theorem aW2 (a:Array Keyed)(i k:Nat):(a.extract i (i+k)).toList=(a.toList.drop i).take k:=by
 rw[Y2,S3,N8]
theorem ax1 (a:Array Keyed)(i:Nat):(a.extract i a.size).toList=a.toList.drop i:=by
 rw[Y2,S3]
 exact i8 (by simp)
theorem aM5 (a:Array Keyed)(i:Nat):(a.extract 0 i).toList=a.toList.take i:=by
 rw[Y2,S3,be6,Nat.sub_zero]
structure Sm (st st':SortSt):Prop where
 k:kindOf st'=kindOf st
 a:l9 st'=l9 st
 p:B7 st'=B7 st
 f:M3 st'=M3 st
theorem Sm.rfl' (st:SortSt):Sm st st:=⟨rfl,rfl,rfl,rfl⟩
theorem Sm.mg {st st':SortSt}(h:Sm st st')(g:Nat):Sm st (SortSt.mk' (kindOf st') (l9 st') (B7 st') g (M3 st')):=⟨h.k,h.a,h.p,h.f⟩
section
variable {S:Keyed->Prop}
theorem ai3 {g:Nat}{st:SortSt}{Q:Unit->SortSt->Prop}(h:Q () (SortSt.mk' (kindOf st) (l9 st) (B7 st) g (M3 st))):wpS (p7 prog w) A E s (N0 g) Q st:=by
 rw[ap6]
 exact av5 h
structure LoI (B:Keyed->Keyed->Bool) (a b out:Array Keyed) (ia ib:Nat):Prop where
 m:MI (le B) out.toList (a.toList.drop ia) (b.toList.drop ib) (a.toList++b.toList)
 ha:ia+1<a.size
 hb:ib<b.size
 sz:out.size=ia+ib
def Good (B:Keyed->Keyed->Bool)(a b r:Array Keyed):Prop:=r.toList.Pairwise (le B)/\r.toList.Perm (a.toList++b.toList)
theorem G6 {α σ:Type}{c:Prop}[Decidable c]{X Y:StateT σ Sem α}{Q:α->σ->Prop}{st:σ}(h:c)(k:wpS M A E s X Q st):wpS M A E s (if c then X else Y) Q st:=by
 rw[if_pos h]
 exact k
theorem G2 {α σ:Type}{c:Prop}[Decidable c]{X Y:StateT σ Sem α}{Q:α->σ->Prop}{st:σ}(h:¬ c)(k:wpS M A E s Y Q st):wpS M A E s (if c then X else Y) Q st:=by
 rw[if_neg h]
 exact k
theorem ai2 {α σ:Type}{c:Prop}[Decidable c]{X Y:StateT σ Sem α}{Q:α->σ->Prop}{st:σ}(h:wpS M A E s X Q st)(k:wpS M A E s Y Q st):wpS M A E s (if c then X else Y) Q st:=by
 split
 ·exact h
 ·exact k
theorem aP9 {α σ:Type}{c:Nat->Prop}[∀ m,Decidable (c m)]{X Y:Nat->StateT σ Sem α}{Q:α->σ->Prop}{st:σ}(hX:∀ m,X m=Y (m - 1))(h:∀ m,wpS M A E s (Y m) Q st):∀ m,wpS M A E s (if c m then X m else Y m) Q st:=fun m=>by
 split
 ·rw[hX]
  exact h _
 ·exact h m
theorem am3 {α σ β γ:Type}{u0:β}{v0:γ}{c:β->γ->Prop}[∀ u v,Decidable (c u v)]{X Y:β->γ->StateT σ Sem α}{Q:α->σ->Prop}{st:σ}{R:β->γ->Prop}(J:∀ u v,R u v->wpS M A E s (Y u v) Q st)(h1:c u0 v0->(∀ u v,R u v->wpS M A E s (Y u v) Q st)->wpS M A E s (X u0 v0) Q st)(h2:¬ c u0 v0->R u0 v0):∀ u,u0=u->∀ v,v0=v->wpS M A E s (if c u v then X u v else Y u v) Q st:=by
 rintro _ rfl _ rfl
 by_cases h:c u0 v0
 ·rw[if_pos h]
  exact h1 h J
 ·rw[if_neg h]
  exact J u0 v0 (h2 h)
theorem aP7 (o:Ord B)(C:Cmp prog w A E s κ S B){a b:Array Keyed}{st:SortSt}{Q:Array Keyed->SortSt->Prop}(hk:kindOf st=κ)(hSa:∀ x∈a.toList,S x)(hSb:∀ x∈b.toList,S x)
  (sa:a.toList.Pairwise (le B))(sb:b.toList.Pairwise (le B))(ha:0<a.size)(hb:0<b.size)
  (h0:∀ x y,b[0]?=some x->a[0]?=some y->B x y=true)(hl:∀ x∈b.toList,∀ y,a[a.size - 1]?=some y->B x y=true)
  (h:∀ r st',Sm st st'->Good B a b r->Q r st'):wpS (p7 prog w) A E s (aA8 a b) Q st:=by
 have ga:∀ i,i<a.size->∃ x,a[i]?=some x/\a.toList[i]?=some x/\S x:=fun i hi=>by
  refine⟨a[i],getElem?_pos a i hi,by rw[c8];exact getElem?_pos a i hi,hSa _ (by simp)⟩
 have gb:∀ i,i<b.size->∃ x,b[i]?=some x/\b.toList[i]?=some x/\S x:=fun i hi=>by
  refine⟨b[i],getElem?_pos b i hi,by rw[c8];exact getElem?_pos b i hi,hSb _ (by simp)⟩
 have leA:∀ (i j:Nat) (x y:Keyed),i<=j->a.toList[i]?=some x->a.toList[j]?=some y->le B x y:=fun i j x y hij hx hy=>by
  obtain⟨h1,rfl⟩:=c7.mp hx
  obtain⟨h2,rfl⟩:=c7.mp hy
  rcases G9 hij with hlt | rfl
  ·exact t9.mp sa i j h1 h2 hlt
  ·exact o.rf _
 have leB:∀ (i j:Nat) (x y:Keyed),i<=j->b.toList[i]?=some x->b.toList[j]?=some y->le B x y:=fun i j x y hij hx hy=>by
  obtain⟨h1,rfl⟩:=c7.mp hx
  obtain⟨h2,rfl⟩:=c7.mp hy
  rcases G9 hij with hlt | rfl
  ·exact t9.mp sb i j h1 h2 hlt
  ·exact o.rf _
 have tl:∀ (z:Array Keyed) (i:Nat),z[i]?=z.toList[i]?:=fun z i=>(c8 ..).symm
 have goodDone:∀ (out:Array Keyed) (ia ib:Nat),MI (le B) out.toList (a.toList.drop ia) (b.toList.drop ib) (a.toList++b.toList)->ib=b.size->Good B a b (out++a.extract ia a.size++b.extract ib b.size):=fun out ia ib m e=>by
  have en:b.toList.drop ib=[]:=by rw[e];exact F6 (by simp)
  have:=m.endAB (fun x _ y hy=>by rw[en]at hy;cases hy)
  unfold Good
  rw[B6,B6,ax1,ax1,A9]
  exact this
 have lastA:∀ (ia:Nat) (x:Keyed),ia+1=a.size->x∈a.toList.drop ia->a[a.size - 1]?=some x:=fun ia x e hx=>by
  obtain⟨j,h1,h2,h3⟩:=F4 hx
  have:j=a.size - 1:=by rw[j8]at h2;omega
  rw[<- this,tl]
  exact h3
 have goodLast:∀ (out:Array Keyed) (ia ib:Nat),MI (le B) out.toList (a.toList.drop ia) (b.toList.drop ib) (a.toList++b.toList)->ia+1=a.size->Good B a b (out++b.extract ib b.size++a.extract ia a.size):=fun out ia ib m e=>by
  have:=m.endBA (fun x hx y hy=>o.of_lt (hl x (R5 hx) y (lastA ia y e hy)))
  unfold Good
  rw[B6,B6,ax1,ax1,A9]
  exact this
 have pushB:∀ (out:Array Keyed) (ia ib:Nat) (x:Keyed),MI (le B) out.toList (a.toList.drop ia) (b.toList.drop ib) (a.toList++b.toList)->b.toList[ib]?=some x->(∀ y∈a.toList.drop ia,le B x y) ->
   MI (le B) (out.push x).toList (a.toList.drop ia) (b.toList.drop (ib+1)) (a.toList++b.toList):=fun out ia ib x m e hx=>by
  rw[drop_cons e]at m
  rw[V6]
  exact m.oneB hx
 have pushA:∀ (out:Array Keyed) (ia ib:Nat) (x:Keyed),MI (le B) out.toList (a.toList.drop ia) (b.toList.drop ib) (a.toList++b.toList)->a.toList[ia]?=some x->(∀ y∈b.toList.drop ib,le B x y) ->
   MI (le B) (out.push x).toList (a.toList.drop (ia+1)) (b.toList.drop ib) (a.toList++b.toList):=fun out ia ib x m e hx=>by
  rw[drop_cons e]at m
  rw[V6]
  exact m.oneA hx
 have blkA:∀ (out:Array Keyed) (ia ib k:Nat),MI (le B) out.toList (a.toList.drop ia) (b.toList.drop ib) (a.toList++b.toList)->(∀ x∈(a.toList.drop ia).take k,∀ y∈b.toList.drop ib,le B x y) ->
   MI (le B) (out++a.extract ia (ia+k)).toList (a.toList.drop (ia+k)) (b.toList.drop ib) (a.toList++b.toList):=fun out ia ib k m hx=>by
  rw[al9 a.toList ia k]at m
  rw[B6,aW2]
  exact m.blkA hx
 have blkB:∀ (out:Array Keyed) (ia ib k:Nat),MI (le B) out.toList (a.toList.drop ia) (b.toList.drop ib) (a.toList++b.toList)->(∀ x∈(b.toList.drop ib).take k,∀ y∈a.toList.drop ia,le B x y) ->
   MI (le B) (out++b.extract ib (ib+k)).toList (a.toList.drop ia) (b.toList.drop (ib+k)) (a.toList++b.toList):=fun out ia ib k m hx=>by
  rw[al9 b.toList ib k]at m
  rw[B6,aW2]
  exact m.blkB hx
 rw[aT7]
 refine j3 (aa7 ?_)
 obtain⟨b0,eb0,eb0',Sb0⟩:=gb 0 hb
 obtain⟨a0,ea0,ea0',Sa0⟩:=ga 0 ha
 have lt0:=h0 b0 a0 eb0 ea0
 refine j3 (C4 eb0 ?_)
 have m0:MI (le B) ([]:List Keyed) (a.toList.drop 0) (b.toList.drop 0) (a.toList++b.toList):=⟨List.Pairwise.nil,(fun _ hx=>nomatch hx),(fun _ hx=>nomatch hx),sa,sb,List.Perm.refl _⟩
 have m1:MI (le B) (#[b0]:Array Keyed).toList (a.toList.drop 0) (b.toList.drop 1) (a.toList++b.toList):=pushB #[] 0 0 b0 m0 eb0' fun y hy=>by
  obtain⟨j,h1,h2,h3⟩:=F4 hy
  exact o.of_lt (o.lt_le lt0 (leA 0 j a0 y (o5 _) ea0' h3))
 by_cases e1:1=b.size
 ·refine G6 (by simpa using e1) ?_
  exact l5 (h _ st (Sm.rfl' st) (goodDone _ 0 1 m1 e1))
 refine G2 (by simpa using e1) ?_
 by_cases e2:0+1=a.size
 ·refine G6 (by simpa using e2) ?_
  exact l5 (h _ st (Sm.rfl' st) (goodLast _ 0 1 m1 e2))
 refine G2 (by simpa using e2) ?_
 refine j3 (au5 ?_)
 have I0:LoI B a b #[b0] 0 1:=⟨m1,by omega,by omega,rfl⟩
 refine j3 (U2 (E5
  (I:=fun x c st'=>Sm st st'/\∃ out ia ib mg,c=(none,out,ia,ib,mg)/\LoI B a b out ia ib/\x+1<=out.size)
  (Q:=fun c st'=>Sm st st'/\∃ r out ia ib mg,c=(some r,out,ia,ib,mg)/\Good B a b r) ?step ?fin ⟨Sm.rfl' st,#[b0],0,1,_,rfl,I0,by simp⟩) ?post)
 case fin =>
  rintro c st' ⟨hS,out,ia,ib,mg,rfl,I,hx⟩
  have h1:=I.sz
  have h2:=I.ha
  have h3:=I.hb
  exfalso
  omega
 case post =>
  rintro c st' ⟨hS,r,out,ia,ib,mg,rfl,hg⟩
  exact l5 (h r st' hS hg)
 case step =>
  rintro x c st1 _ hx ⟨hS1,out,ia,ib,mg,rfl,I,hsz⟩
  refine j3 (U2 (E5
   (I:=fun j c st'=>Sm st st'/\∃ out' ia' ib' ac bc,c=(none,out',ia',ib',ac,bc)/\LoI B a b out' ia' ib'/\x+1<=out'.size/\(1<=j->x+2<=out'.size))
   (Q:=fun c st'=>Sm st st'/\((∃ r out' ia' ib' ac bc,c=(some r,out',ia',ib',ac,bc)/\Good B a b r)\/(∃ out' ia' ib' ac bc,c=(none,out',ia',ib',ac,bc)/\LoI B a b out' ia' ib'/\x+2<=out'.size)))
   ?istep ?ifin ⟨hS1,out,ia,ib,0,0,rfl,I,hsz,by omega⟩) ?ipost)
  case ifin =>
   rintro c st' ⟨hS,out',ia',ib',ac,bc,rfl,I',h1,h2⟩
   exact⟨hS,.inr ⟨out',ia',ib',ac,bc,rfl,I',h2 (by omega)⟩⟩
  case istep =>
   rintro j c st' _ hj ⟨hS,out',ia',ib',ac,bc,rfl,I',h1,_⟩
   obtain⟨bx,eb,eb',Sb⟩:=gb ib' I'.hb
   obtain⟨ax,ea,ea',Sa⟩:=ga ia' (by have:=I'.ha;omega)
   refine j3 (C4 eb (j3 (C4 ea (j3 (ay1 C (hS.k.trans hk) Sb Sa ?_)))))
   cases ew:B bx ax with
   | true =>
    refine G6 rfl ?_
    refine j3 (C4 eb ?_)
    have m2:=pushB out' ia' ib' bx I'.m eb' fun y hy=>by
     obtain⟨j,h1,h2,h3⟩:=F4 hy
     exact o.of_lt (o.lt_le ew (leA ia' j ax y h1 ea' h3))
    by_cases e3:ib'+1=b.size
    ·refine G6 (by simpa using e3) ?_
     exact l5 ⟨hS,.inl ⟨_,_,_,_,_,_,rfl,goodDone _ _ _ m2 e3⟩⟩
    refine G2 (by simpa using e3) ?_
    have I2:LoI B a b (out'.push bx) ia' (ib'+1):=⟨m2,I'.ha,by have:=I'.hb;omega,by rw[A0,I'.sz];omega⟩
    have z2:x+2<=(out'.push bx).size:=by rw[A0];omega
    refine ai2 ?_ ?_
    ·exact l5 ⟨hS,.inr ⟨_,_,_,_,_,rfl,I2,z2⟩⟩
    ·exact l5 ⟨hS,_,_,_,_,_,rfl,I2,aj6 z2,fun _=>z2⟩
   | false =>
    refine G2 j5 ?_
    refine j3 (C4 ea ?_)
    have m2:=pushA out' ia' ib' ax I'.m ea' fun y hy=>by
     obtain⟨j,h1,h2,h3⟩:=F4 hy
     exact o.trans ew (leB ib' j bx y h1 eb' h3)
    by_cases e3:ia'+1+1=a.size
    ·refine G6 (by simpa using e3) ?_
     exact l5 ⟨hS,.inl ⟨_,_,_,_,_,_,rfl,goodLast _ _ _ m2 e3⟩⟩
    refine G2 (by simpa using e3) ?_
    have I2:LoI B a b (out'.push ax) (ia'+1) ib':=⟨m2,by have:=I'.ha;omega,I'.hb,by rw[A0,I'.sz];omega⟩
    have z2:x+2<=(out'.push ax).size:=by rw[A0];omega
    refine ai2 ?_ ?_
    ·exact l5 ⟨hS,.inr ⟨_,_,_,_,_,rfl,I2,z2⟩⟩
    ·exact l5 ⟨hS,_,_,_,_,_,rfl,I2,aj6 z2,fun _=>z2⟩
  case ipost =>
   rintro c st2 ⟨hS2,⟨r,out',ia',ib',ac,bc,rfl,hg⟩ | ⟨out',ia',ib',ac,bc,rfl,I',hz⟩⟩
   ·exact l5 ⟨hS2,r,_,_,_,_,rfl,hg⟩
   refine j3 (aa7 ?_)
   refine j3 (U2 (E5
    (I:=fun j c st'=>Sm st st'/\∃ out' ia' ib' mg ac bc,c=(none,out',ia',ib',mg,ac,bc)/\LoI B a b out' ia' ib'/\x+2<=out'.size)
    (Q:=fun c st'=>Sm st st'/\((∃ r out' ia' ib' mg ac bc,c=(some r,out',ia',ib',mg,ac,bc)/\Good B a b r)\/(∃ out' ia' ib' mg ac bc,c=(none,out',ia',ib',mg,ac,bc)/\LoI B a b out' ia' ib'/\x+2<=out'.size)))
    ?gstep ?gfin ⟨hS2,out',ia',ib',_,ac,bc,rfl,I',hz⟩) ?gpost)
   case gfin =>
    rintro c st' ⟨hS,out',ia',ib',mg,ac,bc,rfl,I',h1⟩
    exact⟨hS,.inr ⟨out',ia',ib',mg,ac,bc,rfl,I',h1⟩⟩
   case gpost =>
    rintro c st3 ⟨hS3,⟨r,out',ia',ib',mg,ac,bc,rfl,hg⟩ | ⟨out',ia',ib',mg,ac,bc,rfl,I',hz⟩⟩
    ·exact l5 ⟨hS3,r,_,_,_,_,rfl,hg⟩
    exact j3 (ai3 (l5 ⟨hS3.mg _,_,_,_,_,rfl,I',by omega⟩))
   case gstep =>
    rintro j c st' _ hj ⟨hS,out',ia',ib',mg,ac,bc,rfl,I',hz⟩
    dsimp (config:={ zeta:=false }) only
    obtain⟨bx,eb,eb',Sb⟩:=gb ib' I'.hb
    obtain⟨al,eal,eal',Sal⟩:=ga (a.size - 1) (by omega)
    revert mg
    refine aP9 (fun _=>rfl) fun mg1=>?_
    try dsimp (config:={ zeta:=false }) only
    refine j3 (ai3 (j3 (C4 eb ?_)))
    refine j3 (T7 o C (hS.k.trans hk) Sb (by have:=I'.ha;omega) (fun i y hi e=>hSa y (d5 (by rw[<- tl];exact e))) (fun i j y z hij hj e e'=>leA _ _ y z (T5 hij _) (by rw[<- tl];exact e) (by rw[<- tl];exact e')) (by have:=I'.ha;omega) fun k hkn hlt hge=>?_)
    dsimp (config:={ zeta:=false }) only
    have hS':=hS
    have hlt':∀ y∈(a.toList.drop ia').take k,∀ z∈b.toList.drop ib',le B y z:=fun y hy z hz'=>by
     obtain⟨i,hi,e⟩:=U5 hy
     have q:=hlt i y hi (by rw[tl];exact e)
     obtain⟨j',h1,h2,h3⟩:=F4 hz'
     simp only[byn,l6,if_false,aF3]at q
     exact o.trans q (leB ib' j' bx z h1 eb' h3)
    have m1':=blkA out' ia' ib' k I'.m hlt'
    have hge':∀ y∈a.toList.drop (ia'+k),B bx y=true:=fun y hy=>by
     obtain⟨j',h1,h2,h3⟩:=F4 hy
     have q:=hge (j' - ia') y (by omega) (by rw[j8]at h2;omega) (by rw[show ia'+(j' - ia')=j' by omega,tl];exact h3)
     simpa [byn] using q
    have hka:ia'+k<a.size:=by
     rcases E3 (ia'+k) a.size with q | q
     ·exact q
     ·exfalso
      have h9:=I'.ha
      have q1:=hlt (a.size - 1 - ia') al (by omega) (by rw[show ia'+(a.size - 1 - ia')=a.size - 1 by omega];exact eal)
      have q2:=hl bx (d5 eb') al eal
      simp[byn,q2]at q1
    generalize eo:out'=o
    generalize en:ia'=n
    revert o n
    refine am3 (R:=fun out1 ia1=>MI (le B) out1.toList (a.toList.drop ia1) (b.toList.drop ib') (a.toList++b.toList)/\(∀ y∈a.toList.drop ia1,B bx y=true)/\ia1+1<a.size/\out1.size=ia1+ib'/\x+2<=out1.size) ?_ (fun hk J=>?_) (fun hk=>?_)
    rotate_left
    ·by_cases e4:ia'+k+1=a.size
     ·refine G6 (by simpa using e4) ?_
      exact l5 ⟨hS.mg _,.inl ⟨_,_,_,_,_,_,_,rfl,goodLast _ _ _ m1' e4⟩⟩
     refine G2 (by simpa using e4) (G2 (by simp;omega) ?_)
     exact J (out'++a.extract ia' (ia'+k)) (ia'+k) ⟨m1',hge',by omega,by rw[F8,F2,I'.sz];omega,by rw[F8];omega⟩
    ·have e9:k=0:=by omega
     rw[e9]at hge'
     exact⟨I'.m,hge',I'.ha,I'.sz,hz⟩
    rintro out1 ia1 ⟨m1,hge1,hne1,sz1,z1⟩
    refine j3 (C4 eb ?_)
    have m2:=pushB out1 ia1 ib' bx m1 eb' fun y hy=>o.of_lt (hge1 y hy)
    by_cases e5:ib'+1=b.size
    ·refine G6 (by simpa using e5) ?_
     exact l5 ⟨hS.mg _,.inl ⟨_,_,_,_,_,_,_,rfl,goodDone _ _ _ m2 e5⟩⟩
    refine G2 (by simpa using e5) ?_
    generalize ho:out1.push bx=o2 at m2 ⊢
    have so2:o2.size=out1.size+1:=by rw[<- ho,A0]
    generalize hn:ib'+1=n2 at m2 e5 ⊢
    obtain⟨ax,ea,ea',Sa⟩:=ga ia1 (by omega)
    have hib:=I'.hb
    refine j3 (C4 ea ?_)
    refine j3 (T7 o C (hS.k.trans hk) Sa (by omega) (fun i y hi e=>hSb y (d5 (by rw[<- tl];exact e))) (fun i j y z hij hj e e'=>leB _ _ y z (T5 hij _) (by rw[<- tl];exact e) (by rw[<- tl];exact e')) (by omega) fun k' hkn' hlt2 hge2=>?_)
    dsimp (config:={ zeta:=false }) only
    have hlt2':∀ y∈(b.toList.drop n2).take k',∀ z∈a.toList.drop ia1,le B y z:=fun y hy z hz'=>by
     obtain⟨i,hi,e⟩:=U5 hy
     have q:=hlt2 i y hi (by rw[tl];exact e)
     obtain⟨j',h1,h2,h3⟩:=F4 hz'
     simp only[byn,if_true]at q
     exact o.of_lt (o.lt_le q (leA ia1 j' ax z h1 ea' h3))
    have m3':=blkB o2 ia1 n2 k' m2 hlt2'
    have hge2':∀ y∈b.toList.drop (n2+k'),le B ax y:=fun y hy=>by
     obtain⟨j',h1,h2,h3⟩:=F4 hy
     have q:=hge2 (j' - n2) y (by omega) (by rw[j8]at h2;omega) (by rw[show n2+(j' - n2)=j' by omega,tl];exact h3)
     show B y ax=false
     simpa [byn] using q
    have sz2:o2.size=ia1+n2:=by omega
    generalize eo:o2=o
    generalize en:n2=n
    revert o n
    refine am3 (R:=fun J7 ib2=>MI (le B) J7.toList (a.toList.drop ia1) (b.toList.drop ib2) (a.toList++b.toList)/\(∀ y∈b.toList.drop ib2,le B ax y)/\ib2<b.size/\J7.size=ia1+ib2/\x+2<=J7.size) ?_ (fun hk J=>?_) (fun hk=>?_)
    rotate_left
    ·by_cases e6:n2+k'=b.size
     ·refine G6 (by simpa using e6) ?_
      exact l5 ⟨hS.mg _,.inl ⟨_,_,_,_,_,_,_,rfl,goodDone _ _ _ m3' e6⟩⟩
     refine G2 (by simpa using e6) ?_
     exact J (o2++b.extract n2 (n2+k')) (n2+k') ⟨m3',hge2',by omega,by rw[F8,F2,sz2];omega,by rw[F8];omega⟩
    ·have e8:k'=0:=by omega
     rw[e8]at hge2'
     exact⟨m2,hge2',by omega,sz2,by omega⟩
    rintro J7 ib2 ⟨m3,hge3,hne3,sz3,z3⟩
    refine j3 (C4 ea ?_)
    have m4:=pushA J7 ia1 ib2 ax m3 ea' hge3
    by_cases e7:ia1+1+1=a.size
    ·refine G6 (by simpa using e7) ?_
     exact l5 ⟨hS.mg _,.inl ⟨_,_,_,_,_,_,_,rfl,goodLast _ _ _ m4 e7⟩⟩
    refine G2 (by simpa using e7) ?_
    have I4:LoI B a b (J7.push ax) (ia1+1) ib2:=⟨m4,by omega,hne3,by rw[A0,sz3];omega⟩
    have z4:x+2<=(J7.push ax).size:=by
     rw[A0,sz3]
     have:=I'.sz
     omega
    refine ai2 ?_ ?_
    ·exact l5 ⟨hS.mg _,.inr ⟨_,_,_,_,_,_,rfl,I4,z4⟩⟩
    ·exact l5 ⟨hS.mg _,_,_,_,_,_,_,rfl,I4,z4⟩
end
theorem aQ4 {α:Type}{l:List α}{x:α}(h:l[n]?=some x):(l.take (n+1)).reverse=x::(l.take n).reverse:=by
 rw[o6,h,bO0]
 rfl
theorem af9 {α:Type}(l:List α){k:Nat}(h:k<=n):(l.take n).reverse=((l.drop k).take (n - k)).reverse++(l.take k).reverse:=by
 rw[<- bO0]
 congr 1
 obtain⟨d,rfl⟩:=Nat.le.dest h
 rw[N8,List.take_add]
theorem G7 {α:Type}{l:List α}{x:α}(h:x∈(l.take n).reverse):∃ j,j<n/\j<l.length/\l[j]?=some x:=by
 rw[aO1]at h
 obtain⟨j,hj⟩:=o4.mp h
 rw[P5]at hj
 split at hj
 ·rename_i hlt
  exact⟨j,hlt,(c7.mp hj).1,hj⟩
 ·cases hj
theorem ax0 (a:Array Keyed)(i k:Nat):(a.extract i k).toList=(a.toList.drop i).take (k - i):=by
 rw[Y2,S3]
section
variable {S:Keyed->Prop}
abbrev HM (B:Keyed->Keyed->Bool)(a b out:Array Keyed)(na nb:Nat):Prop:=MI (fun x y=>le B y x) out.toList (a.toList.take na).reverse (b.toList.take nb).reverse (a.toList++b.toList)
structure HiI (B:Keyed->Keyed->Bool) (a b out:Array Keyed) (na nb:Nat):Prop where
 m:HM B a b out na nb
 ha:0<na
 ha':na<=a.size
 hb:1<nb
 hb':nb<=b.size
 sz:out.size+na+nb=a.size+b.size
theorem aP8 (o:Ord B)(C:Cmp prog w A E s κ S B){a b:Array Keyed}{st:SortSt}{Q:Array Keyed->SortSt->Prop}(hk:kindOf st=κ)(hSa:∀ x∈a.toList,S x)(hSb:∀ x∈b.toList,S x)
  (sa:a.toList.Pairwise (le B))(sb:b.toList.Pairwise (le B))(ha:0<a.size)(hb:0<b.size)
  (h0:∀ x y,b[0]?=some x->a[0]?=some y->B x y=true)(hl:∀ x∈b.toList,∀ y,a[a.size - 1]?=some y->B x y=true)
  (h:∀ r st',Sm st st'->Good B a b r->Q r st'):wpS (p7 prog w) A E s (aA9 a b) Q st:=by
 have ga:∀ i,i<a.size->∃ x,a[i]?=some x/\a.toList[i]?=some x/\S x:=fun i hi=>by
  refine⟨a[i],getElem?_pos a i hi,by rw[c8];exact getElem?_pos a i hi,hSa _ (by simp)⟩
 have gb:∀ i,i<b.size->∃ x,b[i]?=some x/\b.toList[i]?=some x/\S x:=fun i hi=>by
  refine⟨b[i],getElem?_pos b i hi,by rw[c8];exact getElem?_pos b i hi,hSb _ (by simp)⟩
 have leA:∀ (i j:Nat) (x y:Keyed),i<=j->a.toList[i]?=some x->a.toList[j]?=some y->le B x y:=fun i j x y hij hx hy=>by
  obtain⟨h1,rfl⟩:=c7.mp hx
  obtain⟨h2,rfl⟩:=c7.mp hy
  rcases G9 hij with hlt | rfl
  ·exact t9.mp sa i j h1 h2 hlt
  ·exact o.rf _
 have leB:∀ (i j:Nat) (x y:Keyed),i<=j->b.toList[i]?=some x->b.toList[j]?=some y->le B x y:=fun i j x y hij hx hy=>by
  obtain⟨h1,rfl⟩:=c7.mp hx
  obtain⟨h2,rfl⟩:=c7.mp hy
  rcases G9 hij with hlt | rfl
  ·exact t9.mp sb i j h1 h2 hlt
  ·exact o.rf _
 have tl:∀ (z:Array Keyed) (i:Nat),z[i]?=z.toList[i]?:=fun z i=>(c8 ..).symm
 have rel:∀ {l:List Keyed},l.Pairwise (fun x y=>le B y x)->l.reverse.Pairwise (le B):=fun {l} hp=>X9.mpr hp
 have goodDone:∀ (out:Array Keyed) (na nb:Nat),HM B a b out na nb->(na=0\/nb=0)->Good B a b (a.extract 0 na++b.extract 0 nb++out.reverse):=fun out na nb m e=>by
  have:=m.endBA (fun x hx y hy=>by
   rcases e with rfl | rfl
   ·simp at hy
   ·simp at hx)
  unfold Good
  rw[B6,B6,aM5,aM5,Y3]
  have q:(out.toList++((b.toList.take nb).reverse++(a.toList.take na).reverse)).reverse=a.toList.take na++b.toList.take nb++out.toList.reverse:=by simp
  exact⟨by rw[<- q];exact rel this.1,by rw[<- q];exact(Q7 _).trans this.2⟩
 obtain⟨b0,eb0,eb0',Sb0⟩:=gb 0 hb
 obtain⟨a0,ea0,ea0',Sa0⟩:=ga 0 ha
 have lt0:=h0 b0 a0 eb0 ea0
 have goodFirst:∀ (out:Array Keyed) (na nb:Nat),HM B a b out na nb->nb=1->Good B a b (b.extract 0 nb++a.extract 0 na++out.reverse):=fun out na nb m e=>by
  have:=m.endAB (fun x hx y hy=>by
   subst e
   obtain⟨i,h1,h2,h3⟩:=G7 hx
   obtain⟨j,h4,h5,h6⟩:=G7 hy
   have:j=0:=by omega
   subst this
   rw[eb0']at h6
   cases h6
   exact o.of_lt (o.lt_le lt0 (leA 0 i a0 x (o5 _) ea0' h3)))
  unfold Good
  rw[B6,B6,aM5,aM5,Y3]
  have q:(out.toList++((a.toList.take na).reverse++(b.toList.take nb).reverse)).reverse=b.toList.take nb++a.toList.take na++out.toList.reverse:=by simp
  exact⟨by rw[<- q];exact rel this.1,by rw[<- q];exact(Q7 _).trans this.2⟩
 have pushA:∀ (out:Array Keyed) (na nb:Nat) (x:Keyed),0<na->HM B a b out na nb->a.toList[na - 1]?=some x->(∀ y∈(b.toList.take nb).reverse,le B y x)->HM B a b (out.push x) (na - 1) nb:=fun out na nb x hn m e hx=>by
  obtain⟨n,rfl⟩:∃ n,na=n+1:=⟨na - 1,by omega⟩
  unfold HM at m ⊢
  rw[af4]at e ⊢
  rw[aQ4 e]at m
  rw[V6]
  exact m.oneA hx
 have pushB:∀ (out:Array Keyed) (na nb:Nat) (x:Keyed),0<nb->HM B a b out na nb->b.toList[nb - 1]?=some x->(∀ y∈(a.toList.take na).reverse,le B y x)->HM B a b (out.push x) na (nb - 1):=fun out na nb x hn m e hx=>by
  obtain⟨n,rfl⟩:∃ n,nb=n+1:=⟨nb - 1,by omega⟩
  unfold HM at m ⊢
  rw[af4]at e ⊢
  rw[aQ4 e]at m
  rw[V6]
  exact m.oneB hx
 have blkA:∀ (out:Array Keyed) (na nb k:Nat),k<=na->HM B a b out na nb->(∀ x∈((a.toList.drop k).take (na - k)).reverse,∀ y∈(b.toList.take nb).reverse,le B y x)->HM B a b (out++(a.extract k na).reverse) k nb:=fun out na nb k hkn m hx=>by
  unfold HM at m ⊢
  rw[af9 a.toList hkn]at m
  rw[B6,Y3,ax0]
  exact m.blkA hx
 have blkB:∀ (out:Array Keyed) (na nb k:Nat),k<=nb->HM B a b out na nb->(∀ x∈((b.toList.drop k).take (nb - k)).reverse,∀ y∈(a.toList.take na).reverse,le B y x)->HM B a b (out++(b.extract k nb).reverse) na k:=fun out na nb k hkn m hx=>by
  unfold HM at m ⊢
  rw[af9 b.toList hkn]at m
  rw[B6,Y3,ax0]
  exact m.blkB hx
 rw[aT8]
 refine j3 (aa7 ?_)
 obtain⟨al,eal,eal',Sal⟩:=ga (a.size - 1) (by omega)
 refine j3 (C4 eal ?_)
 have m0:HM B a b #[] a.size b.size:=by
  unfold HM
  rw[i8 (by simp),i8 (by simp)]
  refine⟨List.Pairwise.nil,(fun _ hx=>nomatch hx),(fun _ hx=>nomatch hx),X9.mpr sa,X9.mpr sb,?_⟩
  rw[K5]
  exact List.Perm.append (Q7 _) (Q7 _)
 have m1:HM B a b #[al] (a.size - 1) b.size:=pushA #[] a.size b.size al ha m0 eal' fun y hy=>by
  obtain⟨j,h1,h2,h3⟩:=G7 hy
  exact o.of_lt (hl y (d5 h3) al eal)
 by_cases e1:a.size - 1=0
 ·refine G6 (by simpa using e1) ?_
  exact l5 (h _ st (Sm.rfl' st) (goodDone _ _ _ m1 (.inl e1)))
 refine G2 (by simpa using e1) ?_
 by_cases e2:b.size=1
 ·refine G6 (by simpa using e2) ?_
  exact l5 (h _ st (Sm.rfl' st) (goodFirst _ _ _ m1 e2))
 refine G2 (by simpa using e2) ?_
 refine j3 (au5 ?_)
 have I0:HiI B a b #[al] (a.size - 1) b.size:=⟨m1,by omega,by omega,by omega,by omega,by simp;omega⟩
 refine j3 (U2 (E5
  (I:=fun x c st'=>Sm st st'/\∃ na nb out mg,c=(none,na,nb,out,mg)/\HiI B a b out na nb/\x+1<=out.size)
  (Q:=fun c st'=>Sm st st'/\∃ r na nb out mg,c=(some r,na,nb,out,mg)/\Good B a b r) ?step ?fin ⟨Sm.rfl' st,_,_,#[al],_,rfl,I0,by simp⟩) ?post)
 case fin =>
  rintro c st' ⟨hS,na,nb,out,mg,rfl,I,hx⟩
  have h1:=I.sz
  have h2:=I.ha
  have h3:=I.hb
  exfalso
  omega
 case post =>
  rintro c st' ⟨hS,r,na,nb,out,mg,rfl,hg⟩
  exact l5 (h r st' hS hg)
 case step =>
  rintro x c st1 _ hx ⟨hS1,na,nb,out,mg,rfl,I,hsz⟩
  refine j3 (U2 (E5
   (I:=fun j c st'=>Sm st st'/\∃ na' nb' out' ac bc,c=(none,na',nb',out',ac,bc)/\HiI B a b out' na' nb'/\x+1<=out'.size/\(1<=j->x+2<=out'.size))
   (Q:=fun c st'=>Sm st st'/\((∃ r na' nb' out' ac bc,c=(some r,na',nb',out',ac,bc)/\Good B a b r)\/(∃ na' nb' out' ac bc,c=(none,na',nb',out',ac,bc)/\HiI B a b out' na' nb'/\x+2<=out'.size)))
   ?istep ?ifin ⟨hS1,na,nb,out,0,0,rfl,I,hsz,by omega⟩) ?ipost)
  case ifin =>
   rintro c st' ⟨hS,na',nb',out',ac,bc,rfl,I',h1,h2⟩
   exact⟨hS,.inr ⟨na',nb',out',ac,bc,rfl,I',h2 (by omega)⟩⟩
  case istep =>
   rintro j c st' _ hj ⟨hS,na',nb',out',ac,bc,rfl,I',h1,_⟩
   have i1:=I'.ha
   have i2:=I'.ha'
   have i3:=I'.hb
   have i4:=I'.hb'
   have i5:=I'.sz
   obtain⟨bx,eb,eb',Sb⟩:=gb (nb' - 1) (by omega)
   obtain⟨ax,ea,ea',Sa⟩:=ga (na' - 1) (by omega)
   refine j3 (C4 eb (j3 (C4 ea (j3 (ay1 C (hS.k.trans hk) Sb Sa ?_)))))
   cases ew:B bx ax with
   | true =>
    refine G6 rfl ?_
    refine j3 (C4 ea ?_)
    have m2:=pushA out' na' nb' ax i1 I'.m ea' fun y hy=>by
     obtain⟨j,h1,h2,h3⟩:=G7 hy
     exact o.of_lt (o.le_lt (leB j (nb' - 1) y bx (by omega) h3 eb') ew)
    by_cases e3:na' - 1=0
    ·refine G6 (by simpa using e3) ?_
     exact l5 ⟨hS,.inl ⟨_,_,_,_,_,_,rfl,goodDone _ _ _ m2 (.inl e3)⟩⟩
    refine G2 (by simpa using e3) ?_
    have I2:HiI B a b (out'.push ax) (na' - 1) nb':=⟨m2,by omega,by omega,i3,i4,by rw[A0];omega⟩
    have z2:x+2<=(out'.push ax).size:=by rw[A0];omega
    refine ai2 ?_ ?_
    ·exact l5 ⟨hS,.inr ⟨_,_,_,_,_,rfl,I2,z2⟩⟩
    ·exact l5 ⟨hS,_,_,_,_,_,rfl,I2,aj6 z2,fun _=>z2⟩
   | false =>
    refine G2 j5 ?_
    refine j3 (C4 eb ?_)
    have m2:=pushB out' na' nb' bx (by omega) I'.m eb' fun y hy=>by
     obtain⟨j,h1,h2,h3⟩:=G7 hy
     exact o.trans (leA j (na' - 1) y ax (by omega) h3 ea') ew
    by_cases e3:nb' - 1=1
    ·refine G6 (by simpa using e3) ?_
     exact l5 ⟨hS,.inl ⟨_,_,_,_,_,_,rfl,goodFirst _ _ _ m2 e3⟩⟩
    refine G2 (by simpa using e3) ?_
    have I2:HiI B a b (out'.push bx) na' (nb' - 1):=⟨m2,i1,i2,by omega,by omega,by rw[A0];omega⟩
    have z2:x+2<=(out'.push bx).size:=by rw[A0];omega
    refine ai2 ?_ ?_
    ·exact l5 ⟨hS,.inr ⟨_,_,_,_,_,rfl,I2,z2⟩⟩
    ·exact l5 ⟨hS,_,_,_,_,_,rfl,I2,aj6 z2,fun _=>z2⟩
  case ipost =>
   rintro c st2 ⟨hS2,⟨r,na',nb',out',ac,bc,rfl,hg⟩ | ⟨na',nb',out',ac,bc,rfl,I',hz⟩⟩
   ·exact l5 ⟨hS2,r,_,_,_,_,rfl,hg⟩
   refine j3 (aa7 ?_)
   refine j3 (U2 (E5
    (I:=fun j c st'=>Sm st st'/\∃ na' nb' out' mg ac bc,c=(none,na',nb',out',mg,ac,bc)/\HiI B a b out' na' nb'/\x+2<=out'.size)
    (Q:=fun c st'=>Sm st st'/\((∃ r na' nb' out' mg ac bc,c=(some r,na',nb',out',mg,ac,bc)/\Good B a b r)\/(∃ na' nb' out' mg ac bc,c=(none,na',nb',out',mg,ac,bc)/\HiI B a b out' na' nb'/\x+2<=out'.size)))
    ?gstep ?gfin ⟨hS2,na',nb',out',_,ac,bc,rfl,I',hz⟩) ?gpost)
   case gfin =>
    rintro c st' ⟨hS,na',nb',out',mg,ac,bc,rfl,I',h1⟩
    exact⟨hS,.inr ⟨na',nb',out',mg,ac,bc,rfl,I',h1⟩⟩
   case gpost =>
    rintro c st3 ⟨hS3,⟨r,na',nb',out',mg,ac,bc,rfl,hg⟩ | ⟨na',nb',out',mg,ac,bc,rfl,I',hz⟩⟩
    ·exact l5 ⟨hS3,r,_,_,_,_,rfl,hg⟩
    exact j3 (ai3 (l5 ⟨hS3.mg _,_,_,_,_,rfl,I',by omega⟩))
   case gstep =>
    rintro j c st' _ hj ⟨hS,na',nb',out',mg,ac,bc,rfl,I',hz⟩
    dsimp (config:={ zeta:=false }) only
    have i1:=I'.ha
    have i2:=I'.ha'
    have i3:=I'.hb
    have i4:=I'.hb'
    have i5:=I'.sz
    obtain⟨bx,eb,eb',Sb⟩:=gb (nb' - 1) (by omega)
    revert mg
    refine aP9 (fun _=>rfl) fun mg1=>?_
    try dsimp (config:={ zeta:=false }) only
    refine j3 (ai3 (j3 (C4 eb ?_)))
    refine j3 (T7 o C (hS.k.trans hk) Sb (by omega) (fun i y hi e=>hSa y (d5 (by rw[<- tl];exact e))) (fun i j y z hij hj e e'=>leA _ _ y z (T5 hij _) (by rw[<- tl];exact e) (by rw[<- tl];exact e')) (by omega) fun k hkn hlt hge=>?_)
    dsimp (config:={ zeta:=false }) only
    have hlt':∀ y∈(a.toList.take k).reverse,le B y bx:=fun y hy=>by
     obtain⟨i,h1,h2,h3⟩:=G7 hy
     have q:=hlt i y h1 (by rw[F5,tl];exact h3)
     show B bx y=false
     simpa [byn] using q
    have hge':∀ y∈((a.toList.drop k).take (na' - k)).reverse,∀ z∈(b.toList.take nb').reverse,le B z y:=fun y hy z hz'=>by
     rw[aO1]at hy
     obtain⟨i,h1,h3⟩:=U5 hy
     have q:=hge (k+i) y (by omega) (by omega) (by rw[F5,tl];exact h3)
     obtain⟨j',h4,h5,h6⟩:=G7 hz'
     have q':B bx y=true:=by simpa [byn] using q
     exact o.of_lt (o.le_lt (leB j' (nb' - 1) z bx (by omega) h6 eb') q')
    have m1':=blkA out' na' nb' k hkn I'.m hge'
    generalize hd:na' - k=d
    generalize eo:out'=o
    generalize en:na'=n
    revert o n
    refine am3 (R:=fun out1 na1=>HM B a b out1 na1 nb'/\(∀ y∈(a.toList.take na1).reverse,le B y bx)/\0<na1/\na1<=a.size/\out1.size+na1+nb'=a.size+b.size/\x+2<=out1.size) ?_ (fun hk J=>?_) (fun hk=>?_)
    rotate_left
    ·by_cases e4:k=0
     ·refine G6 (by simpa using e4) ?_
      exact l5 ⟨hS.mg _,.inl ⟨_,_,_,_,_,_,_,rfl,goodDone _ _ _ m1' (.inl e4)⟩⟩
     refine G2 (by simpa using e4) ?_
     exact J (out'++(a.extract k na').reverse) k ⟨m1',hlt',by omega,by omega,by rw[F8,bO1,F2];omega,by rw[F8];omega⟩
    ·have e9:k=na':=by omega
     exact⟨I'.m,by rw[<- e9];exact hlt',i1,i2,i5,hz⟩
    rintro out1 na1 ⟨m1,hge1,hne1,hle1,sz1,z1⟩
    refine j3 (C4 eb ?_)
    have m2:=pushB out1 na1 nb' bx (by omega) m1 eb' hge1
    by_cases e5:nb' - 1=1
    ·refine G6 (by simpa using e5) ?_
     exact l5 ⟨hS.mg _,.inl ⟨_,_,_,_,_,_,_,rfl,goodFirst _ _ _ m2 e5⟩⟩
    refine G2 (by simpa using e5) ?_
    generalize ho:out1.push bx=o2 at m2 ⊢
    have so2:o2.size=out1.size+1:=by rw[<- ho,A0]
    generalize hn:nb' - 1=n2 at m2 e5 ⊢
    obtain⟨ax,ea,ea',Sa⟩:=ga (na1 - 1) (by omega)
    refine j3 (C4 ea ?_)
    refine j3 (T7 o C (hS.k.trans hk) Sa (by omega) (fun i y hi e=>hSb y (d5 (by rw[<- tl];exact e))) (fun i j y z hij hj e e'=>leB _ _ y z (T5 hij _) (by rw[<- tl];exact e) (by rw[<- tl];exact e')) (by omega) fun k' hkn' hlt2 hge2=>?_)
    dsimp (config:={ zeta:=false }) only
    have hlt2':∀ y∈(b.toList.take k').reverse,le B y ax:=fun y hy=>by
     obtain⟨i,h1,h2,h3⟩:=G7 hy
     have q:=hlt2 i y h1 (by rw[F5,tl];exact h3)
     have q':B y ax=true:=by simpa [byn] using q
     exact o.of_lt q'
    have hge2':∀ y∈((b.toList.drop k').take (n2 - k')).reverse,∀ z∈(a.toList.take na1).reverse,le B z y:=fun y hy z hz'=>by
     rw[aO1]at hy
     obtain⟨i,h1,h3⟩:=U5 hy
     have q:=hge2 (k'+i) y (by omega) (by omega) (by rw[F5,tl];exact h3)
     obtain⟨j',h4,h5,h6⟩:=G7 hz'
     have q':B y ax=false:=by simpa [byn] using q
     exact o.trans (leA j' (na1 - 1) z ax (by omega) h6 ea') q'
    have m3':=blkB o2 na1 n2 k' hkn' m2 hge2'
    have sz2:o2.size+na1+n2=a.size+b.size:=by omega
    generalize hd2:n2 - k'=d2
    generalize eo:o2=o
    generalize en:n2=n
    revert o n
    refine am3 (R:=fun J7 nb2=>HM B a b J7 na1 nb2/\(∀ y∈(b.toList.take nb2).reverse,le B y ax)/\1<nb2/\nb2<=b.size/\J7.size+na1+nb2=a.size+b.size/\x+2<=J7.size) ?_ (fun hk J=>?_) (fun hk=>?_)
    rotate_left
    ·by_cases e6:k'=1
     ·refine G6 (by simpa using e6) ?_
      exact l5 ⟨hS.mg _,.inl ⟨_,_,_,_,_,_,_,rfl,goodFirst _ _ _ m3' e6⟩⟩
     refine G2 (by simpa using e6) ?_
     by_cases e7:k'=0
     ·refine G6 (by simpa using e7) ?_
      exact l5 ⟨hS.mg _,.inl ⟨_,_,_,_,_,_,_,rfl,goodDone _ _ _ m3' (.inr e7)⟩⟩
     refine G2 (by simpa using e7) ?_
     exact J (o2++(b.extract k' n2).reverse) k' ⟨m3',hlt2',by omega,by omega,by rw[F8,bO1,F2];omega,by rw[F8];omega⟩
    ·have e8:k'=n2:=by omega
     exact⟨m2,by rw[<- e8];exact hlt2',by omega,by omega,sz2,by omega⟩
    rintro J7 nb2 ⟨m3,hge3,hne3,hle3,sz3,z3⟩
    refine j3 (C4 ea ?_)
    have m4:=pushA J7 na1 nb2 ax hne1 m3 ea' hge3
    by_cases e7:na1 - 1=0
    ·refine G6 (by simpa using e7) ?_
     exact l5 ⟨hS.mg _,.inl ⟨_,_,_,_,_,_,_,rfl,goodDone _ _ _ m4 (.inl e7)⟩⟩
    refine G2 (by simpa using e7) ?_
    have I4:HiI B a b (J7.push ax) (na1 - 1) nb2:=⟨m4,by omega,by omega,hne3,hle3,by rw[A0];omega⟩
    have z4:x+2<=(J7.push ax).size:=by
     rw[A0]
     omega
    refine ai2 ?_ ?_
    ·exact l5 ⟨hS.mg _,.inr ⟨_,_,_,_,_,_,rfl,I4,z4⟩⟩
    ·exact l5 ⟨hS.mg _,_,_,_,_,_,_,rfl,I4,z4⟩
end
def KF {O:aJ1}(f:Keyed->O.α)(d:O.α)(xs:Array Keyed)(i:Nat):O.α:=match xs[i]? with
 | some p=>f p
 | none=>d
def Bf {O:aJ1}(f:Keyed->O.α)(x y:Keyed):Bool:=O.blt (f x) (f y)
theorem Bf.ord {O:aJ1}(f:Keyed->O.α):Ord (Bf f):=⟨fun x=>O.irrefl _,fun x y z=>O.trans _ _ _,fun x y z=>O.negTrans _ _ _⟩
section
variable {O:aJ1} {f:Keyed->O.α} {d:O.α}
theorem ah4 {xs ys:Array Keyed}(h:xs[i]?=ys[j]?):KF f d xs i=KF f d ys j:=by unfold KF;rw[h]
theorem ax9 {xs:Array Keyed}{x:Keyed}(h:xs[i]?=some x):KF f d xs i=f x:=by unfold KF;rw[h]
theorem aI7 {xs:Array Keyed}{src dd:Nat}(hs:src<xs.size)(hd:dd<=src)(k:Nat) :
  KF f d (bubble xs src dd) k=if k=src - dd then KF f d xs src else if src - dd<k/\k<=src then KF f d xs (k - 1) else KF f d xs k:=by
 have e:=getElem?_bubble hs dd hd k
 repeat' split at e
 all_goals first
  | (rw[if_pos (by assumption)];exact ah4 e)
  | (rw[if_neg (by assumption),if_pos (by assumption)];exact ah4 e)
  | (rw[if_neg (by assumption),if_neg (by assumption)];exact ah4 e)
theorem as4 {xs:Array Keyed}(hj:j<=xs.size)(k:Nat):KF f d (mirror xs i j ((j - i) / 2)) k=if i<=k/\k<j then KF f d xs (i+j - 1 - k) else KF f d xs k:=by
 have e:=cc6 (i:=i) hj k
 split at e
 ·rw[if_pos (by assumption)];exact ah4 e
 ·rw[if_neg (by assumption)];exact ah4 e
theorem M8 {xs:Array Keyed}(hj:j<=xs.size)(heq:∀ k,i<=k->k<j->KF f d xs k=KF f d xs (j - 1))(k:Nat):KF f d (mirror xs i j ((j - i) / 2)) k=KF f d xs k:=by
 rw[as4 hj]
 split
 ·rw[heq _ (by omega) (by omega),heq k (by omega) (by omega)]
 ·rfl
end
def S0 {O:aJ1}(f:Keyed->O.α)(d:O.α)(lo:Nat)(xs:Array Keyed)(k:Nat):Prop:=∀ i j,i<=j->j<k->O.kle (KF f d xs (lo+i)) (KF f d xs (lo+j))
def ae2 {O:aJ1}(f:Keyed->O.α)(d:O.α)(lo:Nat)(xs:Array Keyed)(k:Nat):Prop:=∀ i j,i<=j->j<k->O.kle (KF f d xs (lo+j)) (KF f d xs (lo+i))
def Pre (lo:Nat)(xs ys:Array Keyed):Prop:=∀ k,k<lo->ys[k]?=xs[k]?
theorem Pre.rf (lo:Nat)(xs:Array Keyed):Pre lo xs xs:=fun _ _=>rfl
theorem Pre.trans {lo:Nat}{xs ys zs:Array Keyed}(a:Pre lo xs ys)(b:Pre lo ys zs):Pre lo xs zs:=fun k hk=>(b k hk).trans (a k hk)
theorem Pre.mirror {lo:Nat}{xs:Array Keyed}(hj:j<=xs.size)(hi:lo<=i):Pre lo xs (mirror xs i j ((j - i) / 2)):=fun k hk=>by
 rw[cc6 hj,if_neg (by omega)]
theorem Pre.bubble {lo src dd:Nat}{xs:Array Keyed}(hs:src<xs.size)(hd:dd<=src)(hl:lo<=src - dd):Pre lo xs (bubble xs src dd):=fun k hk=>by
 rw[getElem?_bubble hs dd hd,if_neg (by omega),if_neg (by omega)]
structure SI (a₀:Array Keyed) (κ:SortKind) (p:Array (Nat × Nat × Nat)) (st:SortSt):Prop where
 perm:(l9 st).Perm a₀
 kind:kindOf st=κ
 failed:M3 st=none
 pend:B7 st=p
section
variable {p:Array (Nat × Nat × Nat)} {O:aJ1} {f:Keyed->O.α} {d:O.α}
theorem SI.size {st:SortSt}(h:SI a₀ κ p st):(l9 st).size=a₀.size:=h.perm.size_eq
theorem SI.setArr {st:SortSt}(h:SI a₀ κ p st){xs:Array Keyed}(hp:xs.Perm (l9 st)):SI a₀ κ p (setArr st xs):=⟨hp.trans h.perm,h.kind,h.failed,h.pend⟩
theorem SI.at {st:SortSt}(h:SI a₀ κ p st)(hi:i<a₀.size):∃ x,(l9 st)[i]?=some x/\x∈a₀.toList:=by
 have hi':i<(l9 st).size:=by rw[h.size];exact hi
 exact⟨(l9 st)[i],getElem?_pos _ i hi',(L1.mp h.perm).mem_iff.mp (by simp)⟩
abbrev bN8 (prog:Program)(w:World)(A:Around)(E:Value->Shared->Prop)(s:Shared)(κ:SortKind)(a₀:Array Keyed){O:aJ1}(f:Keyed->O.α):Prop:=Cmp prog w A E s κ (·∈a₀.toList) (Bf f)
theorem ac4 (C:bN8 prog w A E s κ a₀ f){st:SortSt}{Q:Option Bool->SortSt->Prop}(hB:SI a₀ κ p st)(hi:i<a₀.size)(hj:j<a₀.size)
  (h:Q (some (O.blt (KF f d (l9 st) i) (KF f d (l9 st) j))) st):wpS (p7 prog w) A E s (ltAt' i j) Q st:=by
 obtain⟨x,e1,hx⟩:=hB.at hi
 obtain⟨y,e2,hy⟩:=hB.at hj
 rw[ax9 e1,ax9 e2]at h
 exact bn9 C hB.kind e1 e2 hx hy h
theorem bf1 {st:SortSt} {lo a nrem:Nat} {Q:Option (Option Nat) × Nat->SortSt->Prop} {b:Nat->Option (Option Nat) × Nat->StateT SortSt Sem (ForInStep (Option (Option Nat) × Nat))} (ha:1<=a) (han:a<=nrem)
  (hb : ∀ x n (R : ForInStep (Option (Option Nat) × Nat) -> SortSt -> Prop), 1 <= n -> n < nrem -> (O.klt (KF f d (l9 st) (lo + n)) (KF f d (l9 st) (lo + n - 1)) -> R (.done (none, n)) st) ->
   (O.kle (KF f d (l9 st) (lo+n - 1)) (KF f d (l9 st) (lo+n))->R (.yield (none,n+1)) st)->wpS (p7 prog w) A E s (b x (none,n)) R st)
  (hs:S0 f d lo (l9 st) a)
  (h:∀ n,a<=n->n<=nrem->S0 f d lo (l9 st) n->(n=nrem\/O.klt (KF f d (l9 st) (lo+n)) (KF f d (l9 st) (lo+n - 1)))->Q (none,n) st) :
  wpS (p7 prog w) A E s (forIn [a:nrem] (none,a) b) Q st:=by
 refine E5 (I:=fun x c st'=>st'=st/\c=(none,x)/\S0 f d lo (l9 st) x) ?step ?fin ⟨rfl,rfl,hs⟩
 case fin =>
  rintro c st' ⟨rfl,rfl,hs'⟩
  rw[show max a nrem=nrem by omega]at hs' ⊢
  exact h nrem han (c5 _) hs' (.inl rfl)
 case step =>
  rintro x c st' hax hxn ⟨rfl,rfl,hs'⟩
  refine hb x x _ (by omega) hxn (fun q=>h x hax (by omega) hs' (.inr q)) (fun q=>⟨rfl,rfl,fun i j hij hj=>?_⟩)
  by_cases hjx:j<x
  ·exact hs' i j hij hjx
  ·have hj':j=x:=by omega
   subst hj'
   by_cases hi':i=j
   ·subst hi';exact KeyOrd.kle_refl _
   ·refine KeyOrd.kle_trans (hs' i (j - 1) (by omega) (by omega)) ?_
    rw[show lo+(j - 1)=lo+j - 1 by omega]
    exact q
theorem bt4 {st:SortSt} {lo nrem:Nat} {Q:Option (Option Nat) × Nat × Nat->SortSt->Prop} (hn:lo+nrem<=a₀.size) (h1:1<=n) (hnn:n<=nrem) (hB:SI a₀ κ p st)
  (hb : ∀ y x neq st' (R : ForInStep (Option (Option Nat) × Nat × Nat) -> SortSt -> Prop), SI a₀ κ p st' -> 1 <= x -> x < nrem ->
   (O.klt (KF f d (l9 st') (lo+x)) (KF f d (l9 st') (lo+x - 1))->0<neq->R (.yield (none,x+1,0)) (setArr st' (mirror (l9 st') (lo+x - (neq+1)) (lo+x) ((lo+x - (lo+x - (neq+1))) / 2)))) ->
   (O.klt (KF f d (l9 st') (lo+x)) (KF f d (l9 st') (lo+x - 1))->R (.yield (none,x+1,0)) st') ->
   (R (.done (none,x,neq)) st') ->
   (O.kle (KF f d (l9 st') (lo+x - 1)) (KF f d (l9 st') (lo+x))->O.kle (KF f d (l9 st') (lo+x)) (KF f d (l9 st') (lo+x - 1))->R (.yield (none,x+1,neq+1)) st')->wpS (p7 prog w) A E s (b y (none,x,neq)) R st')
  (hs:ae2 f d lo (l9 st) n)
  (h:∀ m neq st',SI a₀ κ p st'->Pre lo (l9 st) (l9 st')->n<=m->m<=nrem->ae2 f d lo (l9 st') m->neq+1<=m->(∀ i,m - (neq+1)<=i->i<m->KF f d (l9 st') (lo+i)=KF f d (l9 st') (lo+m - 1))->Q (none,m,neq) st') :
  wpS (p7 prog w) A E s (forIn [n:nrem] (none,n,0) b) Q st:=by
 refine E5 (I:=fun x c st'=>∃ neq,c=(none,x,neq)/\SI a₀ κ p st'/\Pre lo (l9 st) (l9 st')/\ae2 f d lo (l9 st') x/\neq+1<=x /\
   (∀ i,x - (neq+1)<=i->i<x->KF f d (l9 st') (lo+i)=KF f d (l9 st') (lo+x - 1))) ?step ?fin ⟨0,rfl,hB,Pre.rf _ _,hs,by omega,fun i h1 h2=>by congr 1;omega⟩
 case fin =>
  rintro c st' ⟨neq,rfl,hB',hp',hs',hq,he⟩
  rw[show max n nrem=nrem by omega]at hs' hq he ⊢
  exact h nrem neq st' hB' hp' hnn (c5 _) hs' hq he
 case step =>
  rintro x c st' hax hxn ⟨neq,rfl,hB',hp',hs',hq,he⟩
  have hsz:lo+x<=(l9 st').size:=by rw[hB'.size];omega
  have step1:O.klt (KF f d (l9 st') (lo+x)) (KF f d (l9 st') (lo+x - 1))->∀ xs:Array Keyed,(∀ k,KF f d xs k=KF f d (l9 st') k)->ae2 f d lo xs (x+1):=by
   intro hless xs hk i j hij hj
   rw[hk,hk]
   by_cases hjx:j<x
   ·exact hs' i j hij hjx
   ·have hj':j=x:=by omega
    subst hj'
    by_cases hi':i=j
    ·subst hi';exact KeyOrd.kle_refl _
    ·refine KeyOrd.kle_trans (KeyOrd.kle_of_klt hless) ?_
     rw[show lo+j - 1=lo+(j - 1) by omega]
     exact hs' i (j - 1) (by omega) (by omega)
  have he':∀ k,lo+x - (neq+1)<=k->k<lo+x->KF f d (l9 st') k=KF f d (l9 st') (lo+x - 1):=fun k h1 h2=>by
   have:=he (k - lo) (by omega) (by omega)
   rw[show lo+(k - lo)=k by omega]at this
   exact this
  refine hb x x neq st' _ hB' (by omega) hxn (fun q hneq=>?_) (fun q=>?_) (h x neq st' hB' hp' hax (by omega) hs' hq he) (fun q q'=>?_)
  ·exact⟨0,rfl,hB'.setArr (bn3 _ _ _ _),hp'.trans (Pre.mirror hsz (by omega)),step1 q _ (M8 hsz he'),by omega,fun i h1 h2=>by congr 1;omega⟩
  ·exact⟨0,rfl,hB',hp',step1 q _ (fun _=>rfl),by omega,fun i h1 h2=>by congr 1;omega⟩
  ·have heqx:KF f d (l9 st') (lo+x)=KF f d (l9 st') (lo+x - 1):=KeyOrd.kle_antisymm q' q
   refine⟨neq+1,rfl,hB',hp',fun i j hij hj=>?_,by omega,fun i h1 h2=>?_⟩
   ·by_cases hjx:j<x
    ·exact hs' i j hij hjx
    ·have hj':j=x:=by omega
     subst hj'
     by_cases hi':i=j
     ·subst hi';exact KeyOrd.kle_refl _
     ·rw[heqx,show lo+j - 1=lo+(j - 1) by omega];exact hs' i (j - 1) (by omega) (by omega)
   ·rw[show lo+(x+1) - 1=lo+x by omega]
    by_cases hix:i=x
    ·subst hix;rfl
    ·rw[heqx];exact he i (by omega) (by omega)
theorem wpS_countRun (C:bN8 prog w A E s κ a₀ f) {st:SortSt} {lo nrem:Nat} {Q:Option Nat->SortSt->Prop} (d:O.α) (hn:lo+nrem<=a₀.size) (h1:1<=nrem) (hB:SI a₀ κ p st)
    (h:∀ m st',SI a₀ κ p st'->Pre lo (l9 st) (l9 st')->1<=m->m<=nrem->S0 f d lo (l9 st') m->Q (some m) st') :
    wpS (p7 prog w) A E s (countRun' lo nrem) Q st:=by
  rw[countRun'_eq]
  dsimp only
  refine j3 (bf1 (f:=f) (d:=d) (lo:=lo) (c5 1) h1 (fun x n R hn1 hn2 q1 q2=>?_) (fun i j hij hj=>by have:i=j:=(by omega);subst this;exact KeyOrd.kle_refl _) fun n hn1 hn2 hsn hor=>?_)
  · dsimp only
    refine j3 (ac4 (d:=d) C hB (by omega) (by omega) ?_)
    cases e:O.blt (KF f d (l9 st) (lo+n)) (KF f d (l9 st) (lo+n - 1)) with
    | true=>exact l5 (q1 e)
    | false=>exact l5 (q2 e)
  dsimp only
  by_cases hnn:n=nrem
  · rw[if_pos (by simpa using hnn)]
    exact l5 (h n st hB (Pre.rf _ _) hn1 hn2 hsn)
  rw[if_neg (by simpa using hnn)]
  have hlt:=hor.resolve_left hnn
  by_cases hrose:1<n/\O.blt (KF f d (l9 st) lo) (KF f d (l9 st) (lo+n - 1))=true
  · rw[if_pos hrose.1]
    refine j3 (ac4 (d:=d) C hB (by omega) (by omega) ?_)
    rw[hrose.2]
    exact l5 (h n st hB (Pre.rf _ _) hn1 hn2 hsn)
  have hfell:1<n->O.blt (KF f d (l9 st) lo) (KF f d (l9 st) (lo+n - 1))=false:=fun hgt=>by
    cases e:O.blt (KF f d (l9 st) lo) (KF f d (l9 st) (lo+n - 1)) with
    | false=>rfl
    | true=>exact absurd ⟨hgt,e⟩ hrose
  have fall:∃ st2,SI a₀ κ p st2/\Pre lo (l9 st) (l9 st2)/\ae2 f d lo (l9 st2) (n+1)/\(n > 1->st2=setArr st (mirror (l9 st) lo (lo+n) ((lo+n - lo) / 2)))/\(¬ n > 1->st2=st):=by
    by_cases hgt:1<n
    · have hfell:=hfell hgt
      have hsz:lo+n<=(l9 st).size:=by rw[hB.size];omega
      have hall:∀ k,lo<=k->k<lo+n->KF f d (l9 st) k=KF f d (l9 st) (lo+n - 1):=by
        intro k hk0 hk
        have a1:=hsn 0 (k - lo) (by omega) (by omega)
        have a2:=hsn (k - lo) (n - 1) (by omega) (by omega)
        rw[show lo+0=lo by omega,show lo+(k - lo)=k by omega]at a1
        rw[show lo+(k - lo)=k by omega,show lo+(n - 1)=lo+n - 1 by omega]at a2
        exact KeyOrd.kle_antisymm a2 (KeyOrd.kle_trans hfell a1)
      refine⟨_,hB.setArr (bn3 _ _ _ _),Pre.mirror hsz (c5 _),?_,fun _=>rfl,fun e=>by omega⟩
      intro i j hij hj
      show O.kle (KF f d (mirror (l9 st) _ _ _) (lo+j)) (KF f d (mirror (l9 st) _ _ _) (lo+i))
      rw[M8 hsz hall,M8 hsz hall]
      by_cases hjn:j<n
      · rw[hall (lo+i) (by omega) (by omega),hall (lo+j) (by omega) (by omega)];exact KeyOrd.kle_refl _
      · have hj':j=n:=by omega
        subst hj'
        by_cases hi':i=j
        · subst hi';exact KeyOrd.kle_refl _
        · rw[hall (lo+i) (by omega) (by omega)];exact KeyOrd.kle_of_klt hlt
    · have hn1':n=1:=by omega
      subst hn1'
      refine⟨st,hB,Pre.rf _ _,?_,fun q=>by omega,fun _=>rfl⟩
      intro i j hij hj
      by_cases hi':i=j
      · subst hi';exact KeyOrd.kle_refl _
      · have hi0:i=0:=by omega
        have hj1:j=1:=by omega
        subst hi0;subst hj1
        rw[show lo+0=lo+1 - 1 by omega]
        exact KeyOrd.kle_of_klt hlt
  obtain⟨st2,hB2,hp2,hs2,e2,e3⟩:=fall
  by_cases hgt:n > 1
  all_goals first
    | (rw [if_pos hgt]
       refine j3 (ac4 (d:=d) C hB (by omega) (by omega) ?_)
       rw[hfell hgt]
       dsimp only
       rw[if_neg j5]
       refine j3 (aE4 ?_)
       rw[<- e2 hgt])
    | (rw [if_neg hgt]
       have e3:=e3 hgt
       rw[<- e3])
  all_goals
    clear e2 e3
    refine j3 (aa7 ?_)
    refine j3 (bt4 (f:=f) (d:=d) (lo:=lo) hn (by omega) (by omega) hB2 (fun y x neq st' R hB' x1 x2 q1 q2 q3 q4=>?_) hs2 fun m neq st' hB' hp' hm1 hm2 hs' hq he=>?_)
    · dsimp only
      refine j3 (ac4 (d:=d) C hB' (by omega) (by omega) ?_)
      cases e:O.blt (KF f d (l9 st') (lo+x)) (KF f d (l9 st') (lo+x - 1)) with
      | true =>
        dsimp only
        rw[if_pos rfl]
        split
        · rename_i hz
          exact j3 (aE4 (l5 (q1 e hz)))
        · exact l5 (q2 e)
      | false =>
        dsimp only
        rw[if_neg j5]
        refine j3 (ac4 (d:=d) C hB' (by omega) (by omega) ?_)
        cases e':O.blt (KF f d (l9 st') (lo+x - 1)) (KF f d (l9 st') (lo+x)) with
        | true=>exact l5 q3
        | false=>exact l5 (q4 e e')
    · dsimp only
      have hsz:lo+m<=(l9 st').size:=by rw[hB'.size];omega
      have he':∀ k,lo+m - (neq+1)<=k->k<lo+m->KF f d (l9 st') k=KF f d (l9 st') (lo+m - 1):=fun k h1 h2=>by
        have:=he (k - lo) (by omega) (by omega)
        rw[show lo+(k - lo)=k by omega]at this
        exact this
      have tailOk:∀ st3,SI a₀ κ p st3->Pre lo (l9 st) (l9 st3)->ae2 f d lo (l9 st3) m->SI a₀ κ p (setArr st3 (mirror (l9 st3) lo (lo+m) ((lo+m - lo) / 2)))/\Pre lo (l9 st) (mirror (l9 st3) lo (lo+m) ((lo+m - lo) / 2))/\S0 f d lo (mirror (l9 st3) lo (lo+m) ((lo+m - lo) / 2)) m:=fun st3 hB3 hp3 hs3=>by
        have hsz3:lo+m<=(l9 st3).size:=by rw[hB3.size];omega
        refine⟨hB3.setArr (bn3 _ _ _ _),hp3.trans (Pre.mirror hsz3 (c5 _)),fun i j hij hj=>?_⟩
        rw[as4 hsz3,as4 hsz3,if_pos (by omega),if_pos (by omega),show lo+(lo+m) - 1 - (lo+i)=lo+(m - 1 - i) by omega,show lo+(lo+m) - 1 - (lo+j)=lo+(m - 1 - j) by omega]
        exact hs3 _ _ (by omega) (by omega)
      have mm:ae2 f d lo (mirror (l9 st') (lo+m - (neq+1)) (lo+m) ((lo+m - (lo+m - (neq+1))) / 2)) m:=fun i j hij hj=>by
        rw[M8 hsz he',M8 hsz he']
        exact hs' i j hij hj
      by_cases hneq:neq > 0
      all_goals first
        | (rw [if_pos hneq]
           refine j3 (aE4 (j3 (aE4 ?_)))
           obtain⟨hB4,hp4,hs4⟩:=tailOk (setArr st' (mirror (l9 st') (lo+m - (neq+1)) (lo+m) ((lo+m - (lo+m - (neq+1))) / 2))) (hB'.setArr (bn3 _ _ _ _)) ((hp2.trans hp').trans (Pre.mirror hsz (by omega))) mm)
        | (rw [if_neg hneq]
           refine j3 (aE4 ?_)
           obtain⟨hB4,hp4,hs4⟩:=tailOk st' hB' (hp2.trans hp') hs')
      all_goals
        refine j3 (bf1 (f:=f) (d:=d) (lo:=lo) (by omega) hm2 (fun x n R hn1 hn2 q1 q2=>?_) hs4 fun n' hn1' hn2' hsn' _=>l5 (h n' _ hB4 hp4 (by omega) hn2' hsn'))
        dsimp only
        refine j3 (ac4 (d:=d) C hB4 (by omega) (by omega) ?_)
        revert q1 q2
        generalize KF f d (l9 _) (lo+n)=u
        generalize KF f d (l9 _) (lo+n - 1)=v
        intro q1 q2
        cases e:O.blt u v with
        | true=>exact l5 (q1 e)
        | false=>exact l5 (q2 e)
theorem au7 (C:bN8 prog w A E s κ a₀ f) {st:SortSt} {lo ok:Nat} {Q:Bool->SortSt->Prop} (d:O.α) (hn:lo+n<=a₀.size) (hok:ok<=n) (hB:SI a₀ κ p st) (hs:S0 f d lo (l9 st) ok)
  (h:∀ st',SI a₀ κ p st'->Pre lo (l9 st) (l9 st')->S0 f d lo (l9 st') n->Q true st'):wpS (p7 prog w) A E s (binarySort' lo n ok) Q st:=by
 rw[binarySort'_eq]
 refine j3 (U2 (E5 (I:=fun k c st'=>c=(none,())/\SI a₀ κ p st'/\Pre lo (l9 st) (l9 st')/\S0 f d lo (l9 st') (min k n))
  (Q:=fun c st'=>c=(none,())/\SI a₀ κ p st'/\Pre lo (l9 st) (l9 st')/\S0 f d lo (l9 st') n) ?step ?fin ?init) ?post)
 case post =>
  rintro c st' ⟨rfl,hB',hp',hs'⟩
  exact l5 (h st' hB' hp' hs')
 case init =>
  refine⟨rfl,hB,Pre.rf _ _,fun i j hij hj=>?_⟩
  by_cases h1:ok=0
  ·have:i=j:=by omega
   subst this;exact KeyOrd.kle_refl _
  ·exact hs i j hij (by omega)
 case fin =>
  rintro c st' ⟨hc,hB',hp',hs'⟩
  refine⟨hc,hB',hp',?_⟩
  rwa [show min (max (max ok 1) n) n=n by omega]at hs'
 case step =>
  rintro k c st' hak hkn ⟨rfl,hB',hp',hs'⟩
  rw[show min k n=k by omega]at hs'
  have hk:lo+k<a₀.size:=by omega
  refine j3 (U2 (E5 (I:=fun x c st''=>st''=st'/\∃ l r,c=(none,l,r)/\l<=r/\r<=k/\r - l<=k - x /\
    (∀ i,i<l->O.kle (KF f d (l9 st') (lo+i)) (KF f d (l9 st') (lo+k)))/\(∀ i,r<=i->i<k->O.klt (KF f d (l9 st') (lo+k)) (KF f d (l9 st') (lo+i))))
   (Q := fun c st'' => st'' = st' /\ ∃ l r, c = (none, l, r) /\ l <= k /\
    (∀ i,i<l->O.kle (KF f d (l9 st') (lo+i)) (KF f d (l9 st') (lo+k)))/\(∀ i,l<=i->i<k->O.klt (KF f d (l9 st') (lo+k)) (KF f d (l9 st') (lo+i)))) ?istep ?ifin ?iinit) ?ipost)
  case iinit=>exact⟨rfl,0,k,rfl,by omega,by omega,by omega,fun i hi=>by omega,fun i h1 h2=>by omega⟩
  case ifin =>
   rintro c st'' ⟨rfl,l,r,rfl,hlr,hrk,hm,hlo,hhi⟩
   have:l=r:=by omega
   subst this
   exact⟨rfl,l,l,rfl,hrk,hlo,hhi⟩
  case istep =>
   rintro x c st'' _ hxk ⟨rfl,l,r,rfl,hlr,hrk,hm,hlo,hhi⟩
   dsimp only
   by_cases hge:l≥r
   ·rw[if_pos hge]
    have:l=r:=by omega
    subst this
    exact l5 ⟨rfl,l,l,rfl,hrk,hlo,hhi⟩
   ·rw[if_neg hge]
    refine j3 (ac4 (d:=d) C hB' hk (by omega) ?_)
    cases hless:O.blt (KF f d (l9 st'') (lo+k)) (KF f d (l9 st'') (lo+(l+r) / 2))
    case true =>
     simp only[if_true]
     refine l5 ⟨rfl,l,(l+r) / 2,rfl,by omega,by omega,by omega,hlo,fun i h1 h2=>?_⟩
     exact KeyOrd.klt_of_klt_of_kle hless (hs' _ _ h1 h2)
    case false =>
     simp only[l6,if_false]
     refine l5 ⟨rfl,(l+r) / 2+1,r,rfl,by omega,by omega,by omega,fun i h1=>?_,hhi⟩
     exact KeyOrd.kle_trans (hs' i ((l+r) / 2) (by omega) (by omega)) (show O.kle _ _ from hless)
  case ipost =>
   rintro c st'' ⟨rfl,l,r,rfl,hlk,hlo,hhi⟩
   show wpS _ _ _ _ (do moveDown' (lo+k) (lo+l);pure (ForInStep.yield (none,()))) _ _
   rw[moveDown'_eq]
   have hks:lo+k<(l9 st'').size:=by rw[hB'.size];exact hk
   refine j3 (av5 (l5 ⟨rfl,hB'.setArr (bubble_perm _ _ _),hp'.trans (Pre.bubble hks (by omega) (by omega)),?_⟩))
   rw[show min (k+1) n=k+1 by omega]
   intro i j hij hj
   show O.kle (KF f d (bubble (l9 st'') (lo+k) (lo+k - (lo+l))) (lo+i)) (KF f d (bubble (l9 st'') (lo+k) (lo+k - (lo+l))) (lo+j))
   rw[aI7 hks (by omega),aI7 hks (by omega),show lo+k - (lo+k - (lo+l))=lo+l by omega]
   have e1:∀ t:Nat,0<t->lo+t - 1=lo+(t - 1):=fun t ht=>by omega
   repeat' split
   all_goals first
    | (exfalso;omega)
    | exact KeyOrd.kle_refl _
    | exact hlo _ (by omega)
    | (rw[e1 _ (by omega)];exact KeyOrd.kle_of_klt (hhi _ (by omega) (by omega)))
    | exact KeyOrd.kle_of_klt (hhi _ (by omega) (by omega))
    | exact hs' _ _ (by omega) (by omega)
    | (rw[e1 _ (by omega)];exact hs' _ _ (by omega) (by omega))
    | (rw[e1 _ (by omega),e1 _ (by omega)];exact hs' _ _ (by omega) (by omega))
end
theorem aT9 (i:Nat):mergeAt' i=(do
 let s <- get
 let (some (sa,na,power),some (sb,nb,_)):=((B7 s)[i]?,(B7 s)[i+1]?) | af0 "internal:list.sort.pending"
 set (bF7 s (((B7 s).setIfInBounds i (sa,na+nb,power)).eraseIdxIfInBounds (i+1)))
 let some k <- W4 false (<- af8 (l9 s) sb) (l9 s) sa na 0 | return false
 let (sa,na):=(sa+k,na - k)
 if na == 0 then return true
 let some nb <- W4 true (<- af8 (l9 s) (sa+na - 1)) (l9 s) sb nb (nb - 1) | return false
 if nb == 0 then return true
 let x:=(l9 s).extract sa sb
 let y:=(l9 s).extract sb (sb+nb)
 let merged <- if na<=nb then aA8 x y else aA9 x y
 modify fun s=>setArr s (merged.toList.zipIdx.foldl (fun a (p,j)=>a.setIfInBounds (sa+j) p) (l9 s))
 return (M3 (<- get)).isNone):=rfl
def shape (ps:List (Nat × Nat × Nat)):List (Nat × Nat):=ps.map fun x=>(x.1,x.2.1)
def an7:Nat->List (List Keyed)->List (Nat × Nat)
 | _,[]=>[]
 | k,r::rs=>(k,r.length)::an7 (k+r.length) rs
theorem Z4:∀ (k:Nat) (rs ts:List (List Keyed)),an7 k (rs++ts)=an7 k rs++an7 (k+rs.flatten.length) ts
 | k,[],ts=>by simp[an7]
 | k,r::rs,ts=>by
  rw[aO2]
  show (k,r.length)::an7 (k+r.length) (rs++ts)=(k,r.length)::(an7 (k+r.length) rs++_)
  rw[Z4 (k+r.length) rs ts,M9,j7,Nat.add_assoc]
theorem Z3:∀ (k:Nat) (rs:List (List Keyed)),(an7 k rs).length=rs.length
 | _,[]=>rfl
 | k,r::rs=>by
  show (an7 (k+r.length) rs).length+1=rs.length+1
  rw[Z3]
theorem aQ8 {α:Type}{l:List α}(h:i+1<l.length):∃ l1 u v l2,l=l1++u::v::l2/\l1.length=i:=by
 refine⟨l.take i,l[i],l[i+1],l.drop (i+2),?_,by rw[n6];omega⟩
 rw[<- af3,<- af3,x9]
theorem aV8 (b:Nat):∀ (m:List Keyed) (k:Nat) (arr:Array Keyed),b+k+m.length<=arr.size ->
  (aa6 (fun a x=>match x with | (p,j)=>bG0 a (b+j) p) arr (m.zipIdx k)).toList=arr.toList.take (b+k)++(m++arr.toList.drop (b+k+m.length))
 | [],k,arr,h=>by simp
 | x::m,k,arr,h=>by
  rw[a9]at h
  rw[List.zipIdx_cons,ab9,aV8 b m (k+1) _ (by rw[be7];omega)]
  dsimp only
  rw[aY0]
  have hl:b+k<arr.toList.length:=by rw[j8];omega
  rw[List.set_eq_take_append_cons_drop,if_pos hl]
  have e1:(aY1 (b+k) arr.toList).length=b+k:=by rw[n6];omega
  have e2:(aY1 (b+k) arr.toList++x::List.drop (b+k+1) arr.toList).take (b+(k+1))=aY1 (b+k) arr.toList++[x]:=by
   rw[cb5,e1,show b+(k+1) - (b+k)=1 by omega,i8 (by rw[e1];omega)]
   rfl
  have e3:(aY1 (b+k) arr.toList++x::List.drop (b+k+1) arr.toList).drop (b+(k+1)+m.length)=arr.toList.drop (b+k+(m.length+1)):=by
   rw[Y4,e1,F6 (by rw[e1];omega),K5,show b+(k+1)+m.length - (b+k)=m.length+1 by omega,List.drop_succ_cons,be5]
   congr 1
   omega
  rw[e2,e3,A9]
  rfl
theorem bH4 {σ:Type}{x:σ}{Q:PUnit->σ->Prop}{st:σ}(h:Q ⟨⟩ x):wpS M A E s (set x:StateT σ Sem PUnit) Q st:=by
 unfold wpS;rw[StateT.run_set];exact j9 ⟨rfl,h⟩
structure SR (a₀:Array Keyed) (κ:SortKind) (B:Keyed->Keyed->Bool) (runs:List (List Keyed)) (suf:List Keyed) (st:SortSt):Prop where
 perm:(l9 st).Perm a₀
 kind:kindOf st=κ
 failed:M3 st=none
 sh:shape (B7 st).toList=an7 0 runs
 ok:∀ r∈runs,r≠[]/\r.Pairwise (le B)
 arr:(l9 st).toList=runs.flatten++suf
theorem ab2 {l:List Keyed}(h:l.Pairwise R)(rf:∀ x,R x x){x y:Keyed}(hij:i<=j)(hx:l[i]?=some x)(hy:l[j]?=some y):R x y:=by
 obtain⟨h1,rfl⟩:=c7.mp hx
 obtain⟨h2,rfl⟩:=c7.mp hy
 rcases G9 hij with hlt | rfl
 ·exact t9.mp h i j h1 h2 hlt
 ·exact rf _
theorem as7 (o:Ord B)(C:Cmp prog w A E s κ (·∈a₀.toList) B){st:SortSt}{runs:List (List Keyed)}{suf:List Keyed}{Q:Bool->SortSt->Prop}(I:SR a₀ κ B runs suf st)(hi:i+1<runs.length)
  (h:∀ runs' st',SR a₀ κ B runs' suf st'->runs'.length+1=runs.length->runs'.flatten.length=runs.flatten.length->Q true st'):wpS (p7 prog w) A E s (mergeAt' i) Q st:=by
 obtain⟨r1,R,R',r2,rfl,hr1⟩:=aQ8 hi
 have hpl:(B7 st).toList.length=(r1++R::R'::r2).length:=by
  have:=congrArg ak3 I.sh
  rw[Z3]at this
  unfold shape at this
  rw[a6]at this
  exact this
 obtain⟨l1,u,v,l2,hp,hl1⟩:=aQ8 (l:=(B7 st).toList) (i:=i) (by rw[hpl];exact hi)
 have hsh:=I.sh
 rw[hp,Z4]at hsh
 unfold shape at hsh
 rw[i9]at hsh
 obtain⟨s1,s2⟩:=List.append_inj hsh (by rw[a6,Z3,hl1,hr1])
 rw[i7,i7]at s2
 simp only[an7,List.cons.injEq,F5]at s2
 obtain⟨su,sv,s2⟩:=s2
 obtain⟨sa,na,pw⟩:=u
 obtain⟨sb,nb,pw2⟩:=v
 simp only[Prod.mk.injEq]at su sv
 obtain⟨hsa,hna⟩:=su
 obtain⟨hsb,hnb⟩:=sv
 have okR:=I.ok R (by simp)
 have okR':=I.ok R' (by simp)
 have nR:0<R.length:=av2.mpr okR.1
 have nR':0<R'.length:=av2.mpr okR'.1
 have g1:(B7 st)[i]?=some (sa,na,pw):=by
  rw[<- c8,hp,D6 (by omega),hl1,aO3]
  rfl
 have g2:(B7 st)[i+1]?=some (sb,nb,pw2):=by
  rw[<- c8,hp,D6 (by omega),hl1,show i+1 - i=1 by omega]
  rfl
 have harr:(l9 st).toList=r1.flatten++(R++(R'++(r2.flatten++suf))):=by
  rw[I.arr]
  simp
 have hsize:(l9 st).size=sa+(na+(nb+(r2.flatten++suf).length)):=by
  rw[<- j8,harr,j7,j7,j7,hsa,hna,hnb]
 have atR:∀ k,k<na->(l9 st)[sa+k]?=R[k]?:=fun k hk=>by
  rw[<- c8,harr,D6 (by omega),hsa,N8,S2 (by omega)]
 have atR':∀ k,k<nb->(l9 st)[sb+k]?=R'[k]?:=fun k hk=>by
  rw[<- c8,harr,D6 (by omega),D6 (by omega),S2 (by omega)]
  congr 1
  omega
 have inS:∀ x∈(l9 st).toList,x∈a₀.toList:=fun x hx=>(L1.mp I.perm).mem_iff.mp hx
 have hpend:∀ M:List Keyed,M.length=na+nb->shape (((B7 st).setIfInBounds i (sa,na+nb,pw)).eraseIdxIfInBounds (i+1)).toList=an7 0 (r1++M::r2):=fun M hM=>by
  have e:(((B7 st).setIfInBounds i (sa,na+nb,pw)).eraseIdxIfInBounds (i+1)).toList=l1++(sa,na+nb,pw)::l2:=by
   rw[Array.toList_eraseIdxIfInBounds,aY0,hp]
   subst hl1
   rw[List.set_append_right _ _ (c5 _),aO3,bR5,List.eraseIdx_append_of_length_le (by omega)]
   rw[show l1.length+1 - l1.length=1 by omega]
   rfl
  unfold shape
  rw[e,i9,s1,Z4,i7]
  show _++(sa,na+nb)::_=_++(0+r1.flatten.length,M.length)::an7 (0+r1.flatten.length+M.length) r2
  rw[hM,s2,F5,hsa,hna,hnb,Nat.add_assoc]
 have fin:∀ (st':SortSt) (M:List Keyed),kindOf st'=κ->M3 st'=none->B7 st'=((B7 st).setIfInBounds i (sa,na+nb,pw)).eraseIdxIfInBounds (i+1) ->
   (l9 st').toList=r1.flatten++(M++(r2.flatten++suf))->M.Perm (R++R')->M.Pairwise (le B)->Q true st':=fun st' M k1 k2 k3 k4 k5 k6=>by
  have hM:M.length=na+nb:=by rw[k5.length_eq,j7,hna,hnb]
  refine h (r1++M::r2) st' ⟨?_,k1,k2,by rw[k3];exact hpend M hM,fun r hr=>?_,?_⟩ (by simp;omega) (by simp;omega)
  ·refine Array.Perm.trans ?_ I.perm
   rw[L1,k4,harr]
   refine List.Perm.append_left _ ?_
   rw[<- A9 R]
   exact List.Perm.append_right _ k5
  ·rcases k7.mp hr with hr | hr
   ·exact I.ok r (D7 _ hr)
   ·rcases d3.mp hr with rfl | hr
    ·exact⟨by intro e;rw[e]at hM;simp at hM;omega,k6⟩
    ·exact I.ok r (k9 _ (b8 _ (b8 _ hr)))
  ·rw[k4];simp
 have both:(∀ x∈R,∀ y∈R',le B x y)->(R++R').Pairwise (le B):=fun hxy=>o7.mpr ⟨okR.2,okR'.2,hxy⟩
 rw[aT9]
 refine j3 (au5 ?_)
 rw[g1,g2]
 dsimp only
 refine j3 (bH4 ?_)
 obtain⟨y0,ey0⟩:∃ y0,R'[0]?=some y0:=⟨R'[0],i6 nR'⟩
 have ey:(l9 st)[sb]?=some y0:=by
  have:=atR' 0 (by omega)
  rw[ap1]at this
  rw[this,ey0]
 refine j3 (C4 ey ?_)
 have hy0:y0∈a₀.toList:=inS y0 (d5 (by rw[c8];exact ey))
 refine j3 (T7 o C (by exact I.kind) hy0 (by omega) (fun i x hi' e=>inS x (d5 (by rw[c8];exact e)))
  (fun i j x y hij hj e e'=>ab2 okR.2 o.rf hij (by rw[<- atR i (by omega)];exact e) (by rw[<- atR j hj];exact e')) (by omega) fun k hk hlt hge=>?_)
 dsimp only
 have leR:∀ (j:Nat) (x:Keyed),j<k->R[j]?=some x->le B x y0:=fun j x hj e=>by
  have q:=hlt j x hj (by rw[atR j (by omega)];exact e)
  show B y0 x=false
  simpa [byn] using q
 have gtR:∀ (j:Nat) (x:Keyed),k<=j->R[j]?=some x->B y0 x=true:=fun j x hj e=>by
  have hjl:j<R.length:=(c7.mp e).1
  have q:=hge j x hj (by omega) (by rw[atR j (by omega)];exact e)
  simpa [byn] using q
 have leY:∀ y∈R',le B y0 y:=fun y hy=>by
  obtain⟨j,hj⟩:=o4.mp hy
  exact ab2 okR'.2 o.rf (o5 j) ey0 hj
 by_cases e0:na - k=0
 ·rw[if_pos (by simpa using e0)]
  refine l5 (fin _ (R++R') I.kind I.failed rfl ?_ (List.Perm.refl _) (both fun x hx y hy=>?_))
  ·show (l9 st).toList=_
   rw[harr];simp
  ·obtain⟨j,hj⟩:=o4.mp hx
   have hjl:j<R.length:=(c7.mp hj).1
   exact o.trans (leR j x (by omega) hj) (leY y hy)
 rw[if_neg (by simpa using e0)]
 obtain⟨xl,exl⟩:∃ xl,R[na - 1]?=some xl:=⟨R[na - 1]'(by omega),i6 (by omega)⟩
 have ex:(l9 st)[sa+k+(na - k) - 1]?=some xl:=by
  rw[show sa+k+(na - k) - 1=sa+(na - 1) by omega,atR _ (by omega),exl]
 refine j3 (C4 ex ?_)
 have hxl:xl∈a₀.toList:=inS xl (d5 (by rw[c8];exact ex))
 refine j3 (T7 o C (by exact I.kind) hxl (by omega) (fun i x hi' e=>inS x (d5 (by rw[c8];exact e)))
  (fun i j x y hij hj e e'=>ab2 okR'.2 o.rf hij (by rw[<- atR' i (by omega)];exact e) (by rw[<- atR' j hj];exact e')) (by omega) fun k2 hk2 hlt2 hge2=>?_)
 dsimp only
 have ltY:∀ (j:Nat) (x:Keyed),j<k2->R'[j]?=some x->B x xl=true:=fun j x hj e=>by
  have q:=hlt2 j x hj (by rw[atR' j (by omega)];exact e)
  simpa [byn] using q
 have geY:∀ (j:Nat) (x:Keyed),k2<=j->R'[j]?=some x->le B xl x:=fun j x hj e=>by
  have hjl:j<R'.length:=(c7.mp e).1
  have q:=hge2 j x hj (by omega) (by rw[atR' j (by omega)];exact e)
  show B x xl=false
  simpa [byn] using q
 have leX:∀ x∈R,le B x xl:=fun x hx=>by
  obtain⟨j,hj⟩:=o4.mp hx
  have hjl:j<R.length:=(c7.mp hj).1
  exact ab2 okR.2 o.rf (by omega) hj exl
 by_cases e1:k2=0
 ·rw[if_pos (by simpa using e1)]
  refine l5 (fin _ (R++R') I.kind I.failed rfl ?_ (List.Perm.refl _) (both fun x hx y hy=>?_))
  ·show (l9 st).toList=_
   rw[harr];simp
  ·obtain⟨j,hj⟩:=o4.mp hy
   exact o.trans (leX x hx) (geY j y (by omega) hj)
 rw[if_neg (by simpa using e1)]
 have ex1:((l9 st).extract (sa+k) sb).toList=R.drop k:=by
  rw[ax0,harr,hsa,Y4,F6 (by omega),K5,N8,aO4 (by omega),J0 (by rw[A8];omega)]
  exact i8 (by rw[A8];omega)
 have ey1:((l9 st).extract sb (sb+k2)).toList=R'.take k2:=by
  rw[ax0,harr,hsb,<- A9,Y4,F6 (by rw[j7];omega),K5,j7,aO3,be6,N8,J0 (by omega)]
 have sx:((l9 st).extract (sa+k) sb).size=na - k:=by rw[<- j8,ex1,A8];omega
 have sy:((l9 st).extract sb (sb+k2)).size=k2:=by rw[<- j8,ey1,n6];omega
 have pre1:∀ x y,((l9 st).extract sb (sb+k2))[0]?=some x->((l9 st).extract (sa+k) sb)[0]?=some y->B x y=true:=fun x y hx hy=>by
  rw[<- c8,ey1,S9 (by omega),ey0]at hx
  cases hx
  rw[<- c8,ex1,P4]at hy
  exact gtR (k+0) y (by omega) hy
 have pre2:∀ x∈((l9 st).extract sb (sb+k2)).toList,∀ y,((l9 st).extract (sa+k) sb)[((l9 st).extract (sa+k) sb).size - 1]?=some y->B x y=true:=fun x hx y hy=>by
  rw[<- c8,ex1,P4,sx,show k+(na - k - 1)=na - 1 by omega,exl]at hy
  cases hy
  rw[ey1]at hx
  obtain⟨j,hj⟩:=o4.mp hx
  rw[P5]at hj
  split at hj
  ·rename_i hlt'
   exact ltY j x hlt' hj
  ·cases hj
 have sS1:∀ x∈((l9 st).extract (sa+k) sb).toList,x∈a₀.toList:=fun x hx=>by
  rw[ex1]at hx
  refine inS x ?_
  rw[harr]
  exact k9 _ (D7 _ (R5 hx))
 have sS2:∀ x∈((l9 st).extract sb (sb+k2)).toList,x∈a₀.toList:=fun x hx=>by
  rw[ey1]at hx
  refine inS x ?_
  rw[harr]
  exact k9 _ (k9 _ (D7 _ (A5 hx)))
 have so1:((l9 st).extract (sa+k) sb).toList.Pairwise (le B):=by rw[ex1];exact okR.2.sublist (ah6 _ _)
 have so2:((l9 st).extract sb (sb+k2)).toList.Pairwise (le B):=by rw[ey1];exact okR'.2.sublist (F9 _ _)
 have done:∀ (r:Array Keyed) (st3:SortSt),Sm (bF7 st (((B7 st).setIfInBounds i (sa,na+nb,pw)).eraseIdxIfInBounds (i+1))) st3->Good B ((l9 st).extract (sa+k) sb) ((l9 st).extract sb (sb+k2)) r ->
   wpS (p7 prog w) A E s (do
    modify fun s=>setArr s (aa6 (fun a x=>match x with | (p,j)=>bG0 a (sa+k+j) p) (l9 s) r.toList.zipIdx)
    let __do_lift <- get
    pure (M3 __do_lift).isNone) Q st3:=fun r st3 hS hg=>by
  refine j3 (av5 (j3 (au5 (l5 ?_))))
  have hf:M3 st3=none:=hS.f.trans I.failed
  show Q (M3 st3).isNone _
  rw[hf]
  obtain⟨g1,g2⟩:=hg
  rw[ex1,ey1]at g2
  have hrl:r.toList.length=na - k+k2:=by rw[g2.length_eq,j7,A8,n6];omega
  refine fin _ (R.take k++(r.toList++R'.drop k2)) (hS.k.trans I.kind) hf hS.p ?_ ?_ ?_
  ·show (aa6 _ (l9 st3) (r.toList.zipIdx 0)).toList=_
   rw[hS.a]
   show (aa6 _ (l9 st) (r.toList.zipIdx 0)).toList=_
   rw[aV8 (sa+k) r.toList 0 (l9 st) (by omega),harr,ap1,hrl]
   have t1:aY1 (sa+k) (r1.flatten++(R++(R'++(r2.flatten++suf))))=r1.flatten++R.take k:=by
    rw[cb5,i8 (by omega),show sa+k - r1.flatten.length=k by omega,J0 (by omega)]
   have t2:List.drop (sa+k+(na - k+k2)) (r1.flatten++(R++(R'++(r2.flatten++suf))))=R'.drop k2++(r2.flatten++suf):=by
    rw[Y4,F6 (by omega),K5,Y4,F6 (by omega),K5,aO4 (by omega)]
    congr 2
    omega
   rw[t1,t2]
   simp
  ·have:(R.take k++(r.toList++R'.drop k2)).Perm (R.take k++((R.drop k++R'.take k2)++R'.drop k2)):=List.Perm.append_left _ (List.Perm.append_right _ g2)
   refine this.trans (List.Perm.of_eq ?_)
   rw[A9,x9,<- A9,x9]
  ·have inM:∀ z∈r.toList,z∈R.drop k\/z∈R'.take k2:=fun z hz=>k7.mp (g2.mem_iff.mp hz)
   have tk:∀ {l:List Keyed} {n:Nat} {x:Keyed},x∈l.take n->∃ j,j<n/\l[j]?=some x:=fun {l n x} hx=>by
    obtain⟨j,hj⟩:=o4.mp hx
    rw[P5]at hj
    split at hj
    ·rename_i hlt'
     exact⟨j,hlt',hj⟩
    ·cases hj
   refine o7.mpr ⟨okR.2.sublist (F9 _ _),o7.mpr ⟨g1,okR'.2.sublist (ah6 _ _),fun x hx y hy=>?_⟩,fun x hx y hy=>?_⟩
   ·obtain⟨j,h1,h2,h3⟩:=F4 hy
    rcases inM x hx with hx | hx
    ·exact o.trans (leX x (R5 hx)) (geY j y h1 h3)
    ·obtain⟨i',h4,h5⟩:=tk hx
     exact ab2 okR'.2 o.rf (by omega) h5 h3
   ·obtain⟨i',h4,h5⟩:=tk hx
    rcases k7.mp hy with hy | hy
    ·rcases inM y hy with hy | hy
     ·obtain⟨j,h1,h2,h3⟩:=F4 hy
      exact ab2 okR.2 o.rf (by omega) h5 h3
     ·exact o.trans (leR i' x h4 h5) (leY y (A5 hy))
    ·exact o.trans (leR i' x h4 h5) (leY y (R5 hy))
 by_cases e2:na - k<=k2
 ·rw[if_pos e2]
  exact j3 (aP7 o C (by exact I.kind) sS1 sS2 so1 so2 (by omega) (by omega) pre1 pre2 fun r st3 hS hg=>done r st3 hS hg)
 ·rw[if_neg e2]
  exact j3 (aP8 o C (by exact I.kind) sS1 sS2 so1 so2 (by omega) (by omega) pre1 pre2 fun r st3 hS hg=>done r st3 hS hg)
theorem aS5 {runs:List (List Keyed)}{suf:List Keyed}{st:SortSt}(I:SR a₀ κ B runs suf st):(B7 st).size=runs.length:=by
 have:=congrArg ak3 I.sh
 rw[Z3]at this
 unfold shape at this
 rw[a6,j8]at this
 exact this
theorem bh3:∀ (runs:List (List Keyed)),(∀ r∈runs,r≠[]/\r.Pairwise (le B))->runs.length<=runs.flatten.length
 | [],_=>c5 _
 | r::rs,h=>by
  have h1:=bh3 rs fun r hr=>h r (b8 _ hr)
  have h2:0<r.length:=av2.mpr (h r b9).1
  rw[a9,M9,j7]
  omega
section
variable {O:aJ1} {f:Keyed->O.α}
theorem bV2 {d:O.α}{xs:Array Keyed}{lo:Nat}(hs:S0 f d lo xs n)(hn:lo+n<=xs.size):((xs.toList.drop lo).take n).Pairwise (le (Bf f))/\((xs.toList.drop lo).take n).length=n:=by
 refine⟨t9.mpr fun i j hi hj hij=>?_,by rw[n6,A8,j8];omega⟩
 have hjn:j<n:=by rw[n6]at hj;omega
 have gi:∀ k,(hk:k<n)->(xs.toList.drop lo)[k]?=some (xs[lo+k]'(by omega)):=fun k hk=>by
  rw[P4,c8]
  exact getElem?_pos xs _ _
 have e1:((xs.toList.drop lo).take n)[i]=xs[lo+i]'(by omega):=by
  have:=gi i (by omega)
  rw[<- S9 (show i<n by omega),i6 hi]at this
  exact Option.some.inj this
 have e2:((xs.toList.drop lo).take n)[j]=xs[lo+j]'(by omega):=by
  have:=gi j hjn
  rw[<- S9 hjn,i6 hj]at this
  exact Option.some.inj this
 rw[e1,e2]
 have:=hs i j (ap0 hij) hjn
 rw[ax9 (getElem?_pos xs (lo+i) (by omega)),ax9 (getElem?_pos xs (lo+j) (by omega))]at this
 exact this
theorem aQ5 {lo:Nat}{xs ys:Array Keyed}(h:Pre lo xs ys)(hz:ys.size=xs.size):ys.toList.take lo=xs.toList.take lo:=by
 apply J9
 intro k
 rw[P5,P5]
 split
 ·rw[c8,c8]
  exact h k (by assumption)
 ·rfl
theorem as6 (C:bN8 prog w A E s κ a₀ f) {st:SortSt} {Q:Unit->SortSt->Prop} (d:O.α) (hp:(l9 st).Perm a₀) (hk:kindOf st=κ) (hf:M3 st=none) (hpe:B7 st=#[])
    (h:∀ st',(l9 st').Perm a₀->M3 st'=none->(l9 st').toList.Pairwise (le (Bf f))->Q () st'):wpS (p7 prog w) A E s sortRuns' Q st:=by
  have o:Ord (Bf f):=Bf.ord f
  have hsz:(l9 st).size=a₀.size:=hp.size_eq
  rw[sortRuns'_eq]
  refine j3 (au5 ?_)
  dsimp only
  rw[hsz]
  refine j3 (U2 (E5
    (I:=fun x c st'=>∃ runs suf lo,c=(none,lo)/\SR a₀ κ (Bf f) runs suf st'/\lo=runs.flatten.length/\(x<=lo\/lo=a₀.size)/\lo<=a₀.size)
    (Q:=fun c st'=>∃ runs,c=(none,a₀.size)/\SR a₀ κ (Bf f) runs [] st') ?step ?fin
    ⟨[],(l9 st).toList,0,rfl,⟨hp,hk,hf,by rw[hpe];rfl,(fun _ hr=>nomatch hr),by simp⟩,rfl,.inl (c5 _),o5 _⟩) ?post)
  case fin =>
    rintro c st' ⟨runs,suf,lo,rfl,I,h1,h2,h3⟩
    have e:lo=a₀.size:=by omega
    have hl:=congrArg ak3 I.arr
    rw[j8,I.perm.size_eq,j7]at hl
    have:suf=[]:=aO5 (by omega)
    subst this
    exact⟨runs,by rw[e],I⟩
  case step =>
    rintro x c st1 _ hx ⟨runs,suf,lo,rfl,I,h1,h2,h3⟩
    dsimp only
    by_cases hge:lo≥a₀.size
    · rw[if_pos hge]
      have e:lo=a₀.size:=by omega
      have hl:=congrArg ak3 I.arr
      rw[j8,I.perm.size_eq,j7]at hl
      have:suf=[]:=aO5 (by omega)
      subst this
      exact l5 ⟨runs,by rw[e],I⟩
    rw[if_neg hge]
    refine j3 (wpS_countRun C d (p:=B7 st1) (by omega) (by omega) ⟨I.perm,I.kind,I.failed,rfl⟩ fun n st2 hB2 hp2 hn1 hn2 hs2=>?_)
    dsimp only
    have cont:∀ (n':Nat) (st3:SortSt),SI a₀ κ (B7 st1) st3->Pre lo (l9 st1) (l9 st3)->1<=n'->n'<=a₀.size - lo->S0 f d lo (l9 st3) n' ->
        ∃ run suf',SR a₀ κ (Bf f) runs (run++suf') st3/\run.length=n'/\run.Pairwise (le (Bf f)):=fun n' st3 hB3 hp3 k1 k2 hs3=>by
      obtain⟨q1,q2⟩:=bV2 hs3 (by rw[hB3.size];omega)
      refine⟨((l9 st3).toList.drop lo).take n',(l9 st3).toList.drop (lo+n'),⟨hB3.perm,hB3.kind,hB3.failed,by rw[hB3.pend];exact I.sh,I.ok,?_⟩,q2,q1⟩
      rw[<- al9]
      refine(x9 lo (l9 st3).toList).symm.trans ?_
      congr 1
      rw[aQ5 hp3 (by rw[hB3.size,I.perm.size_eq]),I.arr,h1]
      exact List.take_left
    have more:∀ (rs:List (List Keyed)) (run suf':List Keyed) (n':Nat) (st3:SortSt),SR a₀ κ (Bf f) rs (run++suf') st3->rs.flatten.length=lo->run.length=n'->run.Pairwise (le (Bf f))->1<=n'->n'<=a₀.size - lo ->
        ∃ runs suf lo',((none,lo+n'):Option Unit × Nat)=(none,lo')/\SR a₀ κ (Bf f) runs suf (bF7 st3 ((B7 st3).push (lo,n',0)))/\lo'=runs.flatten.length/\(x+1<=lo'\/lo'=a₀.size)/\lo'<=a₀.size:=fun rs run suf' n' st3 I3 e1 e2 e3 k1 k2=>by
      refine⟨rs++[run],suf',lo+n',rfl,⟨I3.perm,I3.kind,I3.failed,?_,fun r hr=>?_,?_⟩,by simp[e1,e2],by omega,by omega⟩
      · show shape ((B7 st3).push (lo,n',0)).toList=_
        rw[V6,Z4,<- I3.sh]
        unfold shape
        rw[i9,F5,e1]
        simp[an7,e2]
      · rcases k7.mp hr with hr | hr
        · exact I3.ok r hr
        · rw[j6.mp hr]
          exact⟨by intro z;rw[z]at e2;simp at e2;omega,e3⟩
      · show (l9 st3).toList=_
        rw[I3.arr]
        simp
    by_cases hlt:n<minRun' a₀.size a₀.size 0
    all_goals first
      | (rw [if_pos hlt]
         refine j3 (aa7 ?_)
         refine j3 (au7 C d (by omega) (by omega) hB2 hs2 fun st3 hB3 hp3 hs3=>?_)
         simp only[Q8,l6,if_false]
         obtain⟨run,suf',I3,e2,e3⟩:=cont _ st3 hB3 (hp2.trans hp3) (by omega) (by omega) hs3
         have k1:1<=min (a₀.size - lo) (minRun' a₀.size a₀.size 0):=by omega
         have k2:min (a₀.size - lo) (minRun' a₀.size a₀.size 0)<=a₀.size - lo:=by omega
         revert e2 k1 k2
         generalize min (a₀.size - lo) (minRun' a₀.size a₀.size 0)=n'
         intro e2 k1 k2)
      | (rw [if_neg hlt]
         obtain⟨run,suf',I3,e2,e3⟩:=cont n st2 hB2 hp2 hn1 hn2 hs2
         have k1:1<=n:=hn1
         have k2:n<=a₀.size - lo:=hn2
         revert e2 k1 k2
         generalize n=n'
         intro e2 k1 k2)
    all_goals
      refine j3 (au5 ?_)
      split
      ·
        rename_i s1 n1 pw1 hback
        refine j3 (U2 (E5
          (I:=fun _ c st'=>c=(none,())/\∃ rs,SR a₀ κ (Bf f) rs (run++suf') st'/\rs.flatten.length=lo)
          (Q:=fun c st'=>c=(none,())/\∃ rs,SR a₀ κ (Bf f) rs (run++suf') st'/\rs.flatten.length=lo) ?mstep (fun _ _ q=>q) ⟨rfl,runs,I3,h1.symm⟩) ?mpost)
        case mstep =>
          rintro y c st4 _ _ ⟨rfl,rs,I4,e4⟩
          refine j3 (au5 ?_)
          try dsimp only
          by_cases hz:(B7 st4).size > 1
          · rw[if_pos hz]
            split
            · split
              · exact l5 ⟨rfl,rs,I4,e4⟩
              · refine j3 (as7 o C I4 (by rw[<- aS5 I4];omega) fun rs' st5 I5 _ e5=>?_)
                simp only[Q8,l6,if_false]
                exact l5 ⟨rfl,rs',I5,e5.trans e4⟩
            · exact l5 ⟨rfl,rs,I4,e4⟩
          · rw[if_neg hz]
            exact l5 ⟨rfl,rs,I4,e4⟩
        case mpost =>
          rintro c st4 ⟨rfl,rs,I4,e4⟩
          try dsimp only
          refine j3 (av5 ?_)
          have I5:SR a₀ κ (Bf f) rs (run++suf') (bF7 st4 ((B7 st4).modify ((B7 st4).size - 1) fun x=>match x with | (st,len,snd)=>(st,len,power' a₀.size (2*s1+n1) (2*s1+n1+n1+n') a₀.size))):=by
            refine⟨I4.perm,I4.kind,I4.failed,?_,I4.ok,I4.arr⟩
            rw[<- I4.sh]
            show shape ((B7 st4).modify _ _).toList=_
            rw[Array.toList_modify]
            unfold shape
            apply J9
            intro k
            rw[q8,q8,List.getElem?_modify]
            cases (B7 st4).toList[k]? with
            | none=>rfl
            | some v =>
              obtain⟨v1,v2,v3⟩:=v
              simp only[aa5]
              split<;>rfl
          exact j3 (av5 (l5 (more rs run suf' n' _ I5 e4 e2 e3 k1 k2)))
      · exact j3 (av5 (l5 (more runs run suf' n' _ I3 h1.symm e2 e3 k1 k2)))
  case post =>
    rintro c st1 ⟨runs,rfl,I⟩
    try dsimp only
    refine j3 (U2 (E5
      (I:=fun x c st'=>c=(none,())/\∃ rs,SR a₀ κ (Bf f) rs [] st'/\(rs.length+x<=a₀.size\/rs.length<=1))
      (Q:=fun c st'=>c=(none,())/\∃ rs,SR a₀ κ (Bf f) rs [] st'/\rs.length<=1) ?fstep ?ffin ⟨rfl,runs,I,.inl ?fst⟩) ?fpost)
    case fst =>
      have h1:=bh3 runs I.ok
      have hl:=congrArg ak3 I.arr
      rw[j8,I.perm.size_eq,B3]at hl
      omega
    case ffin =>
      rintro c st' ⟨rfl,rs,I',q⟩
      exact⟨rfl,rs,I',by omega⟩
    case fstep =>
      rintro x c st2 _ hx ⟨rfl,rs,I2,q⟩
      refine j3 (au5 ?_)
      try dsimp only
      have hpl:=aS5 I2
      by_cases hz:(B7 st2).size<=1
      · rw[if_pos hz]
        exact l5 ⟨rfl,rs,I2,by omega⟩
      rw[if_neg hz]
      refine j3 (as7 o C I2 ?_ fun rs' st3 I3 e3 _=>?_)
      · (repeat' split)<;>omega
      · simp only[Q8,l6,if_false]
        exact l5 ⟨rfl,rs',I3,by omega⟩
    case fpost =>
      rintro c st2 ⟨rfl,rs,I2,q⟩
      refine l5 (h st2 I2.perm I2.failed ?_)
      rw[I2.arr,B3]
      match rs,I2.ok,q with
      | [],_,_=>exact List.Pairwise.nil
      | [r],ok,_=>simpa using (ok r (by simp)).2
end
end Tim
namespace Tim
open PySem PyProof.Rows PySem.W
def J5:List Int->List Int->Bool
 | [],[]=>false
 | [],_::_=>true
 | _::_,[]=>false
 | a::x,b::y=>if a=b then J5 x y else decide (a<b)
theorem ag5:∀ x,J5 x x=false
 | []=>rfl
 | a::x=>by unfold J5;rw[if_pos rfl];exact ag5 x
theorem aL5:∀ x y z,J5 x y=true->J5 y z=true->J5 x z=true
 | [],[],z,h,_=>by cases h
 | [],_::_,[],_,h=>by cases h
 | [],_::_,_::_,_,_=>rfl
 | _::_,[],z,h,_=>by cases h
 | _::_,_::_,[],_,h=>by cases h
 | a::x,b::y,c::z,h1,h2=>by
  unfold J5 at h1 h2 ⊢
  by_cases e1:a=b
  ·subst e1
   rw[if_pos rfl]at h1
   by_cases e2:a=c
   ·rw[if_pos e2]at h2 ⊢
    exact aL5 x y z h1 h2
   ·rw[if_neg e2]at h2 ⊢
    exact h2
  ·rw[if_neg e1,decide_eq_true_eq]at h1
   by_cases e2:b=c
   ·subst e2
    rw[if_neg e1,decide_eq_true_eq]
    exact h1
   ·rw[if_neg e2,decide_eq_true_eq]at h2
    rw[if_neg (by omega),decide_eq_true_eq]
    omega
theorem aB2:∀ x y,J5 x y=false->J5 y x=false->x=y
 | [],[],_,_=>rfl
 | [],_::_,h,_=>by cases h
 | _::_,[],_,h=>by cases h
 | a::x,b::y,h1,h2=>by
  unfold J5 at h1 h2
  by_cases e:a=b
  ·subst e
   rw[if_pos rfl]at h1 h2
   rw[aB2 x y h1 h2]
  ·rw[if_neg e,decide_eq_false_iff_not]at h1
   rw[if_neg (Ne.symm e),decide_eq_false_iff_not]at h2
   omega
theorem bL3 (x y z:List Int)(h:J5 x z=true):J5 x y=true\/J5 y z=true:=by
 cases e1:J5 x y with
 | true=>exact .inl rfl
 | false =>
  cases e2:J5 y x with
  | true=>exact .inr (aL5 _ _ _ e2 h)
  | false=>rw[aB2 x y e1 e2]at h;exact .inr h
def bb7:aJ1:=⟨List Int,J5,ag5,aL5,bL3,aB2⟩
def IsK (prog:Program)(w:World)(h:Heap)(k:List Int)(v:Value):Prop:=∃ a,v=.ref a/\J4 (A1 prog w) h k a
theorem IsK.inj {k':List Int}{v:Value}(x:IsK prog w h k v)(y:IsK prog w h k' v):k=k':=by
 obtain⟨a,rfl,h1⟩:=x
 obtain⟨b,e,h2⟩:=y
 cases e
 exact h1.inj h2
open Classical in
noncomputable def S7 (prog:Program)(w:World)(h:Heap)(v:Value):List Int:=if q:∃ k,IsK prog w h k v then Classical.choose q else []
theorem R9 {v:Value}(x:IsK prog w h k v):S7 prog w h v=k:=by
 unfold S7
 rw[dif_pos ⟨k,x⟩]
 exact(Classical.choose_spec (⟨k,x⟩:∃ k,IsK prog w h k v)).inj x
theorem IsK.up {v:Value}(x:IsK prog w h k v)(hs:∀ b o,h.get? b=some o->h'.get? b=some o):IsK prog w h' k v:=by
 obtain⟨a,e,o,items,n,h2,h3⟩:=x
 exact⟨a,e,o,items,n,hs a o h2,h3⟩
theorem aG9 {b:Bool}{Q:Bool->Shared->Prop}(hb:b=true):∀ (x y:List Int) (vs us:List Value) (i:Nat) (fin:Bool),ItemsAre (A1 prog w) x vs->ItemsAre (A1 prog w) y us->(x.length<y.length↔fin=true)->Q (J5 x y) s->KatLex prog w A b fin Q (vs.zip us) i s
 | [],[],_,_,i,fin,.nil,.nil,hf,h=>by
  have:fin=false:=by cases fin with | false=>rfl | true=>exact absurd (hf.mpr rfl) (by simp)
  subst this
  exact kat_nil h
 | [],_::_,_,_,i,fin,.nil,.cons _ _,hf,h=>by
  have:fin=true:=hf.mp (by simp)
  subst this
  exact kat_nil h
 | _::_,[],_,_,i,fin,.cons _ _,.nil,hf,h=>by
  have:fin=false:=by cases fin with | false=>rfl | true=>exact absurd (hf.mpr rfl) (by simp)
  subst this
  exact kat_nil h
 | a::x,c::y,_,_,i,fin,.cons h1 t1,.cons h2 t2,hf,h=>by
  obtain⟨t,rfl⟩:=Value.isInt_shape h1
  obtain⟨u,rfl⟩:=Value.isInt_shape h2
  rw[aD6]
  refine kat_cons (wpAny_eqBool_int ?_)
  unfold J5 at h
  by_cases e:a=c
  ·subst e
   rw[if_pos rfl]at h
   rw[show (a == a)=true by simp]
   exact kat_yes (aG9 hb x y _ _ (i+1) fin t1 t2 (by rw[<- hf];simp) h)
  ·rw[if_neg e]at h
   rw[show (a == c)=false by simpa using e]
   refine kat_no ?_
   cases hi:(b && i == 0) with
   | true=>exact oneLt_int h
   | false=>exact kat_one _ _ (lt_int h)
theorem aU0 {x y:Value}{k':List Int}{Q:Bool->Shared->Prop}(hx:IsK prog w s.heap k x)(hy:IsK prog w s.heap k' y)(h:Q (J5 k k') s):p9 (p7 prog w) A (keyLt' (bG9 true) x y) Q E s:=by
 obtain⟨a,rfl,o,xs,n,ho,hc,hd,hi⟩:=hx
 obtain⟨b,rfl,o',ys,n',ho',hc',hd',hi'⟩:=hy
 refine kat_lt ho hd ho' hd' (aG9 rfl k k' _ _ 0 _ hi hi' ?_ h)
 have e1:k.length=xs.size:=by have:=hi.length;simpa using this
 have e2:k'.length=ys.size:=by have:=hi'.length;simpa using this
 rw[e1,e2]
 simp
theorem aB4 {Q:SortKind->Shared->Prop}(hne:0<vs.length)(hv:∀ v∈vs,∃ i k,IsK prog w s.heap (i::k) v)(h:Q (bG9 true) s):p9 (p7 prog w) A (keyKind' vs.toArray) Q E s:=by
 have ex:∀ l:List Value,(∀ v∈l,∃ i k,IsK prog w s.heap (i::k) v)->∃ fs:List Value,KatTups s.heap l fs/\fs.length=l.length/\∀ v∈fs,∃ i t,v=.int i t:=fun l=>by
  induction l with
  | nil=>intro _;exact⟨[],KatTups.nil,rfl,(fun _ h=>nomatch h)⟩
  | cons v l ih =>
   intro hl
   obtain⟨i,k,a,rfl,o,xs,n,ho,hc,hd,hi⟩:=hl v b9
   obtain⟨fs,f1,f2,f3⟩:=ih fun v hv=>hl v (b8 _ hv)
   obtain⟨f,hf,t,rfl⟩:∃ f,xs[0]?=some f/\∃ t,f=.int i t:=by
    cases e:xs.toList with
    | nil=>rw[e]at hi;cases hi
    | cons f r =>
     rw[e]at hi
     cases hi with
     | cons h1 _ =>
      obtain⟨t,et⟩:=Value.isInt_shape h1
      exact⟨f,by rw[<- c8,e];rfl,t,et⟩
   refine⟨.int i t::fs,KatTups.cons ho hc hd hf f1,by rw[a9,f2,a9],fun v hv=>?_⟩
   rcases d3.mp hv with rfl | hv
   ·exact⟨i,t,rfl⟩
   ·exact f3 v hv
 obtain⟨fs,f1,f2,f3⟩:=ex vs hv
 refine kat_kind (T:=.type "int") f1 (by omega) (fun v hv=>?_) (by decide) ?_
 ·obtain⟨i,t,rfl⟩:=f3 v hv
  exact .now
 ·exact h
theorem bo3 {P:PySem.Fin->Shared->Prop}(ho:s.heap.get? a=some (F7 "list" vs.toArray n))(hz:vs.length<=f6)
  (hv:∀ v∈vs,∃ i k,IsK prog w s.heap (i::k) v)(hna:∀ v∈vs,v≠.ref a)
  (h:∀ out:List Value,out.Perm vs->out.Pairwise (fun x y=>J5 (S7 prog w s.heap y) (S7 prog w s.heap x)=false)->P (.done (.ret .none)) { s with heap:=al1 s.heap a vs out.toArray }) :
  p9 (p7 prog w) A (Builtin.«list.sort» ⟨[.ref a],[]⟩) P E s:=by
 rw[list_sort_plain]
 have ha:a<s.heap.objs.size:=j4 ho
 refine a8 (bS3 ho rfl ?_)
 refine a8 (ac3 ho rfl ?_ (by rw[d8];exact hz) (o5 _))
 obtain⟨e1,ho1⟩:∃ e1,(s.heap.update a (Obj.mapSeq fun _=>#[])).get? a=some (F7 "list" #[] e1):=⟨_,W0 ho (fun _=>#[])⟩
 refine a8 (bn4 ho1 rfl ?_)
 refine a8 (wpAny_newTuple ?_ (by show vs.length<=_;exact hz))
 refine a8 (W1 ?_ (o5 _))
 refine M4 ?_
 generalize hH:((s.heap.update a (Obj.mapSeq fun _=>#[])).push (F7 "tuple" vs.toArray 0)).push (F7 "list" #[] 0)=h6
 have ho6:h6.get? a=some (F7 "list" #[] e1):=by rw[<- hH];exact a7 _ (a7 _ ho1)
 have keep:∀ b o,b≠a->s.heap.get? b=some o->h6.get? b=some o:=fun b o hb e=>by
  rw[<- hH]
  exact a7 _ (a7 _ ((K7 s.heap _ (Ne.symm hb)).trans e))
 have up:∀ v∈vs,∀ k,IsK prog w s.heap k v->IsK prog w h6 k v:=fun v hv' k hk=>by
  obtain⟨c,rfl,o,items,n,h2,h3⟩:=hk
  exact⟨c,rfl,o,items,n,keep c o (fun z=>hna _ hv' (by rw[z])) h2,h3⟩
 have fin:∀ st':SortSt,(l9 st').Perm (cc7 vs)->(l9 st').toList.Pairwise (le (Bf (O:=bb7) fun p=>S7 prog w s.heap p.1))->P (.done (.ret .none)) { s with heap:=al1 s.heap a vs ((l9 st').map (·.2)) }:=fun st' hp hs=>by
  have hl:(l9 st').toList.Perm (vs.zip vs):=by rw[<- pairsOf_toList];exact L1.mp hp
  have hm:((l9 st').map (·.2)).toList=(l9 st').toList.map (·.2):=ca8 ..
  have hz2:(vs.zip vs).map (·.2)=vs:=List.map_snd_zip (c5 _)
  have:=h ((l9 st').toList.map (·.2)) (by have:=hl.map (·.2);rw[hz2]at this;exact this) ?_
  ·rw[show (l9 st').map (·.2)=((l9 st').toList.map (·.2)).toArray by rw[<- hm]]
   exact this
  ·rw[G1]
   refine List.Pairwise.imp_of_mem ?_ hs
   intro x y hx hy hxy
   have ex:=(ai1 (hl.mem_iff.mp hx)).1
   have ey:=(ai1 (hl.mem_iff.mp hy)).1
   rw[<- ex,<- ey]
   exact hxy
 have out:∀ st':SortSt,(l9 st').Perm (cc7 vs)->M3 st'=none->(l9 st').toList.Pairwise (le (Bf (O:=bb7) fun p=>S7 prog w s.heap p.1)) ->
   p9 (p7 prog w) A (do
    let sorted:=(l9 st').map (·.2)
    let touched:=(<- seqEpoch a) != e1
    Builtin.List.listUpdate (.ref a) fun _=>sorted
    if let some e:=M3 st' then rule "list.sort.comparison-raised";throw e
    if touched then rule "list.sort.modified";raiseError "ValueError" "list modified during sort"
    ret .none) P E { s with heap:=h6 }:=fun st' hp hf hs=>by
  dsimp only
  refine a8 (bn4 (s:={ s with heap:=h6 }) ho6 rfl ?_)
  refine a8 (ac3 (s:={ s with heap:=h6 }) ho6 rfl ?_ (o5 _) (by refine p8 (af5 ((ae7 ..).trans (hp.size_eq.trans (pairsOf_size _)))) ?_;omega))
  rw[hf]
  simp only[bne_self_eq_false,l6,if_false]
  refine j9 ?_
  have:=fin st' hp hs
  unfold al1 at this
  rw[hH]at this
  exact this
 show p9 (p7 prog w) A _ P E { s with heap:=h6 }
 dsimp only
 by_cases h2:vs.toArray.size<2
 ·rw[if_pos h2,if_pos h2]
  refine a8 (j9 ?_)
  rw[StateT.run_pure]
  refine a8 (j9 ?_)
  refine out (SortSt.mk' general' (vs.toArray.zip vs.toArray) #[] 7 none) (Array.Perm.refl _) rfl ?_
  show (cc7 vs).toList.Pairwise _
  rw[t9]
  intro i j hi hj hij
  rw[j8,pairsOf_size]at hj
  rw[d8]at h2
  omega
 ·rw[if_neg h2,if_neg h2]
  rw[d8]at h2
  refine a8 (aB4 (s:={ s with heap:=h6 }) (by omega) (fun v hv'=>?_) ?_)
  ·obtain⟨i,k,hk⟩:=hv v hv'
   exact⟨i,k,up v hv' _ hk⟩
  refine a8 (E6 (as6 (s:={ s with heap:=h6 }) (a₀:=cc7 vs) (κ:=bG9 true) (O:=bb7) (f:=fun p=>S7 prog w s.heap p.1) (st:=SortSt.mk' (bG9 true) (vs.toArray.zip vs.toArray) #[] 7 none)
   (Q:=fun _ st'=>(l9 st').Perm (cc7 vs)/\M3 st'=none/\(l9 st').toList.Pairwise (le (Bf (O:=bb7) fun p=>S7 prog w s.heap p.1))) ?_ ([]:List Int) (Array.Perm.refl _) rfl rfl rfl fun st' a1 a2 a3=>⟨a1,a2,a3⟩) ?_ fun _ _ e=>e)
  ·intro x y hx hy Q hq
   rw[pairsOf_toList]at hx hy
   obtain⟨i,k,hk⟩:=hv x.1 (ai1 hx).2
   obtain⟨j,k',hk'⟩:=hv y.1 (ai1 hy).2
   refine aU0 (s:={ s with heap:=h6 }) (up _ (ai1 hx).2 _ hk) (up _ (ai1 hy).2 _ hk') ?_
   rw[<- R9 hk,<- R9 hk']
   exact hq
  ·rintro⟨⟨⟩,st'⟩ s' ⟨rfl,hp,hf,hs⟩
   exact out st' hp hf hs
theorem aE5 (hl:s.heap.IsList l vs.toArray) (hz:vs.length<=f6) (hv:∀ v∈vs,∃ i k,IsK prog w s.heap (i::k) v)
  (h : ∀ (out : List Value) (h' : Heap) (n : Nat), out.Perm vs -> out.Pairwise (fun x y => J5 (S7 prog w s.heap y) (S7 prog w s.heap x) = false) -> (∀ b o, s.heap.get? b = some o -> h'.get? b = some o) ->
   h'.get? (s.heap.objs.size+1)=some { cls:=.type "list",data:=.seq out.toArray n }->Q (.ref (s.heap.objs.size+1)) { s with heap:=h' }) :
  p9 (p7 prog w) A (call (.builtin "sorted") [.ref l]) Q E s:=by
 refine Calls.call_function_entry cc8 bS4 bS5 (args_sorted1 _) ?_
 unfold Builtin.«sorted»
 refine a8 (m:=checkCount "sorted" 1 1 _) (j9 ?_)
 refine a8 (collect_list hl ?_ hz)
 refine a8 (W1 ?_ hz)
 have hsz:((s.heap.push (F7 "list" #[] 0)).update s.heap.objs.size (Obj.mapSeq (·++vs.toArray))).objs.size=s.heap.objs.size+1:=by
  rw[cb6,bF8]
 generalize hH:((s.heap.push (F7 "list" #[] 0)).update s.heap.objs.size (Obj.mapSeq (·++vs.toArray))).push (F7 "list" vs.toArray 0)=h2
 have hoL:h2.get? (s.heap.objs.size+1)=some (F7 "list" vs.toArray 0):=by
  rw[<- hH,<- hsz];exact m7 _ rfl
 have keep:∀ b o,s.heap.get? b=some o->h2.get? b=some o:=fun b o e=>by
  rw[<- hH]
  refine a7 _ ((K7 _ _ ?_).trans (a7 _ e))
  exact Ne.symm (m8 (j4 e))
 have hsz2:h2.objs.size=s.heap.objs.size+2:=by rw[<- hH,bF8,hsz]
 rw[hsz]
 have up:∀ v k,IsK prog w s.heap k v->IsK prog w h2 k v:=fun v k hk=>hk.up keep
 have kA:∀ v∈vs,S7 prog w h2 v=S7 prog w s.heap v:=fun v hv'=>by
  obtain⟨i,k,hk⟩:=hv v hv'
  rw[R9 hk,R9 (up v _ hk)]
 refine a8 (M4 (aY7 bt3 (s:={ s with heap:=h2 }) ⟨_,hoL,rfl⟩ bn5 (bo3 (s:={ s with heap:=h2 }) hoL hz (fun v hv'=>?_) (fun v hv' z=>?_) fun out a1 a2=>⟨_,rfl,?_⟩) (args_list_sort _)))
 ·obtain⟨i,k,hk⟩:=hv v hv'
  exact⟨i,k,up v _ hk⟩
 ·obtain⟨i,k,a,rfl,o,items,n,ho,_⟩:=hv v hv'
  cases z
  exact absurd (j4 ho) (Nat.not_lt.mpr (W8 _))
 ·have hlast:∃ n,(al1 h2 (s.heap.objs.size+1) vs out.toArray).get? (s.heap.objs.size+1)=some (F7 "list" out.toArray n):=by
   unfold al1
   have g1:=W0 hoL (fun _=>(#[]:Array Value))
   have g2:(((h2.update (s.heap.objs.size+1) (Obj.mapSeq fun _=>#[])).push (F7 "tuple" vs.toArray 0)).push (F7 "list" #[] 0)).get? (s.heap.objs.size+1)=_:=a7 _ (a7 _ g1)
   exact⟨_,W0 g2 (fun _=>out.toArray)⟩
  obtain⟨n,hn⟩:=hlast
  refine j9 ⟨_,rfl,h out _ n a1 ?_ (fun b o e=>?_) hn⟩
  ·refine List.Pairwise.imp_of_mem ?_ a2
   intro x y hx hy hxy
   rw[kA x (a1.mem_iff.mp hx),kA y (a1.mem_iff.mp hy)]at hxy
   exact hxy
  ·have hb:b≠s.heap.objs.size+1:=m8 (G4 (j4 e))
   unfold al1
   refine(K7 _ _ (Ne.symm hb)).trans (a7 _ (a7 _ ((K7 _ _ (Ne.symm hb)).trans (keep b o e))))
end Tim
namespace Sett
open PySem PySem.SetTable
theorem bd6 {P:Nat->Prop}(h:∃ n,P n):∃ n,P n/\∀ m,m<n->¬ P m:=by
 obtain⟨n,hn⟩:=h
 induction n using Nat.strongRecOn with
 | ind n ih =>
  by_cases q:∃ m,m<n/\P m
  ·obtain⟨m,hm,pm⟩:=q
   exact ih m hm pm
  ·exact⟨n,hn,fun m hm pm=>q ⟨m,hm,pm⟩⟩
def st (m i pt:Nat):Probe:={ j:=i,more:=runEnd m i - i,i:=i,perturb:=pt,dummy:=none }
def it (t:SetTable):Nat->Probe->Probe
 | 0,p=>p
 | n+1,p=>it t n (t.advance p)
theorem aM3 (t:SetTable):∀ (a b:Nat) (p:Probe),it t (a+b) p=it t b (it t a p)
 | 0,b,p=>by rw[F5];rfl
 | a+1,b,p=>by
  rw[show a+1+b=(a+b)+1 by omega]
  exact aM3 t a b (t.advance p)
theorem aj2 (t:SetTable)(n:Nat)(p:Probe):it t (n+1) p=t.advance (it t n p):=aM3 t n 1 p
theorem aq1 (m i:Nat):i<=runEnd m i/\runEnd m i<=i+9:=by unfold runEnd;split<;>omega
theorem aS0 {m:Nat}(h:i<=m):runEnd m i<=m:=by unfold runEnd;split<;>omega
theorem aM1 (t:SetTable)(i pt:Nat):∀ k,k<=runEnd t.mask i - i->it t k (st t.mask i pt)={ j:=i+k,more:=runEnd t.mask i - i - k,i:=i,perturb:=pt,dummy:=none }
 | 0,_=>rfl
 | k+1,h=>by
  rw[aj2,aM1 t i pt k (by omega)]
  unfold advance
  dsimp only
  rw[if_pos (by omega)]
  simp only[Probe.mk.injEq,and_true,true_and]
  omega
theorem aM2 (t:SetTable)(i pt:Nat):it t (runEnd t.mask i - i+1) (st t.mask i pt)=st t.mask (leap t.mask i pt).1 (leap t.mask i pt).2:=by
 rw[aj2,aM1 t i pt _ (c5 _)]
 unfold advance
 dsimp only
 rw[if_neg (by omega)]
 rfl
def rn (m i pt:Nat):Nat->Nat × Nat
 | 0=>(i,pt)
 | r+1=>leap m (rn m i pt r).1 (rn m i pt r).2
theorem bQ2 (m i pt:Nat):∀ r,(rn m i pt r).2=pt / 32 ^ r
 | 0=>by simp[rn]
 | r+1=>by
  show (rn m i pt r).2 / 32=_
  rw[bQ2 m i pt r,bF1,Nat.pow_succ]
theorem bQ3 (m i pt:Nat)(h:i<=m):∀ r,(rn m i pt r).1<=m
 | 0=>h
 | r+1=>aj7 (cb7 _ (af6 m))
theorem bQ9 (t:SetTable)(i pt:Nat):∀ r,∃ n,n<=10*r/\it t n (st t.mask i pt)=st t.mask (rn t.mask i pt r).1 (rn t.mask i pt r).2
 | 0=>⟨0,c5 _,rfl⟩
 | r+1=>by
  obtain⟨n,hn,e⟩:=bQ9 t i pt r
  have h9:=aq1 t.mask (rn t.mask i pt r).1
  refine⟨n+(runEnd t.mask (rn t.mask i pt r).1 - (rn t.mask i pt r).1+1),by omega,?_⟩
  rw[aM3,e,aM2]
  rfl
def f5 (m i:Nat):Nat:=(i*5+1) % (m+1)
def orb (m:Nat):Nat->Nat->List Nat
 | 0,_=>[]
 | k+1,i=>i::orb m k (f5 m i)
def Full (m:Nat):Prop:=∀ b,b<=m->∀ a,a<=m->∃ n,n<=m/\Nat.repeat (f5 m) n a=b
def chk (m:Nat):Bool:=(orb m (m+1) 0).foldl (fun acc i=>acc ||| 2 ^ i) 0 == 2 ^ (m+1) - 1
theorem aX6:∀ (l:List Nat) (acc b:Nat),(l.foldl (fun acc i=>acc ||| 2 ^ i) acc).testBit b=true->acc.testBit b=true\/b∈l
 | [],acc,b,h=>.inl h
 | i::l,acc,b,h=>by
  rcases aX6 l _ b h with q | q
  ·rw[Nat.testBit_or,Bool.or_eq_true]at q
   rcases q with q | q
   ·exact .inl q
   ·rw[bR6]at q
    exact .inr (by rw[of_decide_eq_true q];exact b9)
  ·exact .inr (b8 _ q)
theorem an1 (f:Nat->Nat)(a:Nat):∀ n k,Nat.repeat f (n+k) a=Nat.repeat f k (Nat.repeat f n a)
 | n,0=>rfl
 | n,k+1=>by
  show f (Nat.repeat f (n+k) a)=f (Nat.repeat f k (Nat.repeat f n a))
  rw[an1 f a n k]
theorem bi2 (m:Nat):∀ k i x,x∈orb m k i->∃ n,n<k/\Nat.repeat (f5 m) n i=x
 | 0,i,x,h=>by cases h
 | k+1,i,x,h=>by
  rcases d3.mp h with rfl | h
  ·exact⟨0,af6 _,rfl⟩
  ·obtain⟨n,hn,e⟩:=bi2 m k (f5 m i) x h
   refine⟨n+1,by omega,?_⟩
   rw[Nat.add_comm n 1,an1]
   exact e
theorem aw8 {m:Nat}(hc:chk m=true)(hz:Nat.repeat (f5 m) (m+1) 0=0):Full m:=by
 intro b hb a ha
 unfold chk at hc
 have hc:=eq_of_beq hc
 have get:∀ x,x<=m->∃ n,n<m+1/\Nat.repeat (f5 m) n 0=x:=fun x hx=>by
  have hb:(2 ^ (m+1) - 1).testBit x=true:=by rw[Nat.testBit_two_pow_sub_one];exact decide_eq_true (by omega)
  rw[<- hc]at hb
  rcases aX6 _ _ _ hb with q | q
  ·simp at q
  ·exact bi2 m (m+1) 0 x q
 obtain⟨p,hp,ep⟩:=get a ha
 obtain⟨q,hq,eq⟩:=get b hb
 by_cases h:p<=q
 ·refine⟨q - p,by omega,?_⟩
  rw[<- ep,<- an1,show p+(q - p)=q by omega,eq]
 ·refine⟨m+1 - p+q,by omega,?_⟩
  rw[<- ep,<- an1,show p+(m+1 - p+q)=(m+1)+q by omega,an1,hz,eq]
def Good (m:Nat):Prop:=m=7\/m=31\/m=127\/m=511
set_option maxRecDepth 100000 in
theorem Good.full {m:Nat}(h:Good m):Full m:=by
 rcases h with rfl | rfl | rfl | rfl
 ·exact aw8 (by decide +kernel) (by decide +kernel)
 ·exact aw8 (by decide +kernel) (by decide +kernel)
 ·exact aw8 (by decide +kernel) (by decide +kernel)
 ·exact aw8 (by decide +kernel) (by decide +kernel)
theorem bh6 (m i pt:Nat)(hp:pt<2 ^ 64):∀ k,(rn m i pt (13+k)).1=Nat.repeat (f5 m) k (rn m i pt 13).1
 | 0=>rfl
 | k+1=>by
  show (leap m (rn m i pt (13+k)).1 (rn m i pt (13+k)).2).1=f5 m (Nat.repeat (f5 m) k (rn m i pt 13).1)
  rw[<- bh6 m i pt hp k]
  unfold leap f5
  have:(rn m i pt (13+k)).2 / 32=0:=by
   rw[bQ2,Nat.pow_add,<- bF1]
   have:pt / 32 ^ 13=0:=Nat.div_eq_of_lt (bG1 hp (by decide))
   rw[this]
   simp
  dsimp only
  rw[this,ap1]
theorem bh7 {m pt b:Nat}(g:Good m)(hi:i<=m)(hp:pt<2 ^ 64)(hb:b<=m):∃ r,r<turns m/\(rn m i pt r).1=b:=by
 obtain⟨n,hn,e⟩:=g.full b hb (rn m i pt 13).1 (bQ3 m i pt hi 13)
 exact⟨13+n,by unfold turns;omega,by rw[bh6 m i pt hp];exact e⟩
theorem bL9 (t:SetTable){pt b:Nat}(g:Good t.mask)(hi:i<=t.mask)(hp:pt<2 ^ 64)(hb:b<=t.mask):∃ n,n<10*turns t.mask/\(it t n (st t.mask i pt)).j=b:=by
 obtain⟨r,hr,e⟩:=bh7 g hi hp hb
 obtain⟨n,hn,e'⟩:=bQ9 t i pt r
 refine⟨n,by omega,?_⟩
 rw[e']
 exact e
theorem aU7 (t:SetTable):∀ (n:Nat) (p:Probe),(it t n p).dummy=p.dummy
 | 0,p=>rfl
 | n+1,p=>by
  show (it t n (t.advance p)).dummy=_
  rw[aU7 t n]
  unfold advance
  split<;>rfl
theorem bl7 (h:Int):bits h<2 ^ 64:=by
 unfold bits
 have h1:=ap2 h (show (2 ^ 64:Int)≠0 by decide)
 have h2:=af7 h (show (0:Int)<2 ^ 64 by decide)
 omega
theorem ag1 (t:SetTable)(h:Int):t.probeStart h=st t.mask (bits h % (t.mask+1)) (bits h):=rfl
theorem aw6 {t t':SetTable}(h:t'.mask=t.mask):∀ (n:Nat) (p:Probe),it t' n p=it t n p
 | 0,p=>rfl
 | n+1,p=>by
  show it t' n (t'.advance p)=it t n (t.advance p)
  have:t'.advance p=t.advance p:=by unfold advance;rw[h]
  rw[this,aw6 h n]
def Asc (xs:Array Nat):Prop:=∀ (i j a b:Nat),i<j->xs[i]?=some a->xs[j]?=some b->a<b
theorem aD1 {xs:Array Nat}(asc:Asc xs)(j:Nat):∀ (fuel lo hi:Nat),hi - lo<=fuel->lo<=hi->hi<=xs.size->(∀ i a,i<lo->xs[i]?=some a->a<j)->(∀ i a,hi<=i->xs[i]?=some a->j<=a) ->
  (below.go xs j fuel lo hi)<=xs.size/\(∀ i a,i<below.go xs j fuel lo hi->xs[i]?=some a->a<j)/\(∀ i a,below.go xs j fuel lo hi<=i->xs[i]?=some a->j<=a)
 | 0,lo,hi,h0,h1,h2,h3,h4=>by
  have:lo=hi:=by omega
  subst this
  exact⟨h2,h3,h4⟩
 | fuel+1,lo,hi,h0,h1,h2,h3,h4=>by
  unfold below.go
  by_cases hlt:lo<hi
  ·rw[if_pos hlt]
   dsimp only
   have hm:(lo+hi) / 2<xs.size:=by omega
   have hg:xs.getD ((lo+hi) / 2) j=xs[(lo+hi) / 2]:=by simp[bR7,hm]
   have hq:xs[(lo+hi) / 2]?=some xs[(lo+hi) / 2]:=getElem?_pos xs _ hm
   by_cases hc:xs.getD ((lo+hi) / 2) j<j
   ·rw[if_pos hc]
    refine aD1 asc j fuel _ hi (by omega) (by omega) h2 (fun i a hi' e=>?_) h4
    rw[hg]at hc
    by_cases he:i=(lo+hi) / 2
    ·subst he;rw[hq]at e;cases e;exact hc
    ·have:=asc i _ a _ (by omega) e hq
     omega
   ·rw[if_neg hc]
    refine aD1 asc j fuel lo _ (by omega) (by omega) (by omega) h3 (fun i a hi' e=>?_)
    rw[hg]at hc
    by_cases he:i=(lo+hi) / 2
    ·subst he;rw[hq]at e;cases e;omega
    ·have:=asc _ i _ a (by omega) hq e
     omega
  ·rw[if_neg hlt]
   have:lo=hi:=by omega
   subst this
   exact⟨h2,h3,h4⟩
theorem aD0 {xs:Array Nat}(asc:Asc xs)(j:Nat):below xs j<=xs.size/\(∀ i a,i<below xs j->xs[i]?=some a->a<j)/\(∀ i a,below xs j<=i->xs[i]?=some a->j<=a):=
 aD1 asc j xs.size 0 xs.size (by omega) (by omega) (c5 _) (fun i a h=>by omega) fun i a h e=>by
  have:=(getElem?_eq_some_iff.mp e).1
  omega
theorem below_at {xs:Array Nat}(asc:Asc xs)(h:xs[i]?=some j):below xs j=i:=by
 obtain⟨h1,h2,h3⟩:=aD0 asc j
 rcases aj8 (below xs j) i with q | q | q
 ·exfalso
  have hlt:below xs j<xs.size:=bG1 q (getElem?_eq_some_iff.mp h).1
  have e:=getElem?_pos xs (below xs j) hlt
  have a1:=h3 (below xs j) _ (c5 _) e
  have a2:=asc _ _ _ _ q e h
  omega
 ·exact q
 ·have:=h2 i j q h
  omega
theorem ap5 {t:SetTable}(asc:Asc t.place)(h:t.place[i]?=some j):t.slot j=.live i:=by
 unfold slot
 dsimp only
 rw[below_at asc h,h]
 simp
theorem ba2 {t:SetTable}(hd:t.dummies=#[])(h:∀ i:Nat,t.place[i]?≠some j):t.slot j=.empty:=by
 unfold slot
 dsimp only
 rw[if_neg (by simpa using h _),if_neg (by rw[hd];simp[has])]
theorem aV4 {t:SetTable}{hashAt:Nat->Int}{h:Int}:∀ (n fuel:Nat) (p:Probe),n<fuel->(∀ k,k<n->∃ i,t.slot (it t k p).j=.live i/\hashAt i≠h)->t.slot (it t n p).j=.empty ->
  probe.go t hashAt h fuel p=some (.empty (it t n p).j (it t n p).dummy)
 | 0,fuel+1,p,_,_,he=>by
  unfold probe.go
  have he':t.slot p.j=.empty:=he
  rw[he']
  rfl
 | n+1,fuel+1,p,hl,hk,he=>by
  obtain⟨i,e,hne⟩:=hk 0 (af6 _)
  have e':t.slot p.j=.live i:=e
  unfold probe.go
  rw[e']
  dsimp only
  rw[if_neg (by simpa using hne)]
  exact aV4 n fuel (t.advance p) (by omega) (fun k hk'=>hk (k+1) (by omega)) he
theorem bk3 {t:SetTable}{hashAt:Nat->Int}{h:Int}:∀ (n fuel:Nat) (p:Probe),n<fuel->(∀ k,k<n->∃ i,t.slot (it t k p).j=.live i/\hashAt i≠h)->t.slot (it t n p).j=.live i->hashAt i=h ->
  ∃ q,probe.go t hashAt h fuel p=some (.candidate (it t n p).j i q)
 | 0,fuel+1,p,_,_,he,hh=>by
  unfold probe.go
  have he':t.slot p.j=.live i:=he
  rw[he']
  dsimp only
  rw[if_pos (by simpa using hh)]
  exact⟨_,rfl⟩
 | n+1,fuel+1,p,hl,hk,he,hh=>by
  obtain⟨i',e,hne⟩:=hk 0 (af6 _)
  have e':t.slot p.j=.live i':=e
  unfold probe.go
  rw[e']
  dsimp only
  rw[if_neg (by simpa using hne)]
  exact bk3 n fuel (t.advance p) (by omega) (fun k hk'=>hk (k+1) (by omega)) he hh
abbrev En:=Int × Value
structure Tb (t:SetTable) (es:Array En):Prop where
 dum:t.dummies=#[]
 len:t.place.size=es.size
 asc:Asc t.place
 bnd:∀ (i j:Nat),t.place[i]?=some j->j<=t.mask
 good:Good t.mask
 nf:es.size*5<t.mask*3
 path:∀ (i:Nat) (e:En),es[i]?=some e->∃ n,n<10*turns t.mask/\t.place[i]?=some (it t n (t.probeStart e.1)).j/\∀ k,k<n->∃ i':Nat,t.place[i']?=some (it t k (t.probeStart e.1)).j
theorem bD8 {xs:Array Nat}(asc:Asc xs):∀ (i a:Nat),xs[i]?=some a->i<=a
 | 0,a,_=>o5 _
 | i+1,a,h=>by
  have hi:i+1<xs.size:=(getElem?_eq_some_iff.mp h).1
  have e:=getElem?_pos xs i (by omega)
  have h1:=bD8 asc i _ e
  have h2:=asc i (i+1) _ a (by omega) e h
  omega
theorem br3 {xs:Array Nat}(asc:Asc xs){m:Nat}(h:xs.size<=m):∃ b,b<=m/\∀ i:Nat,xs[i]?≠some b:=by
 by_cases q:∃ i,i<xs.size/\xs[i]?≠some i
 ·obtain⟨i,⟨hi,hne⟩,hmin⟩:=bd6 q
  refine⟨i,by omega,fun k e=>?_⟩
  have hk:=bD8 asc k i e
  rcases G9 hk with hlt | rfl
  ·have ek:xs[k]?=some k:=Classical.byContradiction fun z=>hmin k hlt ⟨by omega,z⟩
   rw[ek]at e
   cases e
   omega
  ·exact hne e
 ·refine⟨xs.size,h,fun k e=>?_⟩
  have hk:k<xs.size:=(getElem?_eq_some_iff.mp e).1
  have ek:xs[k]?=some k:=Classical.byContradiction fun z=>q ⟨k,hk,z⟩
  rw[ek]at e
  cases e
  omega
theorem Tb.small {t:SetTable}{es:Array En}(T:Tb t es):es.size<=t.mask:=by
 have:=T.nf
 omega
theorem Tb.fits {t:SetTable}{es:Array En}(T:Tb t es):t.fits es.size=true:=by
 unfold SetTable.fits fill
 rw[T.dum,T.len]
 have:=T.small
 simp
 exact this
theorem Tb.odd {t:SetTable}{es:Array En}(T:Tb t es):t.gaveWay=false:=by
 unfold gaveWay
 rcases T.good with e | e | e | e<;>rw[e]<;>rfl
def hashOf (es:Array En)(i:Nat):Int:=(es[i]?.map (·.1)).getD 0
theorem Z6 {es:Array En}{e:En}(h:es[i]?=some e):hashOf es i=e.1:=by unfold hashOf;rw[h];rfl
theorem ag0 (t:SetTable)(h:Int):bits h % (t.mask+1)<=t.mask:=aj7 (cb7 _ (af6 _))
theorem Tb.absent {t:SetTable}{es:Array En}(T:Tb t es){h:Int}(hh:∀ e∈es.toList,e.1≠h):∃ n,n<10*turns t.mask/\(∀ i:Nat,t.place[i]?≠some (it t n (t.probeStart h)).j)/\(it t n (t.probeStart h)).j<=t.mask /\
  (∀ k,k<n->∃ i':Nat,t.place[i']?=some (it t k (t.probeStart h)).j)/\t.probe (hashOf es) h (t.probeStart h)=some (.empty (it t n (t.probeStart h)).j none):=by
 obtain⟨b,hb,hfree⟩:=br3 T.asc (m:=t.mask) (by rw[T.len];exact T.small)
 obtain⟨n0,hn0,e0⟩:=bL9 t T.good (ag0 t h) (bl7 h) hb
 rw[<- ag1]at e0
 obtain⟨n,⟨hfr,hn,hle⟩,hmin⟩:=bd6 (P:=fun n=>(∀ i:Nat,t.place[i]?≠some (it t n (t.probeStart h)).j)/\n<=n0/\(it t n (t.probeStart h)).j<=t.mask) ⟨n0,by rw[e0];exact hfree,c5 _,by rw[e0];exact hb⟩
 have hocc:∀ k,k<n->∃ i':Nat,t.place[i']?=some (it t k (t.probeStart h)).j:=fun k hk=>Classical.byContradiction fun z=>by
  have hk':∀ i:Nat,t.place[i]?≠some (it t k (t.probeStart h)).j:=fun i e=>z ⟨i,e⟩
  by_cases hkm:(it t k (t.probeStart h)).j<=t.mask
  ·exact hmin k hk ⟨hk',by omega,hkm⟩
  ·-- every place on the way is a slot
   exact hkm (by
    clear z hk' hkm hmin hfr hle hn hk
    rw[ag1]
    induction k with
    | zero=>exact ag0 t h
    | succ k ih =>
     have key:∀ k,∃ r c,c<=runEnd t.mask (rn t.mask (bits h % (t.mask+1)) (bits h) r).1 - (rn t.mask (bits h % (t.mask+1)) (bits h) r).1 /\
       it t k (st t.mask (bits h % (t.mask+1)) (bits h))=it t c (st t.mask (rn t.mask (bits h % (t.mask+1)) (bits h) r).1 (rn t.mask (bits h % (t.mask+1)) (bits h) r).2):=fun k=>by
      induction k with
      | zero=>exact⟨0,0,o5 _,rfl⟩
      | succ k ih =>
       obtain⟨r,c,hc,e⟩:=ih
       rcases G9 hc with hlt | heq
       ·exact⟨r,c+1,hlt,by rw[aj2,e,<- aj2]⟩
       ·refine⟨r+1,0,o5 _,?_⟩
        rw[aj2,e,<- aj2,heq,aM2]
        rfl
     obtain⟨r,c,hc,e⟩:=key (k+1)
     rw[e,aM1 t _ _ c hc]
     have h1:=bQ3 t.mask (bits h % (t.mask+1)) (bits h) (ag0 t h) r
     have h2:=aS0 h1
     have h3:=aq1 t.mask (rn t.mask (bits h % (t.mask+1)) (bits h) r).1
     show (rn t.mask (bits h % (t.mask+1)) (bits h) r).1+c<=t.mask
     omega)
 refine⟨n,by omega,hfr,hle,hocc,?_⟩
 unfold probe
 have:=aV4 (hashAt:=hashOf es) (h:=h) n (10*turns t.mask) (t.probeStart h) (by omega) (fun k hk=>?_) (ba2 T.dum hfr)
 ·rw[this,aU7]
  rfl
 ·obtain⟨i',e⟩:=hocc k hk
  refine⟨i',ap5 T.asc e,?_⟩
  have hi:i'<es.size:=by rw[<- T.len];exact(getElem?_eq_some_iff.mp e).1
  have e2:=getElem?_pos es i' hi
  rw[Z6 e2]
  exact hh _ (by simp)
theorem Tb.present {t:SetTable}{es:Array En}(T:Tb t es){e:En}(he:es[i]?=some e)(hu:∀ (k:Nat) (e':En),es[k]?=some e'->e'.1=e.1->k=i):∃ j q,t.probe (hashOf es) e.1 (t.probeStart e.1)=some (.candidate j i q):=by
 obtain⟨n,hn,hp,hocc⟩:=T.path i e he
 unfold probe
 obtain⟨m,⟨hm,i1,hi1,hs1⟩,hmin⟩:=bd6 (P:=fun m=>m<=n/\∃ i1:Nat,t.place[i1]?=some (it t m (t.probeStart e.1)).j/\hashOf es i1=e.1) ⟨n,c5 _,i,hp,Z6 he⟩
 have hi2:i1<es.size:=by rw[<- T.len];exact(getElem?_eq_some_iff.mp hi1).1
 have e2:=getElem?_pos es i1 hi2
 rw[Z6 e2]at hs1
 have hii:i1=i:=hu i1 _ e2 hs1
 subst hii
 obtain⟨q,hq⟩:=bk3 (hashAt:=hashOf es) (h:=e.1) (i:=i1) m (10*turns t.mask) (t.probeStart e.1) (by omega) (fun k hk=>by
  obtain⟨i',e3⟩:=hocc k (by omega)
  exact⟨i',ap5 T.asc e3,fun z=>hmin k hk ⟨by omega,i',e3,z⟩⟩) (ap5 T.asc hi1) (Z6 he)
 exact⟨_,q,hq⟩
theorem get_ins {α:Type}{xs:Array α}{x:α}(hp:p<=xs.size)(i:Nat):(insertAt xs p x)[i]?=if i<p then xs[i]? else if i=p then some x else xs[i - 1]?:=by
 unfold insertAt
 have e0:((xs.extract 0 p).push x).size=p+1:=by rw[A0,F2];omega
 by_cases h1:i<p
 ·rw[if_pos h1,aY2 (by omega),Array.getElem?_push_lt (by rw[F2];omega)]
  rw[Array.getElem_extract]
  simp only[F5]
  exact(getElem?_pos xs i (by omega)).symm
 ·rw[if_neg h1]
  by_cases h2:i=p
  ·subst h2
   rw[if_pos rfl,aY2 (by omega)]
   have e1:(xs.extract 0 i).size=i:=by rw[F2];omega
   rw[Array.getElem?_push,e1,if_pos rfl]
  ·rw[if_neg h2,Array.getElem?_append_right (by omega),e0,Array.getElem?_extract]
   split
   ·congr 1;omega
   ·rw[getElem?_neg]
    omega
theorem am7 {α:Type}{xs:Array α}{x:α}(hp:p<=xs.size):(insertAt xs p x).size=xs.size+1:=by
 unfold insertAt
 rw[F8,A0,F2,F2]
 omega
theorem bL2 {α:Type}{xs:Array α}{x:α}(hp:p<=xs.size)(y:α):y∈(insertAt xs p x).toList↔y=x\/y∈xs.toList:=by
 constructor
 ·intro h
  obtain⟨i,hi⟩:=o4.mp h
  rw[c8,get_ins hp]at hi
  split at hi
  ·exact .inr (d5 (by rw[c8];exact hi))
  ·split at hi
   ·cases hi;exact .inl rfl
   ·exact .inr (d5 (by rw[c8];exact hi))
 ·rintro(rfl | h)
  ·exact d5 (i:=p) (by rw[c8,get_ins hp,if_neg (G5 _),if_pos rfl])
  ·obtain⟨i,hi⟩:=o4.mp h
   rw[c8]at hi
   have hi':i<xs.size:=(getElem?_eq_some_iff.mp hi).1
   by_cases q:i<p
   ·exact d5 (i:=i) (by rw[c8,get_ins hp,if_pos q];exact hi)
   ·exact d5 (i:=i+1) (by rw[c8,get_ins hp,if_neg (by omega),if_neg (by omega)];simpa using hi)
structure Tb' (t:SetTable) (es:Array En):Prop where
 dum:t.dummies=#[]
 len:t.place.size=es.size
 asc:Asc t.place
 bnd:∀ (i j:Nat),t.place[i]?=some j->j<=t.mask
 good:Good t.mask
 fil:es.size<=t.mask
 path:∀ (i:Nat) (e:En),es[i]?=some e->∃ n,n<10*turns t.mask/\t.place[i]?=some (it t n (t.probeStart e.1)).j/\∀ k,k<n->∃ i':Nat,t.place[i']?=some (it t k (t.probeStart e.1)).j
theorem Tb'.full {t:SetTable}{es:Array En}(T:Tb' t es)(h:es.size*5<t.mask*3):Tb t es:=⟨T.dum,T.len,T.asc,T.bnd,T.good,h,T.path⟩
theorem Tb'.fits {t:SetTable}{es:Array En}(T:Tb' t es):t.fits es.size=true:=by
 unfold SetTable.fits fill
 rw[T.dum,T.len]
 have:=T.fil
 simp
 exact this
theorem Tb'.plain {t:SetTable}{es:Array En}(T:Tb' t es)(b:Bool):Tb' { t with plain:=b } es:=by
 have e:∀ n (p:Probe),it { t with plain:=b } n p=it t n p:=fun n p=>aw6 (t:=t) (t':={ t with plain:=b }) rfl n p
 refine⟨T.dum,T.len,T.asc,T.bnd,T.good,T.fil,fun i x hx=>?_⟩
 obtain⟨n,h1,h2,h3⟩:=T.path i x hx
 exact⟨n,h1,by rw[e];exact h2,fun k hk=>by rw[e];exact h3 k hk⟩
theorem Tb.put {t:SetTable}{es:Array En}(T:Tb t es){h:Int}{x:Value}(hn:n<10*turns t.mask)(hfr:∀ i:Nat,t.place[i]?≠some (it t n (t.probeStart h)).j)(hle:(it t n (t.probeStart h)).j<=t.mask)
  (hocc:∀ k,k<n->∃ i':Nat,t.place[i']?=some (it t k (t.probeStart h)).j) :
  (t.put (it t n (t.probeStart h)).j).2<=es.size/\Tb' (t.put (it t n (t.probeStart h)).j).1 (insertAt es (t.put (it t n (t.probeStart h)).j).2 (h,x)):=by
 generalize hj:(it t n (t.probeStart h)).j=j at *
 obtain⟨b1,b2,b3⟩:=aD0 T.asc j
 have hp:(t.put j).2=below t.place j:=rfl
 have hd:has t.dummies j=false:=by rw[T.dum];simp[has]
 have ht:(t.put j).1={ t with place:=insertAt t.place (below t.place j) j }:=by
  unfold SetTable.put
  dsimp only
  rw[if_neg (by rw[hd];exact j5)]
 have hm:(t.put j).1.mask=t.mask:=by rw[ht]
 have hpl:(t.put j).1.place=insertAt t.place (below t.place j) j:=by rw[ht]
 have hsz:=T.nf
 have old:∀ (i a:Nat),t.place[i]?=some a->∃ i':Nat,(insertAt t.place (below t.place j) j)[i']?=some a:=fun i a e=>by
  by_cases q:i<below t.place j
  ·exact⟨i,by rw[get_ins b1,if_pos q];exact e⟩
  ·exact⟨i+1,by rw[get_ins b1,if_neg (by omega),if_neg (by omega)];simpa using e⟩
 have hit:∀ k (p:Probe),it (t.put j).1 k p=it t k p:=fun k p=>aw6 hm k p
 have hst:∀ z:Int,(t.put j).1.probeStart z=t.probeStart z:=fun z=>by rw[ag1,ag1,hm]
 refine⟨by rw[hp,<- T.len];exact b1,?_⟩
 rw[hp]
 refine⟨by rw[ht];exact T.dum,by rw[hpl,am7 b1,am7 (by rw[<- T.len];exact b1),T.len],?_,?_,by rw[hm];exact T.good,?_,?_⟩
 ·rw[hpl]
  intro i k a c hik ea ec
  rw[get_ins b1]at ea ec
  split at ea
  ·rename_i hi
   split at ec
   ·exact T.asc i k a c hik ea ec
   ·split at ec
    ·cases ec;exact b2 i a hi ea
    ·exact T.asc i (k - 1) a c (by omega) ea ec
  ·split at ea
   ·rename_i hi1 hi2
    cases ea
    rw[if_neg (by omega),if_neg (by omega)]at ec
    have h1:=b3 (k - 1) c (by omega) ec
    rcases G9 h1 with h2 | h2
    ·exact h2
    ·subst h2;exact absurd ec (hfr (k - 1))
   ·rw[if_neg (by omega),if_neg (by omega)]at ec
    exact T.asc (i - 1) (k - 1) a c (by omega) ea ec
 ·rw[hpl,hm]
  intro i a ea
  rw[get_ins b1]at ea
  split at ea
  ·exact T.bnd i a ea
  ·split at ea
   ·cases ea;exact hle
   ·exact T.bnd _ a ea
 ·rw[hm,am7 (by rw[<- T.len];exact b1)]
  have:=T.good
  unfold Good at this
  omega
 ·intro i e he
  rw[hpl,hm]
  have b1':below t.place j<=es.size:=by rw[<- T.len];exact b1
  rw[get_ins b1']at he
  have lift:∀ (i0:Nat) (i':Nat),es[i0]?=some e->(∀ a,t.place[i0]?=some a->(insertAt t.place (below t.place j) j)[i']?=some a) ->
    ∃ n,n<10*turns t.mask/\(insertAt t.place (below t.place j) j)[i']?=some (it (t.put j).1 n ((t.put j).1.probeStart e.1)).j/\∀ k,k<n->∃ i':Nat,(insertAt t.place (below t.place j) j)[i']?=some (it (t.put j).1 k ((t.put j).1.probeStart e.1)).j:=fun i0 i' h0 h1=>by
   obtain⟨n',q1,q2,q3⟩:=T.path i0 e h0
   refine⟨n',q1,?_,fun k hk=>?_⟩
   ·rw[hit,hst];exact h1 _ q2
   ·obtain⟨i2,e2⟩:=q3 k hk
    rw[hit,hst]
    exact old i2 _ e2
  split at he
  ·rename_i hi
   exact lift i i he fun a ea=>by rw[get_ins b1,if_pos hi];exact ea
  ·split at he
   ·rename_i hi1 hi2
    cases he
    refine⟨n,hn,?_,fun k hk=>?_⟩
    ·rw[hit,hst,hj,get_ins b1,if_neg hi1,if_pos hi2]
    ·obtain⟨i2,e2⟩:=hocc k hk
     rw[hit,hst]
     exact old i2 _ e2
   ·rename_i hi1 hi2
    exact lift (i - 1) i he fun a ea=>by rw[get_ins b1,if_neg hi1,if_neg hi2];exact ea
theorem aK9:∀ (k n:Nat) (g:Nat->Nat),(∀ i,i<n->g i<k)->(∀ i j,i<n->j<n->g i=g j->i=j)->n<=k
 | 0,n,g,h,_=>by
  rcases Nat.eq_zero_or_pos n with e | e
  ·omega
  ·exact absurd (h 0 e) (aY4 _)
 | k+1,0,g,_,_=>o5 _
 | k+1,n+1,g,h,inj=>by
  by_cases q:∃ i0,i0<n+1/\g i0=k
  ·obtain⟨i0,h0,e0⟩:=q
   have:=aK9 k n (fun i=>if i=i0 then g n else g i) (fun i hi=>?_) (fun i j hi hj e=>?_)
   ·omega
   ·try dsimp only
    split
    ·rename_i hii
     have h1:=h n (by omega)
     have h2:g n≠k:=fun z=>by have:=inj n i0 (by omega) h0 (by rw[z,e0]);omega
     omega
    ·have h1:=h i (by omega)
     have h2:g i≠k:=fun z=>by have:=inj i i0 (by omega) h0 (by rw[z,e0]);omega
     omega
   ·try dsimp only at e
    split at e
    ·split at e
     ·omega
     ·have:=inj n j (by omega) (by omega) e;omega
    ·split at e
     ·have:=inj i n (by omega) (by omega) e;omega
     ·exact inj i j (by omega) (by omega) e
  ·have:=aK9 k (n+1) g (fun i hi=>?_) inj
   ·omega
   ·have h1:=h i hi
    have h2:g i≠k:=fun z=>q ⟨i,hi,z⟩
    omega
structure LI (t:SetTable) (hs:Array Int) (owner:Array (Option Nat)) (k:Nat):Prop where
 size:owner.size=t.mask+1
 lt:∀ (j i:Nat),owner[j]?=some (some i)->i<k
 inj:∀ (j j' i:Nat),owner[j]?=some (some i)->owner[j']?=some (some i)->j=j'
 has:∀ (i:Nat) (h:Int),i<k->hs[i]?=some h->∃ n,n<10*turns t.mask/\owner[(it t n (t.probeStart h)).j]?=some (some i)/\∀ c,c<n->∃ i':Nat,owner[(it t c (t.probeStart h)).j]?=some (some i')
theorem LI.free {t:SetTable}{hs:Array Int}{owner:Array (Option Nat)}{k:Nat}(L:LI t hs owner k)(hk:k<=t.mask):∃ b,b<=t.mask/\owner[b]?=some none:=by
 apply Classical.byContradiction
 intro z
 have all:∀ b,b<=t.mask->∃ i,owner[b]?=some (some i):=fun b hb=>by
  have e:=getElem?_pos owner b (by rw[L.size];omega)
  cases q:owner[b]'(by rw[L.size];omega) with
  | none=>rw[q]at e;exact absurd ⟨b,hb,e⟩ z
  | some i=>rw[q]at e;exact⟨i,e⟩
 have:=aK9 k (t.mask+1) (fun b=>match owner[b]? with | some (some i)=>i | _=>0) (fun b hb=>?_) (fun b b' hb hb' e=>?_)
 ·omega
 ·obtain⟨i,e⟩:=all b (by omega)
  try dsimp only
  rw[e]
  exact L.lt b i e
 ·obtain⟨i,e1⟩:=all b (by omega)
  obtain⟨i',e2⟩:=all b' (by omega)
  try dsimp only at e
  rw[e1,e2]at e
  dsimp only at e
  subst e
  exact L.inj b b' i e1 e2
theorem aH6 (t:SetTable)(owner:Array (Option Nat))(hz:owner.size=t.mask+1):∀ (fuel i pt:Nat),i<=t.mask->(∃ r,r<fuel/\∃ b,b=(rn t.mask i pt r).1/\owner[b]?=some none) ->
  ∃ n,n<10*fuel/\layClean.free t.mask owner fuel i pt=some (it t n (st t.mask i pt)).j/\owner[(it t n (st t.mask i pt)).j]?=some none/\∀ c,c<n->∃ i':Nat,owner[(it t c (st t.mask i pt)).j]?=some (some i')
 | 0,i,pt,_,⟨r,hr,_⟩=>absurd hr (aY4 _)
 | fuel+1,i,pt,hi,⟨r,hr,b,hb,hbo⟩=>by
  have h9:=aq1 t.mask i
  have hm:=aS0 hi
  unfold layClean.free
  have slotOf:∀ k,k<=runEnd t.mask i - i->(it t k (st t.mask i pt)).j=i+k:=fun k hk=>by rw[aM1 t i pt k hk]
  have getS:∀ k,k<=runEnd t.mask i - i->(owner.getD (i+k) (some 0)).isNone=false->∃ i':Nat,owner[i+k]?=some (some i'):=fun k hk e=>by
   have hlt:i+k<owner.size:=by omega
   have e1:=getElem?_pos owner (i+k) hlt
   have e2:owner.getD (i+k) (some 0)=owner[i+k]:=by simp[bR7,hlt]
   rw[e2]at e
   cases q:owner[i+k] with
   | none=>rw[q]at e;cases e
   | some i'=>rw[q]at e1;exact⟨i',e1⟩
  cases hf:(n8 (runEnd t.mask i+1 - i)).find? (fun k=>(owner.getD (i+k) (some 0)).isNone) with
  | some k =>
   dsimp only
   rw[List.find?_eq_some_iff_getElem]at hf
   obtain⟨hp,k',hk',ek,hbef⟩:=hf
   rw[C1]at hk'
   rw[U9]at ek
   subst ek
   refine⟨k',by omega,by rw[slotOf k' (by omega)],?_,fun c hc=>?_⟩
   ·rw[slotOf k' (by omega)]
    have hlt:i+k'<owner.size:=by omega
    have e2:owner.getD (i+k') (some 0)=owner[i+k']:=by simp[bR7,hlt]
    rw[e2]at hp
    rw[getElem?_pos owner _ hlt]
    cases q:owner[i+k'] with
    | none=>rfl
    | some z=>rw[q]at hp;cases hp
   ·rw[slotOf c (by omega)]
    have:=hbef c hc
    rw[U9]at this
    exact getS c (by omega) (by simpa using this)
  | none =>
   dsimp only
   rw[List.find?_eq_none]at hf
   have all:∀ c,c<=runEnd t.mask i - i->∃ i':Nat,owner[i+c]?=some (some i'):=fun c hc=>getS c hc (by simpa only [Bool.not_eq_true] using hf c (u6.mpr (by omega)))
   have hr0:r≠0:=fun z=>by
    subst z
    obtain⟨i',e⟩:=all 0 (o5 _)
    have hb':b=i:=hb
    rw[hb']at hbo
    rw[ap1,hbo]at e
    cases e
   obtain⟨r',rfl⟩:∃ r',r=r'+1:=⟨r - 1,by omega⟩
   have shift:∀ r,rn t.mask (leap t.mask i pt).1 (leap t.mask i pt).2 r=rn t.mask i pt (r+1):=fun r=>by
    induction r with
    | zero=>rfl
    | succ r ih =>
     show leap t.mask _ _=leap t.mask _ _
     rw[ih]
   obtain⟨n,hn,e1,e2,e3⟩:=aH6 t owner hz fuel (leap t.mask i pt).1 (leap t.mask i pt).2 (aj7 (cb7 _ (af6 _))) ⟨r',by omega,b,by rw[hb,shift],hbo⟩
   have sh:∀ c,it t (runEnd t.mask i - i+1+c) (st t.mask i pt)=it t c (st t.mask (leap t.mask i pt).1 (leap t.mask i pt).2):=fun c=>by rw[aM3,aM2]
   refine⟨runEnd t.mask i - i+1+n,by omega,by rw[sh];exact e1,by rw[sh];exact e2,fun c hc=>?_⟩
   by_cases q:c<=runEnd t.mask i - i
   ·rw[slotOf c q]
    exact all c q
   ·have:=e3 (c - (runEnd t.mask i - i+1)) (by omega)
    rw[<- sh,show runEnd t.mask i - i+1+(c - (runEnd t.mask i - i+1))=c by omega]at this
    exact this
theorem aU3 (t:SetTable)(g:Good t.mask)(hs:Array Int)(hsz:hs.size<=t.mask):∀ (l:List Int) (k:Nat) (owner:Array (Option Nat)),LI t hs owner k->hs.toList.drop k=l ->
  ∃ owner',(l.foldl (fun acc h=>do
   let (owner,k) <- acc
   let j <- layClean.free t.mask owner (turns t.mask) (bits h % (t.mask+1)) (bits h)
   pure (owner.setIfInBounds j (some k),k+1)) (some (owner,k)))=some (owner',k+l.length)/\LI t hs owner' (k+l.length)
 | [],k,owner,L,_=>⟨owner,rfl,L⟩
 | h::l,k,owner,L,hd=>by
  have hk:k<hs.size:=by
   apply Classical.byContradiction
   intro z
   rw[F6 (by rw[j8];omega)]at hd
   cases hd
  have hget:hs[k]?=some h:=by
   rw[<- c8]
   have:=congrArg (fun l=>l[0]?) hd
   simpa using this
  obtain⟨b,hb,hbo⟩:=L.free (by omega)
  obtain⟨r,hr,er⟩:=bh7 g (ag0 t h) (bl7 h) hb
  obtain⟨n,hn,e1,e2,e3⟩:=aH6 t owner L.size (turns t.mask) (bits h % (t.mask+1)) (bits h) (ag0 t h) ⟨r,hr,b,er.symm,hbo⟩
  rw[<- ag1]at e1 e2 e3
  have hjs:(it t n (t.probeStart h)).j<owner.size:=(getElem?_eq_some_iff.mp e2).1
  have gs:∀ x,(owner.setIfInBounds (it t n (t.probeStart h)).j (some k))[x]?=if (it t n (t.probeStart h)).j=x then some (some k) else owner[x]?:=fun x=>by
   rw[Array.getElem?_setIfInBounds]
   split
   ·rename_i hx;subst hx;simp[hjs]
   ·rfl
  have occ:∀ (x i:Nat),owner[x]?=some (some i)->∃ i':Nat,(owner.setIfInBounds (it t n (t.probeStart h)).j (some k))[x]?=some (some i'):=fun x i e=>by
   rw[gs];split
   ·exact⟨k,rfl⟩
   ·exact⟨i,e⟩
  have L':LI t hs (owner.setIfInBounds (it t n (t.probeStart h)).j (some k)) (k+1):=by
   refine⟨by rw[be7];exact L.size,fun j i e=>?_,fun j j' i ea ec=>?_,fun i h' hi hh=>?_⟩
   ·rw[gs]at e
    split at e
    ·cases e;omega
    ·have:=L.lt j i e;omega
   ·rw[gs]at ea ec
    split at ea
    ·rename_i q1
     cases ea
     split at ec
     ·rename_i q2;rw[<- q1,<- q2]
     ·have:=L.lt j' k ec;omega
    ·split at ec
     ·cases ec
      have:=L.lt j k ea;omega
     ·exact L.inj j j' i ea ec
   ·by_cases q:i=k
    ·subst q
     rw[hget]at hh
     cases hh
     refine⟨n,hn,by rw[gs,if_pos rfl],fun c hc=>?_⟩
     obtain⟨i',e⟩:=e3 c hc
     exact occ _ i' e
    ·obtain⟨n',q1,q2,q3⟩:=L.has i h' (by omega) hh
     refine⟨n',q1,?_,fun c hc=>?_⟩
     ·rw[gs]
      split
      ·rename_i q4
       rw[q4]at e2
       rw[e2]at q2
       cases q2
      ·exact q2
     ·obtain⟨i',e⟩:=q3 c hc
      exact occ _ i' e
  obtain⟨owner',f1,f2⟩:=aU3 t g hs hsz l (k+1) _ L' (by
   have e5:hs.toList.drop (k+1)=(hs.toList.drop k).drop 1:=by rw[be5]
   rw[e5,hd]
   rfl)
  refine⟨owner',?_,?_⟩
  ·rw[ab9]
   have:(do
     let (owner,k) <- some (owner,k)
     let j <- layClean.free t.mask owner (turns t.mask) (bits h % (t.mask+1)) (bits h)
     pure (owner.setIfInBounds j (some k),k+1))=some (owner.setIfInBounds (it t n (t.probeStart h)).j (some k),k+1):=by
    show (layClean.free t.mask owner (turns t.mask) (bits h % (t.mask+1)) (bits h) >>= fun j=>pure (owner.setIfInBounds j (some k),k+1))=_
    rw[e1]
    rfl
   rw[this,f1,a9]
   congr 2
   omega
  ·rw[a9,show k+(l.length+1)=k+1+l.length by omega]
   exact f2
theorem bz7 {M finger moves:Nat}{led plain:Bool}{es:Array En}(g:Good M)(hsz:es.size*5<M*3) :
  ∃ t2 order,laid M finger moves led plain (es.map (·.1))=some (t2,order)/\Tb t2 (order.filterMap (es[·]?))/\(order.filterMap (es[·]?)).toList.Perm es.toList/\order.toList.Perm (n8 es.size)/\t2.led=led/\t2.plain=plain:=by
 let t:SetTable:={ mask:=M,place:=#[],dummies:=#[],finger:=finger,led:=led,moves:=moves,plain:=plain }
 have ht:t.mask=M:=rfl
 have h0:LI t (es.map (·.1)) (Array.replicate (M+1) none) 0:=by
  refine⟨by simp[ht],fun j i e=>?_,fun j j' i e=>?_,fun i h hi=>by omega⟩
  ·rw[be8]at e;split at e<;>cases e
  ·rw[be8]at e;split at e<;>cases e
 obtain⟨owner,f1,L⟩:=aU3 t g (es.map (·.1)) (by rw[ae7,ht];omega) (es.map (·.1)).toList 0 _ h0 rfl
 rw[F5,j8,ae7]at f1 L
 have hlay:layClean M (es.map (·.1))=some owner:=by
  unfold layClean
  rw[<- Array.foldl_toList]
  have:(aa6 _ _ (es.map (·.1)).toList)=some (owner,es.size):=f1
  rw[this]
  rfl
 let live:List (Nat × Nat):=(n8 (M+1)).filterMap fun j=>(owner.getD j none).map (j,·)
 have hlive:∀ p:Nat × Nat,p∈live↔owner[p.1]?=some (some p.2):=fun p=>by
  obtain⟨j,i⟩:=p
  have hg:∀ j,owner.getD j none=(owner[j]?).getD none:=fun j=>by simp
  show (j,i)∈List.filterMap _ _↔_
  rw[ae6]
  constructor
  ·rintro⟨j',hj',e⟩
   rw[hg]at e
   cases q:owner[j']? with
   | none=>rw[q]at e;cases e
   | some z =>
    rw[q]at e
    cases z with
    | none=>cases e
    | some i' =>
     have e':(j',i')=(j,i):=Option.some.inj e
     cases e'
     exact q
  ·intro e
   have hj:j<owner.size:=(getElem?_eq_some_iff.mp e).1
   refine⟨j,u6.mpr (by rw[L.size,ht]at hj;exact hj),?_⟩
   rw[hg,e]
   rfl
 have hpw:live.Pairwise (fun a b=>a.1<b.1):=by
  show (List.filterMap _ _).Pairwise _
  rw[List.pairwise_filterMap]
  refine List.Pairwise.imp ?_ V7
  intro a b hab p hp q hq
  cases h1:owner.getD a none with
  | none=>rw[h1]at hp;cases hp
  | some i =>
   cases h2:owner.getD b none with
   | none=>rw[h2]at hq;cases hq
   | some i' =>
    rw[h1]at hp
    rw[h2]at hq
    have e1:(a,i)=p:=Option.some.inj hp
    have e2:(b,i')=q:=Option.some.inj hq
    subst e1 e2
    exact hab
 have hnd:(live.map (·.2)).Nodup:=by
  unfold List.Nodup
  rw[G1]
  refine List.Pairwise.imp_of_mem ?_ hpw
  intro a b ha hb hab e
  have h1:=(hlive a).mp ha
  have h2:=(hlive b).mp hb
  rw[<- e]at h2
  have:=L.inj _ _ _ h1 h2
  omega
 have hord:(live.map (·.2)).Perm (n8 es.size):=by
  refine(ae3 hnd Y5).mpr fun i=>?_
  rw[u6,k8]
  constructor
  ·rintro⟨p,hp,rfl⟩
   exact L.lt _ _ ((hlive p).mp hp)
  ·intro hi
   obtain⟨n,_,q,_⟩:=L.has i ((es.map (·.1))[i]'(by rw[ae7];exact hi)) hi (getElem?_pos _ _ _)
   exact⟨(_,i),(hlive _).mpr q,rfl⟩
 have hlen:live.length=es.size:=by have:=hord.length_eq;simpa using this
 have hes:∀ i,i∈live.map (·.2)->∃ e,es[i]?=some e:=fun i hi=>by
  have:=hord.mem_iff.mp hi
  rw[u6]at this
  exact⟨es[i],getElem?_pos es i this⟩
 have fm:∀ (l:List Nat),(∀ i∈l,∃ e,es[i]?=some e)->(l.filterMap (es[·]?)).length=l.length/\∀ (p:Nat),(l.filterMap (es[·]?))[p]?=(l[p]?).bind (es[·]?):=fun l=>by
  induction l with
  | nil=>intro _;exact⟨rfl,fun p=>rfl⟩
  | cons a l ih =>
   intro h
   obtain⟨e,he⟩:=h a b9
   obtain⟨i1,i2⟩:=ih fun i hi=>h i (b8 _ hi)
   rw[List.filterMap_cons_some he]
   refine⟨by rw[a9,i1,a9],fun p=>?_⟩
   cases p with
   | zero=>simp[he]
   | succ p=>simpa using i2 p
 obtain⟨fl,fg⟩:=fm _ hes
 have hperm:((live.map (·.2)).filterMap (es[·]?)).Perm es.toList:=by
  refine(hord.filterMap _).trans (List.Perm.of_eq ?_)
  apply J9
  intro p
  obtain⟨_,g2⟩:=fm (n8 es.size) fun i hi=>⟨es[i]'(u6.mp hi),getElem?_pos es i (u6.mp hi)⟩
  rw[g2,show es.toList[p]?=es[p]? from c8 ..]
  by_cases hp:p<es.size
  ·rw[N6 hp];rfl
  ·rw[n9 (by simp;omega),getElem?_neg es p hp];rfl
 let t2:SetTable:={ mask:=M,place:=(live.map (·.1)).toArray,dummies:=#[],finger:=finger,led:=led,moves:=moves,plain:=plain }
 have hes':((live.map (·.2)).toArray.filterMap (es[·]?)).toList=(live.map (·.2)).filterMap (es[·]?):=by simp
 have getE:∀ (p:Nat) (e:En),((live.map (·.2)).toArray.filterMap (es[·]?))[p]?=some e->∃ j i:Nat,live[p]?=some (j,i)/\es[i]?=some e:=fun p e h=>by
  rw[<- c8,hes',fg,q8]at h
  cases q:live[p]? with
  | none=>rw[q]at h;cases h
  | some ji=>rw[q]at h;exact⟨ji.1,ji.2,rfl,h⟩
 have getP:∀ (p:Nat) (j:Nat),t2.place[p]?=some j↔∃ i,live[p]?=some (j,i):=fun p j=>by
  show (live.map (·.1)).toArray[p]?=some j↔_
  rw[List.getElem?_toArray,q8]
  cases q:live[p]? with
  | none=>simp
  | some ji =>
   obtain⟨a,b⟩:=ji
   simp
 have itE:∀ n (p:Probe),it t2 n p=it t n p:=fun n p=>aw6 (t:=t) (t':=t2) rfl n p
 refine⟨t2,(live.map (·.2)).toArray,?_,?_,(by rw[hes'];exact hperm),hord,rfl,rfl⟩
 ·unfold laid
  rw[hlay]
  rfl
 ·refine⟨rfl,?_,?_,?_,g,?_,?_⟩
  ·show (live.map (·.1)).toArray.size=_
   rw[d8,a6,<- j8,hes',fl,a6]
  ·intro i j a b hij ea eb
   obtain⟨_,ea⟩:=(getP i a).mp ea
   obtain⟨_,eb⟩:=(getP j b).mp eb
   obtain⟨h1,e1⟩:=c7.mp ea
   obtain⟨h2,e2⟩:=c7.mp eb
   have:=t9.mp hpw i j h1 h2 hij
   rw[e1,e2]at this
   exact this
  ·intro i j e
   obtain⟨i',e⟩:=(getP i j).mp e
   have:=(hlive _).mp (d5 e)
   have hj:j<owner.size:=(getElem?_eq_some_iff.mp this).1
   rw[L.size]at hj
   show j<=M
   exact aj7 hj
  ·rw[<- j8,hes',fl,a6,hlen]
   exact hsz
  ·intro p e he
   obtain⟨j,i,hl,hi⟩:=getE p e he
   have ho:=(hlive _).mp (d5 hl)
   have hi':i<es.size:=(getElem?_eq_some_iff.mp hi).1
   obtain⟨n,q1,q2,q3⟩:=L.has i e.1 hi' (by rw[Array.getElem?_map,hi];rfl)
   have ej:=L.inj _ _ _ ho q2
   refine⟨n,q1,?_,fun c hc=>?_⟩
   ·rw[itE]
    exact(getP p _).mpr ⟨i,by rw[hl];congr 2⟩
   ·obtain⟨i',e'⟩:=q3 c hc
    obtain⟨p',hp'⟩:=o4.mp ((hlive (_,i')).mpr e')
    exact⟨p',by rw[itE];exact(getP p' _).mpr ⟨i',hp'⟩⟩
theorem bL6 {M finger moves:Nat}{led plain:Bool}{es:Array En}(g:Good M)(hsz:es.size*5<M*3) :
  ∃ t2 order,laid M finger moves led plain (es.map (·.1))=some (t2,order)/\Tb t2 (order.filterMap (es[·]?))/\(order.filterMap (es[·]?)).toList.Perm es.toList:=
 let ⟨a,b,c,d,e,_⟩:=bz7 (finger:=finger) (moves:=moves) (led:=led) (plain:=plain) g hsz;⟨a,b,c,d,e⟩
end Sett
namespace Sett
open PySem PySem.SetTable PyProof.Rows
def ai9:List Nat->Nat->Bool
 | [],_=>true
 | x::l,acc=>!acc.testBit x && ai9 l (acc ||| 2 ^ x)
theorem an8:∀ (l:List Nat) (acc:Nat),ai9 l acc=true->l.Nodup/\∀ x∈l,acc.testBit x=false
 | [],_,_=>⟨be9,(fun _ h=>nomatch h)⟩
 | x::l,acc,h=>by
  unfold ai9 at h
  rw[x6]at h
  obtain⟨h1,h2⟩:=h
  obtain⟨n,m⟩:=an8 l _ h2
  have m':∀ y∈l,acc.testBit y=false/\x≠y:=fun y hy=>by
   have:=m y hy
   rw[Nat.testBit_or,Bool.or_eq_false_iff,bR6]at this
   exact⟨this.1,of_decide_eq_false this.2⟩
  refine⟨C7.mpr ⟨fun hx=>(m' x hx).2 rfl,n⟩,fun y hy=>?_⟩
  rcases d3.mp hy with rfl | hy
  ·simpa using h1
  ·exact(m' y hy).1
def hp (n:Nat):Nat:=bits (reduceHash (Builtin.Tuple.tupleHashOf [hashInt ((n / 24:Nat):Int),hashInt ((n % 24:Nat):Int)])) % 3708
set_option maxRecDepth 100000 in
theorem bZ3:ai9 ((n8 576).map hp) 0=true:=by decide +kernel
theorem bZ2 {a b:Nat}(ha:a<576)(hb:b<576)(h:hp a=hp b):a=b:=by
 have:=(an8 _ _ bZ3).1
 unfold List.Nodup at this
 rw[G1]at this
 rw[t9]at this
 rcases aj8 a b with q | q | q
 ·have:=this a b (by simpa using ha) (by simpa using hb) q
  simp only[U9]at this
  exact absurd h this
 ·exact q
 ·have:=this b a (by simpa using hb) (by simpa using ha) q
  simp only[U9]at this
  exact absurd h.symm this
def at7 (ks:List Int):Prop:=∃ i j:Nat,i<24/\j<24/\ks=[(i:Int),(j:Int)]
theorem aV0 {k':List Int}(h1:at7 k)(h2:at7 k')(e:r9 (A1 prog w) k=r9 (A1 prog w) k'):k=k':=by
 obtain⟨i,j,hi,hj,rfl⟩:=h1
 obtain⟨i',j',hi',hj',rfl⟩:=h2
 have e2:hp (24*i+j)=hp (24*i'+j'):=by
  unfold hp
  rw[show (24*i+j) / 24=i by omega,show (24*i+j) % 24=j by omega,show (24*i'+j') / 24=i' by omega,show (24*i'+j') % 24=j' by omega]
  exact congrArg (fun z=>bits z % 3708) e
 have:=bZ2 (by omega) (by omega) e2
 have h3:i=i':=by omega
 have h4:j=j':=by omega
 rw[h3,h4]
def ak2 (prog:Program)(w:World)(h:Heap)(k:List Int)(e:En):Prop:=∃ a,e.2=.ref a/\J4 (A1 prog w) h k a/\e.1=r9 (A1 prog w) k
def av0 (prog:Program)(w:World)(hk h:Heap)(S:Addr)(ks:List (List Int)):Prop:=
 ∃ o es ep t,h.get? S=some o/\o.ExactSet/\o.data=.set es ep t/\Tb t es/\es.size=ks.length/\ks.Nodup/\(∀ k∈ks,at7 k)/\(∀ k∈ks,∃ e∈es.toList,ak2 prog w hk k e)/\∀ e∈es.toList,∃ k∈ks,ak2 prog w hk k e
theorem bA0 (x:J4 (A1 prog w) h k a)(hs:∀ b o,h.get? b=some o->h'.get? b=some o):J4 (A1 prog w) h' k a:=by
 obtain⟨o,items,n,h2,h3⟩:=x
 exact⟨o,items,n,hs a o h2,h3⟩
theorem ak2.up {e:En}(x:ak2 prog w h k e)(hs:∀ b o,h.get? b=some o->h'.get? b=some o):ak2 prog w h' k e:=by
 obtain⟨a,h1,h2,h6⟩:=x
 exact⟨a,h1,bA0 h2 hs,h6⟩
theorem ak2.inj {k':List Int}{e:En}(x:ak2 prog w h k e)(y:ak2 prog w h k' e):k=k':=by
 obtain⟨a,h1,h2,_⟩:=x
 obtain⟨b,h3,h4,_⟩:=y
 rw[h1]at h3
 cases h3
 exact h2.inj h4
theorem bd8 (x:Addr)(es:Array En):byScan (.ref x) es=false:=by
 unfold byScan Value.scannable
 rfl
theorem ar2 {x:Addr}{Q:Bool->Shared->Prop}(hx:J4 (A1 prog w) s.heap k x)(h:Q true s):p9 (p7 prog w) A (bn6 8 (.ref x)) Q E s:=by
 have hT:=hx.typeIs
 obtain⟨o,items,n,ho,hc,hd,hi⟩:=hx
 unfold bn6
 refine a8 (wpAny_specialOf hT F.slot_tuple_hash.lookup ?_)
 dsimp only
 refine a8 (aD9 ho hd ?_)
 show p9 _ _ (forIn items _ _ >>= _) _ _ s
 rw[<- ae4]
 have hv:∀ v∈items.toList,∃ i t,v=.int i t:=fun v hv=>by
  clear ho hd
  generalize items.toList=l at hi hv
  induction hi with
  | nil=>cases hv
  | cons h1 _ ih =>
   rcases d3.mp hv with rfl | hv
   ·obtain⟨t,e⟩:=Value.isInt_shape h1
    exact⟨_,t,e⟩
   ·exact ih hv
 refine a8 (aY8 _ (fun rest r s'=>r.1=none/\s'=s/\∀ v∈rest,∃ i t,v=.int i t) _ ?_ ?_ _ _ ⟨rfl,rfl,hv⟩)
 ·rintro v rest r s' ⟨hr,rfl,hall⟩
  obtain⟨i,t,rfl⟩:=hall v b9
  have e:bn6 7 (.int i t)=pure true:=by unfold bn6;rfl
  rw[e]
  refine a8 (j9 ?_)
  simp only[Q8,l6,if_false]
  exact j9 ⟨rfl,rfl,fun u hu'=>hall u (b8 _ hu')⟩
 ·rintro⟨r1,r2⟩ s' ⟨hr,rfl,_⟩
  simp only at hr
  subst hr
  exact j9 h
theorem aE7 {S x:Addr}{o:Obj}{es:Array En}{ep:Nat}{t:SetTable}{h:Int}{Q:SetFound->Shared->Prop}(ho:s.heap.get? S=some o)(hd:o.data=.set es ep t)(T:Tb t es)(hh:∀ e∈es.toList,e.1≠h)
  (hq:∀ n,n<10*turns t.mask->(∀ i:Nat,t.place[i]?≠some (it t n (t.probeStart h)).j)->(it t n (t.probeStart h)).j<=t.mask->(∀ k,k<n->∃ i':Nat,t.place[i']?=some (it t k (t.probeStart h)).j)->Q (.free (it t n (t.probeStart h)).j false) s) :
  p9 (p7 prog w) A (bS6 S (.ref x) h true) Q E s:=by
 obtain⟨n,h1,h2,h3,h4,h5⟩:=T.absent hh
 unfold bS6 aJ2
 refine a8 (R6 ho hd T.fits ?_)
 dsimp only
 rw[T.odd]
 simp only[l6,if_false]
 split
 ·rename_i met hm
  have e:=hm.symm.trans h5
  cases e
  exact j9 (hq n h1 h2 h3 h4)
 ·rename_i hm
  exact absurd h5 (fun z=>hm _ z)
theorem aX1 {x:Addr}{Q:Bool->Shared->Prop}(hx:J4 (A1 prog w) s.heap k x)(h:Q false s):p9 (p7 prog w) A (al2 8 (.ref x)) Q E s:=by
 have hT:=hx.typeIs
 obtain⟨o,items,n,ho,hc,hd,hi⟩:=hx
 unfold al2
 refine a8 (wpAny_typeOf hT ?_)
 dsimp only
 rw[if_pos (by decide)]
 refine a8 (j9 ?_)
 simp only[Q8,l6,if_false]
 refine a8 (aD9 ho hd ?_)
 dsimp only
 rw[<- ae4]
 have hv:∀ v∈items.toList,∃ i t,v=.int i t:=fun v hv=>by
  clear ho hd
  generalize items.toList=l at hi hv
  induction hi with
  | nil=>cases hv
  | cons h1 _ ih =>
   rcases d3.mp hv with rfl | hv
   ·obtain⟨t,e⟩:=Value.isInt_shape h1
    exact⟨_,t,e⟩
   ·exact ih hv
 refine a8 (aY8 _ (fun rest r s'=>r.1=none/\s'=s/\∀ v∈rest,∃ i t,v=.int i t) _ ?_ ?_ _ _ ⟨rfl,rfl,hv⟩)
 ·rintro v rest r s' ⟨hr,rfl,hall⟩
  obtain⟨i,t,rfl⟩:=hall v b9
  have e:al2 7 (.int i t)=pure false:=by unfold al2;rfl
  rw[e]
  refine a8 (j9 ?_)
  simp only[l6,if_false]
  exact j9 ⟨rfl,rfl,fun u hu'=>hall u (b8 _ hu')⟩
 ·rintro⟨r1,r2⟩ s' ⟨hr,rfl,_⟩
  simp only at hr
  subst hr
  exact j9 h
theorem bT1 {x:Addr}{l:List Value}{Q:Bool->Shared->Prop}(hx:J4 (A1 prog w) s.heap k x)(hl:∀ v∈l,∃ a k',v=.ref a/\J4 (A1 prog w) s.heap k' a)(h:Q false s) :
  p9 (p7 prog w) A (searchCouldBeSeen (.ref x) l) Q E s:=by
 unfold searchCouldBeSeen
 refine a8 (aY8 _ (fun rest r s'=>r.1=none/\s'=s/\∀ v∈rest,∃ a k',v=.ref a/\J4 (A1 prog w) s.heap k' a) _ ?_ ?_ _ _ ⟨rfl,rfl,hl⟩)
 ·rintro v rest r s' ⟨hr,rfl,hall⟩
  obtain⟨a,k',rfl,ha⟩:=hall v b9
  have hrest:∀ v∈rest,∃ a k',v=.ref a/\J4 (A1 prog w) s'.heap k' a:=fun u hu'=>hall u (b8 _ hu')
  dsimp only
  split
  ·exact j9 ⟨rfl,rfl,hrest⟩
  ·refine a8 (bS7 hx ?_)
   simp only[Q8,l6,if_false]
   refine a8 (bS7 ha ?_)
   simp only[Q8,l6,if_false]
   refine a8 (aX1 hx ?_)
   simp only[l6,if_false]
   refine a8 (aX1 ha ?_)
   simp only[l6,if_false]
   exact j9 ⟨rfl,rfl,hrest⟩
 ·rintro⟨r1,r2⟩ s' ⟨hr,rfl,_⟩
  simp only at hr
  subst hr
  exact j9 h
theorem ay8 {S x:Addr}{o:Obj}{es:Array En}{ep:Nat}{t:SetTable}{e:En}{Q:SetFound->Shared->Prop}(hu:A.units<aj9)(ho:s.heap.get? S=some o)(hd:o.data=.set es ep t)(T:Tb t es)
  (hx:J4 (A1 prog w) s.heap k x)(he:es[i]?=some e)(hk:ak2 prog w s.heap k e)(hall:∀ e∈es.toList,∃ k,ak2 prog w s.heap k e)(huq:∀ (c:Nat) (e':En),es[c]?=some e'->e'.1=e.1->c=i)
  (hq:Q (.there none) s):p9 (p7 prog w) A (bS6 S (.ref x) (r9 (A1 prog w) k) true) Q E s:=by
 obtain⟨y,hy1,hy2,hy3⟩:=hk
 obtain⟨j,q,hp⟩:=T.present he huq
 rw[hy3]at hp
 unfold bS6 aJ2
 refine a8 (R6 ho hd T.fits ?_)
 dsimp only
 rw[T.odd]
 simp only[l6,if_false]
 have fin:p9 (p7 prog w) A (do
   let some (_,y):=es[i]? | af0 "internal:set-entry"
   let equal <- cc5 [y] (eqBool y (.ref x))
   let (es',_,t') <- setState S
   if true && equal then return .there none
   let some same:=t'.sameMemory t.moves t.mask | af0 "set.changed-during-lookup:is-the-new-block-at-the-old-address"
   let still <- match (if same then t'.slot j else .empty) with
    | .live i'=>match es'[i']? with
     | some (_,y')=>do pure (if <- isSame y' y then some i' else none)
     | none=>pure none
    | _=>pure none
   match still with
   | none=>rule "set.search.anew";aJ2 S (.ref x) (r9 (A1 prog w) k) true 99999 none
   | some i'=>if equal then return .there (some i') else aJ2 S (.ref x) (r9 (A1 prog w) k) true 99999 (some q)) Q E s:=by
  rw[he]
  obtain⟨e1,e2⟩:=e
  have hy1:e2=.ref y:=hy1
  subst hy1
  dsimp only
  refine a8 (M4 (wpAny_eqBool_tuple hu hy2 hx ?_))
  refine a8 (R6 ho hd T.fits ?_)
  dsimp only
  rw[decide_eq_true rfl]
  simp only[Bool.and_self,if_true]
  exact j9 hq
 split
 ·rename_i met hm
  have e9:=hm.symm.trans hp
  cases e9
  dsimp only
  cases hled:t.led with
  | true =>
   simp only[Q8,l6,if_false]
   exact fin
  | false =>
   simp only[Bool.not_false,if_true]
   refine a8 (bT1 hx (fun v hv=>?_) ?_)
   ·rw[k8]at hv
    obtain⟨e',he',rfl⟩:=hv
    have he'':e'∈es.toList:=by
     have:=Array.mem_filter.mp (bF2.mp he')
     exact bF2.mpr this.1
    obtain⟨k',a,h1,h2,_⟩:=hall e' he''
    exact⟨a,k',h1,h2⟩
   ·simp only[l6,if_false]
    exact fin
 ·rename_i hm
  exact absurd hp (fun z=>hm _ z)
theorem thr {m:Nat}(g:Good m)(h1:n*5<m*3)(h2:m*3<=(n+1)*5)(h3:n<300):(m=7/\n+1=5)\/(m=31/\n+1=19)\/(m=127/\n+1=77):=by
 rcases g with rfl | rfl | rfl | rfl<;>omega
theorem bc9 {m:Nat}(g:Good m)(h1:n*5<m*3)(h2:m*3<=(n+1)*5)(h3:n<300):Good (sizeAbove (grown (n+1)) - 1)/\(n+1)*5<(sizeAbove (grown (n+1)) - 1)*3/\sizeAbove (grown (n+1))<=4096:=by
 rcases thr g h1 h2 h3 with⟨_,e⟩ | ⟨_,e⟩ | ⟨_,e⟩<;>rw[e]<;>refine⟨?_,by decide +kernel,by decide +kernel⟩
 ·exact .inr (.inl (by decide +kernel))
 ·exact .inr (.inr (.inl (by decide +kernel)))
 ·exact .inr (.inr (.inr (by decide +kernel)))
theorem bH9 {t:SetTable}{es:Array En}(T:Tb' t es):t.tooFull=decide (t.mask*3<=es.size*5):=by
 unfold tooFull PySem.SetTable.fill
 rw[T.dum,T.len]
 rfl
theorem stored {S:Addr}{o:Obj}{es es':Array En}{ep:Nat}{t t':SetTable}(ho:h.get? S=some o)(hd:o.data=.set es ep t) :
  (h.update S (Obj.putSet es' t')).get? S=some { o with data:=.set es' (ep+1) t' }:=by
 have:=ao8 (Obj.putSet es' t') ho (by rw[putSet_of es' t' hd];rfl)
 rw[putSet_of es' t' hd]at this
 exact this
theorem aR2 {S x:Addr}{Q:Bool->Shared->Prop}{hp:Heap}(hup:∀ b o,hp.get? b=some o->s.heap.get? b=some o)(hu:A.units<aj9)(hS:av0 prog w hp s.heap S ks)(hx0:J4 (A1 prog w) hp k x)(hk:at7 k)(hn:ks.length<300)
  (hq:∀ (b:Bool) (h':Heap) (tk:Nat),s.toks<=tk->Heap.SameBut S s.heap h'->av0 prog w hp h' S (if k∈ks then ks else k::ks)->Q b { s with heap:=h',toks:=tk }) :
  p9 (p7 prog w) A (setAdd S (.ref x)) Q E s:=by
 have hx:=bA0 hx0 hup
 unfold setAdd
 refine M4 (a8 (wpAny_pyHash_tuple hu hx ?_))
 obtain⟨o,es,ep,t,ho,hex,hd,T,hsz,hnd,hok,hto,hfrom⟩:=hS
 unfold setAddHashed
 refine M4 ?_
 unfold setAddHashedIn
 refine a8 (R6 (s:={ s with toks:=s.toks+(k.length+1) }) ho hd T.fits ?_)
 dsimp only
 rw[bd8]
 simp only[l6,if_false]
 by_cases hmem:k∈ks
 ·-- it is there
  obtain⟨e,he,hek⟩:=hto k hmem
  obtain⟨i,hi⟩:=o4.mp he
  rw[c8]at hi
  have huq:∀ (c:Nat) (e':En),es[c]?=some e'->e'.1=e.1->c=i:=fun c e' hc hh=>by
   apply Classical.byContradiction
   intro hci
   have hkey:∀ (c:Nat),c<es.size->∃ kk,kk∈ks/\∃ e,es[c]?=some e/\ak2 prog w hp kk e:=fun c hc=>by
    have e:=getElem?_pos es c hc
    obtain⟨kk,h1,h2⟩:=hfrom es[c] (by simp)
    exact⟨kk,h1,_,e,h2⟩
   have e'k:ak2 prog w hp k e':=by
    obtain⟨kk,h1,h2⟩:=hfrom e' (d5 (by rw[c8];exact hc))
    have h3:=h2
    obtain⟨_,_,_,h4⟩:=h2
    have h5:=hek
    obtain⟨_,_,_,h6⟩:=h5
    have:kk=k:=aV0 (prog:=prog) (w:=w) (hok kk h1) hk (by rw[<- h4,hh,h6])
    rw[<- this]
    exact h3
   have hch:∀ n,n<ks.length->∃ c,c<es.size/\∃ e,es[c]?=some e/\∃ kk,ks[n]?=some kk/\ak2 prog w hp kk e:=fun n hn'=>by
    obtain⟨e,he,hek⟩:=hto ks[n] (aO6 hn')
    obtain⟨c,hc⟩:=o4.mp he
    rw[c8]at hc
    exact⟨c,(getElem?_eq_some_iff.mp hc).1,e,hc,ks[n],i6 hn',hek⟩
   have:=aK9 (es.size - 1) ks.length (fun n=>if hn':n<ks.length then (let c0:=Classical.choose (hch n hn');let c1:=if c0=c then i else c0;if c1<c then c1 else c1 - 1) else 0) ?_ ?_
   ·have hc':=(getElem?_eq_some_iff.mp hc).1
    omega
   ·intro n hn'
    dsimp only
    rw[dif_pos hn']
    have hp:=Classical.choose_spec (hch n hn')
    generalize Classical.choose (hch n hn')=c0 at hp
    obtain⟨p1,_⟩:=hp
    have hc':=(getElem?_eq_some_iff.mp hc).1
    have hi':=(getElem?_eq_some_iff.mp hi).1
    split<;>split<;>omega
   ·intro n n' hn1 hn2 eqn
    dsimp only at eqn
    rw[dif_pos hn1,dif_pos hn2]at eqn
    have hp:=Classical.choose_spec (hch n hn1)
    have hp':=Classical.choose_spec (hch n' hn2)
    generalize Classical.choose (hch n hn1)=c0 at hp eqn
    generalize Classical.choose (hch n' hn2)=c0' at hp' eqn
    obtain⟨p1,e1,p2,kk,p3,p4⟩:=hp
    obtain⟨p1',e1',p2',kk',p3',p4'⟩:=hp'
    have same:kk=kk':=by
     have r1:ak2 prog w hp kk (if c0=c then e else e1):=by
      split
      ·rename_i hcc
       subst hcc
       rw[hc]at p2
       cases p2
       have:=p4.inj e'k
       rw[this]
       exact hek
      ·exact p4
     have r2:ak2 prog w hp kk' (if c0'=c then e else e1'):=by
      split
      ·rename_i hcc
       subst hcc
       rw[hc]at p2'
       cases p2'
       have:=p4'.inj e'k
       rw[this]
       exact hek
      ·exact p4'
     have g1:es[if c0=c then i else c0]?=some (if c0=c then e else e1):=by split<;>assumption
     have g2:es[if c0'=c then i else c0']?=some (if c0'=c then e else e1'):=by split<;>assumption
     have ne1:(if c0=c then i else c0)≠c:=by split<;>omega
     have ne2:(if c0'=c then i else c0')≠c:=by split<;>omega
     have eqc:(if c0=c then i else c0)=(if c0'=c then i else c0'):=by
      generalize (if c0=c then i else c0)=u at eqn ne1
      generalize (if c0'=c then i else c0')=v at eqn ne2
      split at eqn<;>split at eqn<;>omega
     rw[eqc,g2]at g1
     rw[<- Option.some.inj g1]at r1
     exact r1.inj r2
    subst same
    obtain⟨q1,q2⟩:=c7.mp p3
    obtain⟨q3,q4⟩:=c7.mp p3'
    rcases aj8 n n' with z | z | z
    ·exact absurd (q2.trans q4.symm) (t9.mp hnd n n' q1 q3 z)
    ·exact z
    ·exact absurd (q4.trans q2.symm) (t9.mp hnd n' n q3 q1 z)
  refine a8 (ay8 (s:={ s with toks:=s.toks+(k.length+1) }) hu ho hd T hx hi (hek.up hup) (fun e he=>?_) huq ?_)
  ·obtain⟨kk,_,h2⟩:=hfrom e he
   exact⟨kk,h2.up hup⟩
  ·refine j9 ?_
   have:=hq false s.heap (s.toks+(k.length+1)) (L7 _ _) (Heap.SameBut.refl S s.heap)
   rw[if_pos hmem]at this
   exact this ⟨o,es,ep,t,ho,hex,hd,T,hsz,hnd,hok,hto,hfrom⟩
 ·-- it is new
  have hh:∀ e∈es.toList,e.1≠r9 (A1 prog w) k:=fun e he z=>by
   obtain⟨kk,h1,h2⟩:=hfrom e he
   obtain⟨_,_,_,h4⟩:=h2
   have:kk=k:=aV0 (prog:=prog) (w:=w) (hok kk h1) hk (by rw[<- h4,z])
   exact hmem (this ▸ h1)
  refine a8 (aE7 (s:={ s with toks:=s.toks+(k.length+1) }) ho hd T hh fun n hn1 hfr hle hocc=>?_)
  dsimp only
  refine a8 (R6 (s:={ s with toks:=s.toks+(k.length+1) }) ho hd T.fits ?_)
  dsimp only
  obtain⟨hp1,T1⟩:=T.put (h:=r9 (A1 prog w) k) (x:=Value.ref x) hn1 hfr hle hocc
  generalize hpt:t.put (it t n (t.probeStart (r9 (A1 prog w) k))).j=tp at hp1 T1 ⊢
  have hled:tp.1.mask=t.mask:=by
   rw[<- hpt]
   unfold SetTable.put
   rfl
  obtain⟨t1,p⟩:=tp
  dsimp only at hp1 T1 hled ⊢
  have hsz1:(insertAt es p (r9 (A1 prog w) k,Value.ref x)).size=es.size+1:=am7 hp1
  have fits1:(insertAt es p (r9 (A1 prog w) k,Value.ref x)).size<=f6:=by rw[hsz1,hsz,C6];omega
  have made:∀ (h':Heap) (o':Obj) (es':Array En) (ep':Nat) (t':SetTable),Heap.SameBut S s.heap h'->h'.get? S=some o'->o'.ExactSet->o'.data=.set es' ep' t'->Tb t' es' ->
    es'.toList.Perm (insertAt es p (r9 (A1 prog w) k,Value.ref x)).toList->av0 prog w hp h' S (k::ks):=fun h' o' es' ep' t' hsb ho' hex' hd' T' hpm=>by
   have hmemE:∀ e,e∈es'.toList↔e=(r9 (A1 prog w) k,Value.ref x)\/e∈es.toList:=fun e=>by rw[hpm.mem_iff];exact bL2 hp1 e
   have hnew:ak2 prog w hp k (r9 (A1 prog w) k,Value.ref x):=⟨x,rfl,hx0,rfl⟩
   refine⟨o',es',ep',t',ho',hex',hd',T',?_,C7.mpr ⟨hmem,hnd⟩,fun kk hkk=>?_,fun kk hkk=>?_,fun e he=>?_⟩
   ·have:=hpm.length_eq
    rw[j8,j8,hsz1,hsz]at this
    rw[this,a9]
   ·rcases d3.mp hkk with rfl | hkk
    ·exact hk
    ·exact hok kk hkk
   ·rcases d3.mp hkk with rfl | hkk
    ·exact⟨_,(hmemE _).mpr (.inl rfl),hnew⟩
    ·obtain⟨e,he,hek⟩:=hto kk hkk
     exact⟨e,(hmemE e).mpr (.inr he),hek⟩
   ·rcases(hmemE e).mp he with rfl | he
    ·exact⟨k,b9,hnew⟩
    ·obtain⟨kk,h1,h2⟩:=hfrom e he
     exact⟨kk,b8 _ h1,h2⟩
  have rest:∀ b:Bool,p9 (p7 prog w) A (do
    storeSet S (insertAt es p (r9 (A1 prog w) k,Value.ref x)) (if b=true then t1 else { t1 with plain:=false })
    if (!false && (if b=true then t1 else { t1 with plain:=false }).tooFull)=true then do
     setRelay S (grown (es.size+1))
     pure true
    else pure true) Q E { s with toks:=s.toks+(k.length+1) }:=fun b=>by
   have T2:Tb' (if b=true then t1 else { t1 with plain:=false }) (insertAt es p (r9 (A1 prog w) k,Value.ref x)):=by
    split
    ·exact T1
    ·exact T1.plain false
   have hm2:(if b=true then t1 else { t1 with plain:=false }).mask=t.mask:=by split<;>exact hled
   generalize (if b=true then t1 else { t1 with plain:=false })=t2 at T2 hm2
   refine a8 (wpAny_storeSet_of (s:={ s with toks:=s.toks+(k.length+1) }) ho hd ?_ fits1)
   have ho1:=stored (es':=insertAt es p (r9 (A1 prog w) k,Value.ref x)) (t':=t2) ho hd
   have hsb1:=Heap.SameBut.update s.heap S (Obj.putSet (insertAt es p (r9 (A1 prog w) k,Value.ref x)) t2)
   rw[bH9 T2]
   simp only[Bool.not_false,Bool.true_and,decide_eq_true_eq]
   by_cases hful:t2.mask*3<=(insertAt es p (r9 (A1 prog w) k,Value.ref x)).size*5
   ·rw[if_pos hful]
    rw[hsz1,hm2]at hful
    obtain⟨g1,g2,g3⟩:=bc9 T.good T.nf hful (by rw[hsz];exact hn)
    unfold setRelay
    refine a8 (a8 (R6 (s:={ s with heap:=s.heap.update S (Obj.putSet (insertAt es p (r9 (A1 prog w) k,Value.ref x)) t2),toks:=s.toks+(k.length+1) }) ho1 rfl T2.fits ?_))
    dsimp only
    rw[if_neg (by rw[C6];omega)]
    obtain⟨t3,order,hl3,T3,hpm3⟩:=bL6 (M:=sizeAbove (grown (es.size+1)) - 1) (finger:=t2.finger) (moves:=t2.movedTo (sizeAbove (grown (es.size+1)) - 1)) (led:=t2.led) (plain:=t2.plain) (es:=insertAt es p (r9 (A1 prog w) k,Value.ref x)) g1 (by rw[hsz1];exact g2)
    have hrel:t2.relaid ((insertAt es p (r9 (A1 prog w) k,Value.ref x)).map (·.1)) (grown (es.size+1))=some (t3,order):=by
     unfold relaid
     exact hl3
    rw[hrel]
    have hsz3:(order.filterMap ((insertAt es p (r9 (A1 prog w) k,Value.ref x))[·]?)).size=(insertAt es p (r9 (A1 prog w) k,Value.ref x)).size:=by
     rw[<- j8,hpm3.length_eq,j8]
    refine a8 ?_
    show p9 _ _ (if ((order.filterMap ((insertAt es p (r9 (A1 prog w) k,Value.ref x))[·]?)).size != (insertAt es p (r9 (A1 prog w) k,Value.ref x)).size)=true then _ else _) _ _ _
    rw[if_neg (by rw[hsz3];simp)]
    first | refine j9 ?_ | refine a8 (j9 (j9 ?_))
    dsimp only
    refine wpAny_storeSet_of (s:={ s with heap:=s.heap.update S (Obj.putSet (insertAt es p (r9 (A1 prog w) k,Value.ref x)) t2),toks:=s.toks+(k.length+1) }) ho1 rfl ?_ (by rw[hsz3];exact fits1)
    refine j9 ?_
    have ho2:=stored (es':=order.filterMap ((insertAt es p (r9 (A1 prog w) k,Value.ref x))[·]?)) (t':=t3) ho1 rfl
    have hsb2:=hsb1.trans (Heap.SameBut.update _ S (Obj.putSet (order.filterMap ((insertAt es p (r9 (A1 prog w) k,Value.ref x))[·]?)) t3))
    have:=hq true _ (s.toks+(k.length+1)) (L7 _ _) hsb2
    rw[if_neg hmem]at this
    exact this (made _ _ _ _ _ hsb2 ho2 hex rfl T3 hpm3)
   ·rw[if_neg hful]
    refine j9 ?_
    have:=hq true _ (s.toks+(k.length+1)) (L7 _ _) hsb1
    rw[if_neg hmem]at this
    exact this (made _ _ _ _ _ hsb1 ho1 hex rfl (T2.full (by omega)) (List.Perm.refl _))
  cases hpl:t1.plain with
  | true =>
   rw[if_pos rfl]
   refine a8 (ar2 (s:={ s with toks:=s.toks+(k.length+1) }) hx ?_)
   exact rest true
  | false =>
   rw[if_neg j5]
   refine a8 (j9 ?_)
   exact rest true
def W3 (ks:List (List Int))(k:List Int):List (List Int):=if k∈ks then ks else k::ks
theorem bA7 (ks:List (List Int))(k:List Int):(W3 ks k).length<=ks.length+1:=by unfold W3;split<;>simp
theorem aw9:∀ (l ks:List (List Int)),(l.foldl W3 ks).length<=ks.length+l.length
 | [],ks=>by simp
 | k::l,ks=>by
  rw[ab9]
  have h1:=aw9 l (W3 ks k)
  have h2:=bA7 ks k
  rw[a9]
  omega
theorem ar3:∀ (l ks:List (List Int)),(l.foldl W3 ks).length=ks.length+l.length↔l.Nodup/\∀ x∈l,x∉ks
 | [],ks=>by simp
 | k::l,ks=>by
  rw[ab9,a9,C7]
  by_cases h:k∈ks
  ·have e:W3 ks k=ks:=by unfold W3;rw[if_pos h]
   rw[e]
   have:=aw9 l ks
   constructor
   ·intro q;omega
   ·rintro⟨_,q⟩
    exact absurd h (q k b9)
  ·have e:W3 ks k=k::ks:=by unfold W3;rw[if_neg h]
   rw[e]
   have:=ar3 l (k::ks)
   rw[a9]at this
   constructor
   ·intro q
    obtain⟨q1,q2⟩:=this.mp (by omega)
    refine⟨⟨fun hk=>q2 k hk b9,q1⟩,fun x hx=>?_⟩
    rcases d3.mp hx with rfl | hx
    ·exact h
    ·exact fun z=>q2 x hx (b8 _ z)
   ·rintro⟨⟨q1,q2⟩,q3⟩
    have:=this.mpr ⟨q2,fun x hx z=>by
     rcases d3.mp z with rfl | z
     ·exact q1 hx
     ·exact q3 x (b8 _ hx) z⟩
    omega
theorem aQ2 {R:Result->Shared->Prop}{I:Addr}{wr:List Addr}{G:Array bG4->Array bG4->Prop}{P:Nat->Value->Prop}{St:Nat->Shared->Prop}
  (W:WalksS prog w A.in1 I fp wr G n P St)(hu:A.in1.units<aj9)(S:Addr)(hSf:S∉fp)(hp:Heap)(hS0:hp.get? S=none)(hw0:∀ b∈wr,hp.get? b=none)(keys:List (List Int))(hn:keys.length=n)(hb:n<300)
  (hkey:∀ i v,P i v->∃ x k,v=.ref x/\keys[i]?=some k/\at7 k/\J4 (A1 prog w) hp k x) :
  ∀ (c i:Nat) (s:Shared),n - i=c->i<=n->St i s->(∀ b o,hp.get? b=some o->s.heap.get? b=some o)->av0 prog w hp s.heap S ((keys.take i).foldl W3 []) ->
   (∀ s',Moved (S::wr) G s s'->av0 prog w hp s'.heap S (keys.foldl W3 [])->R (.ok (.ret .none)) s') ->
   aP4 (p7 prog w) A (.builtin "set.update.loop" ⟨[.ref S,.ref I],[]⟩) R s:=by
 have hSw:S∉wr:=fun h=>hSf (W.sub _ h)
 have hsub:∀ b∈wr,b∈S::wr:=fun b hb=>b8 _ hb
 have nw:∀ b o,hp.get? b=some o->b∉wr:=fun b o e hm=>by rw[hw0 b hm]at e;cases e
 have nS:∀ b o,hp.get? b=some o->b≠S:=fun b o e hm=>by rw[hm,hS0]at e;cases e
 have setKept:∀ {s s':Shared} {ks:List (List Int)},av0 prog w hp s.heap S ks->(∀ b o,b∉wr->s.heap.get? b=some o->s'.heap.get? b=some o)->av0 prog w hp s'.heap S ks:=fun {s s' ks} hS hk=>by
  obtain⟨o,es,ep,t,ho,rest⟩:=hS
  exact⟨o,es,ep,t,hk S o hSw ho,rest⟩
 intro c
 induction c with
 | zero =>
  intro i s hk hi hst hup hS hR
  have hin:i=n:=by omega
  subst hin
  refine af1 PyProof.Rows.F.entry_set_update_loop ?_
  rw[Around.under_plainId PyProof.Rows.F.plain_set_update_loop _]
  show p9 _ A.in1 (pyNext (.ref I) >>= _) _ _ s
  refine a8 (W.done s _ _ hst fun s' hm=>?_)
  show p9 _ A.in1 (ret Value.none) _ _ s'
  refine j9 (hR s' (hm.mono hsub) ?_)
  have:=setKept hS hm.heap
  rw[i8 (by omega)]at this
  exact this
 | succ c ih =>
  intro i s hk hi hst hup hS hR
  have hlt:i<n:=by omega
  refine af1 PyProof.Rows.F.entry_set_update_loop ?_
  rw[Around.under_plainId PyProof.Rows.F.plain_set_update_loop _]
  show p9 _ A.in1 (pyNext (.ref I) >>= _) _ _ s
  refine a8 (W.item i s _ _ hlt hst fun v s' hP hst' hm=>?_)
  obtain⟨x,k,rfl,hki,hok,hx⟩:=hkey i v hP
  have hup':∀ b o,hp.get? b=some o->s'.heap.get? b=some o:=fun b o e=>hm.heap b o (nw b o e) (hup b o e)
  have hS':=setKept (s':=s') hS hm.heap
  show p9 _ A.in1 (cc5 [Value.ref x] (setAdd S (.ref x)) >>= _) _ _ s'
  refine a8 (M4 ?_)
  have hlen:((keys.take i).foldl W3 []).length<300:=by
   have:=aw9 (keys.take i) []
   rw[n6]at this
   simp only[ao9]at this
   omega
  refine aR2 hup' hu hS' hx hok hlen fun b h' tk htk hsb hS2=>?_
  have hS3:av0 prog w hp h' S ((keys.take (i+1)).foldl W3 []):=by
   rw[o6,hki,List.foldl_append]
   exact hS2
  refine j9 ⟨plainId_quiet PyProof.Rows.F.plain_set_update_loop _,ih (i+1) _ (by omega) hlt (W.frame _ s' _ _ hst' htk fun b hb o e=>?_) (fun b o e=>?_) hS3 fun s'' hm'' hS''=>?_⟩
  ·rw[hsb.2 b (fun h:b=S=>hSf (h ▸ hb))];exact e
  ·show h'.get? b=some o
   rw[hsb.2 b (nS b o e)]
   exact hup' b o e
  ·refine hR s'' (Moved.trans W.gtrans ((hm.mono hsub).then_heap htk fun b o hb e=>?_) hm'') hS''
   rw[hsb.2 b (fun h:b=S=>hb (h ▸ b9))];exact e
set_option maxRecDepth 100000 in
set_option maxHeartbeats 3200000 in
theorem aR0 {items:Array Value}{keys:List (List Int)}(hh:A.handled=none)(hu:A.units+8<aj9)(hl:s.heap.IsList l items)(hn:keys.length=items.size)(hb:items.size<300)
  (hkey:∀ (i:Nat) (v:Value),items[i]?=some v->∃ x k,v=.ref x/\keys[i]?=some k/\at7 k/\J4 (A1 prog w) s.heap k x)
  (h:∀ (h':Heap) (tk:Nat),av0 prog w s.heap h' s.heap.objs.size (keys.foldl W3 [])->(∀ b o,s.heap.get? b=some o->h'.get? b=some o)->Q (.ref s.heap.objs.size) { s with heap:=h',toks:=tk }) :
  p9 (p7 prog w) A (call (.type "set") [.ref l]) Q E s:=by
 obtain⟨c,tl,hmro⟩:=F.called_set.mro
 have hmade:=F.called_set.made
 have hsub:=F.called_set.sub
 refine wpAny_call (codeAny_of_tree ?_)
 show p9 _ _ (callAny (.type "set") _) _ _ _
 refine j9 ⟨Code.quiet_builtin _ (by decide +kernel),af1 F.entry_type_call ?_⟩
 rw[Around.under_plain (weight_type_call_type "set" [.ref l] []) rfl]
 have h1:=F.called_set.notType
 have h2:=F.called_set.canCreate
 have hct:=F.typeCall_set_1 (.ref l)
 repeat (any_goals (first | assumption | wp_step))
 refine au4 (code_set_new_1 (.ref l) (E:=E) (Q₁:=fun obj s₁=>∃ led:Bool,obj=.ref s.heap.objs.size/\s₁={ s with heap:=s.heap.push { cls:=.type "set",dict:=none,data:=.set #[] 0 (.fresh 0 0 led) } }) fun led=>⟨led,rfl,rfl⟩) fun r s₁ hr=>?_
 cases r with
 | error e=>exact hr
 | ok fl =>
  cases fl with
  | ret obj =>
   obtain⟨led,rfl,rfl⟩:=hr
   have hS:(s.heap.push { cls:=.type "set",dict:=none,data:=.set #[] 0 (.fresh 0 0 led) }).get? s.heap.objs.size=some { cls:=.type "set",dict:=none,data:=.set #[] 0 (.fresh 0 0 led) }:=m7 _ rfl
   have hT:Shared.TypeIs { s with heap:=s.heap.push { cls:=.type "set",dict:=none,data:=.set #[] 0 (.fresh 0 0 led) } } (.ref s.heap.objs.size) "set":=⟨_,hS,rfl⟩
   have hli:=F.called_set.init.lookup
   have hbi:=F.called_set.init.bind (.ref s.heap.objs.size)
   repeat (any_goals (first | assumption | wp_step))
   refine au4 (codeAny_call_builtin (R:=wants (fun r s₂=>r=.none/\∃ h' tk,s₂={ s with heap:=h',toks:=tk }/\av0 prog w s.heap h' s.heap.objs.size (keys.foldl W3 [])/\(∀ b o,s.heap.get? b=some o->h'.get? b=some o)) E) F.called_set.init.plain F.entry_set_init (check_set_init_1 hT ?_)) fun r₂ s₂ hr₂=>?_
   ·obtain⟨ol,hol,hcl,nl,hdl⟩:=hl
    obtain⟨ocls,odict,odata,oslots⟩:=ol
    simp only at hcl hdl
    subst hcl;subst hdl
    have hol':(s.heap.push { cls:=.type "set",dict:=none,data:=.set #[] 0 (.fresh 0 0 led) }).get? l=some { cls:=.type "list",dict:=odict,data:=.seq items nl,slots:=oslots }:=a7 _ hol
    have hsls:=F.sub_list_set
    have hslf:=F.sub_list_frozenset
    have hne:(Value.type "list" == Value.type "dict")=false:=by decide
    have hl1:(s.heap.push { cls:=.type "set",dict:=none,data:=.set #[] 0 (.fresh 0 0 led) }).IsList l items:=⟨_,hol',rfl,nl,rfl⟩
    unfold Builtin.«set.__init__» noKeywords Builtin.Frozenset.updateFrom
    generalize hPI:pyIter=PI
    wp_walk
    subst hPI
    refine wpAny_pyIter_list hl1 ?_
    refine a8 (wpAny_runValue ?_)
    have hlS:l<s.heap.objs.size:=j4 hol
    have hh3:A.in1.in1.in1.handled=none:=by simp[hh]
    have hneI:l≠(s.heap.push { cls:=.type "set",dict:=none,data:=.set #[] 0 (.fresh 0 0 led) }).objs.size:=by
     rw[O8];exact m8 (G4 hlS)
    have hSf:s.heap.objs.size∉[(s.heap.push { cls:=.type "set",dict:=none,data:=.set #[] 0 (.fresh 0 0 led) }).objs.size,l]:=by
     rw[O8];simp only[d3,j6,C8,or_false,not_or]
     exact⟨m8 (Nat.lt_succ_self _),Y0 hlS⟩
    refine aQ2 ((Walks.list hh3 _ l hneI items).toS) ?hu s.heap.objs.size hSf s.heap ?hn ?hw keys hn hb hkey (items.size - 0) 0 _ (by omega) (o5 _)
     ⟨⟨_,m7 _ rfl,rfl,rfl⟩,(hl1.push _)⟩ (fun b o e=>a7 _ (a7 _ e)) ?hS0 ?hR
    case hu=>show A.units+1+1+1<aj9;omega
    case hn=>exact as5 (c5 _)
    case hw =>
     intro b hb
     have e:b=(s.heap.push { cls:=.type "set",dict:=none,data:=.set #[] 0 (.fresh 0 0 led) }).objs.size:=by simpa using hb
     rw[e]
     exact as5 (by rw[O8];exact W8 _)
    case hS0 =>
     have hget:((s.heap.push { cls:=.type "set",dict:=none,data:=.set #[] 0 (.fresh 0 0 led) }).push { cls:=.type "list_iterator",data:=.fields #[.ref l,.int 0 0] }).get? s.heap.objs.size
       = some { cls:=.type "set",dict:=none,data:=.set #[] 0 (.fresh 0 0 led) }:=a7 _ hS
     refine⟨_,_,_,_,hget,⟨rfl,rfl,rfl⟩,rfl,⟨rfl,rfl,?_,?_,.inl rfl,by show 0*5<7*3;decide,?_⟩,rfl,be9,(fun _ h=>nomatch h),(fun _ h=>nomatch h),(fun _ h=>nomatch h)⟩
     ·intro i j a b hij ea
      simp[SetTable.fresh]at ea
     ·intro i j ea
      simp[SetTable.fresh]at ea
     ·intro i e ea
      simp at ea
    case hR =>
     intro s' hm hS'
     obtain⟨h',g',d',tk',os'⟩:=s'
     have eg:g'=s.gens:=hm.gens
     have ed:d'=s.drawn:=hm.drawn
     have eo:os'=s.os:=hm.os
     subst eg;subst ed;subst eo
     show p9 _ _ _ _ _ _
     refine j9 ?_
     show p9 _ _ (ret Value.none) _ _ _
     refine j9 ⟨rfl,h',tk',rfl,hS',fun b o e=>?_⟩
     have hlt:=j4 e
     have hb1:b≠s.heap.objs.size:=m8 hlt
     have hb2:b≠(s.heap.push { cls:=.type "set",dict:=none,data:=.set #[] 0 (.fresh 0 0 led) }).objs.size:=by
      rw[O8];exact m8 (G4 hlt)
     exact hm.heap b o (by simp only[d3,j6,C8,or_false,not_or];exact⟨hb1,hb2⟩) (a7 _ (a7 _ e))
   ·cases r₂ with
    | error e=>exact hr₂
    | ok fl₂ =>
     cases fl₂ with
     | ret r =>
      obtain⟨rfl,h',tk,rfl,hS',hk'⟩:=hr₂
      repeat (any_goals (first | assumption | wp_step))
      exact h _ _ hS' hk'
     | _=>exact hr₂.elim
  | _=>exact hr.elim
theorem bb8 {S:Addr}{hp:Heap}(hS:av0 prog w hp s.heap S ks)(hn:ks.length<300)(h:∀ t tk,Q (.int ks.length t) { s with toks:=tk }) :
  p9 (p7 prog w) A (call (.builtin "len") [.ref S]) Q E s:=by
 obtain⟨o,es,ep,t,ho,hex,hd,T,hsz,_⟩:=hS
 refine call_len_set ho hex hd T.fits (by omega) ?_
 rw[hsz]
 exact h _ _
end Sett
namespace L2
open PySem PySem.Spec PyProof.Rows
def u5 (K:W.Frag)(H:Hp)(ys:List V)(ks:List (List Int)):Prop:=Z8 (fun y k=>∃ a,y=V.ref a/\SqT K H a (k.map V.int)) ys ks
theorem u5.len {K:W.Frag}(t:u5 K H ys ks):ys.length=ks.length:=Paired.length t
theorem u5.get {K:W.Frag}:∀ {ys:List V} {ks:List (List Int)} {i:Nat} {y:V},u5 K H ys ks->ys[i]?=some y->∃ a k,y=V.ref a/\ks[i]?=some k/\SqT K H a (k.map V.int)
 | _,_,_,_,.nil,e=>by simp at e
 | _,_,0,_,.cons r _,e=>by
  simp at e
  subst e
  obtain⟨a,h1,h2⟩:=r
  exact⟨a,_,h1,rfl,h2⟩
 | _,_,i+1,y,.cons _ t,e=>by
  obtain⟨a,k,h1,h2,h3⟩:=u5.get (i:=i) (y:=y) t (by simpa using e)
  exact⟨a,k,h1,by simpa using h2,h3⟩
theorem u5.same {K:W.Frag}(hs:∀ b o,H b=some o->H' b=some o):∀ {ys:List V} {ks:List (List Int)},u5 K H ys ks->u5 K H' ys ks
 | _,_,.nil=>.nil
 | _,_,.cons r t=>by
  obtain⟨a,h1,h2⟩:=r
  refine .cons ⟨a,h1,?_⟩ (u5.same hs t)
  rcases h2 with(h | ⟨o,h⟩) | h
  ·exact .inl (.inl (hs _ _ h))
  ·exact .inl (.inr ⟨o,hs _ _ h⟩)
  ·exact .inr h
theorem u5.append {K:W.Frag}:∀ {ys zs:List V} {ks ls:List (List Int)},u5 K H ys ks->u5 K H zs ls->u5 K H (ys++zs) (ks++ls)
 | _,_,_,_,.nil,s=>s
 | _,_,_,_,.cons r t,s=>.cons r (u5.append t s)
theorem aU5:∀ {k:List Int} {its:List Value},C3 (k.map V.int) its->ItemsAre (A1 prog w) k its
 | [],_,.nil=>.nil
 | i::k,_,.cons r t=>by
  obtain⟨tk,rfl⟩:=r
  exact .cons (by simp[A1,Value.isInt]) (aU5 t)
theorem bH8 (I:Inv X pins σ H s)(h:SqT X.K H a (k.map V.int)):J4 (A1 X.prog X.w) s.heap k a:=by
 obtain⟨its,r,⟨o,ho,hc,n,hd⟩,_⟩:=I.tuple h
 exact⟨o,its.toArray,n,ho,hc,hd,by simpa using aU5 r⟩
theorem aa9 (I:Inv X pins σ H s):∀ {ys:List V} {ks:List (List Int)} {us:List Value},u5 X.K H ys ks->C3 ys us->Z8 (fun u k=>∃ a,u=Value.ref a/\J4 (A1 X.prog X.w) s.heap k a) us ks
 | _,_,_,.nil,.nil=>.nil
 | _,_,_,.cons r t,.cons q v=>by
  obtain⟨a,rfl,h⟩:=r
  cases q
  exact .cons ⟨a,rfl,bH8 I h⟩ (aa9 I t v)
theorem ad2 {α β:Type}{R:α->β->Prop}:∀ {l:List α} {m:List β} {i:Nat} {x:α},Z8 R l m->l[i]?=some x->∃ y,m[i]?=some y/\R x y
 | _,_,_,_,.nil,e=>by simp at e
 | _,_,0,_,.cons r _,e=>by simp at e;subst e;exact⟨_,rfl,r⟩
 | _,_,i+1,x,.cons _ t,e=>by
  obtain⟨y,h1,h2⟩:=ad2 (i:=i) (x:=x) t (by simpa using e)
  exact⟨y,by simpa using h1,h2⟩
theorem at3 {α β:Type}{R:α->β->Prop}{l l':List α}(p:l'.Perm l):∀ {m:List β},Z8 R l m->∃ m',m'.Perm m/\Z8 R l' m':=by
 induction p with
 | nil=>intro m h;exact⟨m,List.Perm.refl _,h⟩
 | cons x _ ih =>
  intro m h
  cases h with
  | cons r t =>
   obtain⟨m',p',h'⟩:=ih t
   exact⟨_::m',p'.cons _,.cons r h'⟩
 | swap x y l =>
  intro m h
  cases h with
  | cons r t =>
   cases t with
   | cons r' t'=>exact⟨_::_::_,List.Perm.swap _ _ _,.cons r' (.cons r t')⟩
 | trans _ _ ih1 ih2 =>
  intro m h
  obtain⟨m1,p1,h1⟩:=ih2 h
  obtain⟨m2,p2,h2⟩:=ih1 h1
  exact⟨m2,p2.trans p1,h2⟩
theorem ag4 {α β:Type}{R:α->β->Prop}:∀ {l:List α} {m:List β},Z8 R l m->Z8 (fun b a=>R a b) m l
 | _,_,.nil=>.nil
 | _,_,.cons r t=>.cons r (ag4 t)
theorem az9 {α β:Type}{R S:α->β->Prop}(f:∀ a b,R a b->S a b):∀ {l:List α} {m:List β},Z8 R l m->Z8 S l m
 | _,_,.nil=>.nil
 | _,_,.cons r t=>.cons (f _ _ r) (az9 f t)
theorem at6:X8 X (.builtin "sorted") (fun xs H Q=>∃ p ys ks,xs=[.ref p]/\SqL X.K H p ys/\u5 X.K H ys ks/\(∀ k∈ks,k≠[]) /\
  ∀ l zs ks',H l=none->ks'.Perm ks->ks'.Pairwise (fun a b=>Tim.J5 b a=false)->u5 X.K (upd H l (.lst zs)) zs ks'->Q (.ref l) (upd H l (.lst zs))):=by
 intro pins s σ H xs us Q I r h
 obtain⟨p,ys,ks,rfl,hq,ht,hne,q⟩:=h
 obtain⟨u,rfl,rx⟩:=vals1 r
 cases rx
 obtain⟨its,r',pl,hz⟩:=I.list hq
 have hlen:=r'.length
 have hk:=aa9 I ht r'
 have hv:∀ v∈its,∃ i k,Tim.IsK X.prog X.w s.heap (i::k) v:=fun v hv=>by
  obtain⟨j,hj⟩:=o4.mp hv
  obtain⟨k,h1,a,rfl,h2⟩:=ad2 hk hj
  cases k with
  | nil=>exact absurd rfl (hne [] (d5 h1))
  | cons i k=>exact⟨i,k,a,rfl,h2⟩
 refine Tim.aE5 pl.isList (by omega) hv fun out h' n hp hs kp e=>?_
 obtain⟨zs,pz,rz⟩:=at3 hp (ag4 r')
 have rz':C3 zs out:=ag4 rz
 have hzl:zs.length<=f6:=by rw[pz.length_eq];exact hz
 have hfr:H (s.heap.objs.size+1)=none:=I.hok.fresh (W8 _)
 have keepS:∀ b o,H b=some o->upd H (s.heap.objs.size+1) (.lst zs) b=some o:=fun b o e=>by rw[p6 (t4 e hfr)];exact e
 refine⟨.ref (s.heap.objs.size+1),upd H (s.heap.objs.size+1) (.lst zs),I.laid (t':=s.toks) kp (W8 _) (show L9 X.prog X.w _ h' _ (.lst zs) from ⟨hzl,out,n,rz',e⟩),rfl,?_⟩
 obtain⟨ks',pk,hk'⟩:=at3 pz (show Z8 (fun y k=>∃ a,y=V.ref a/\SqT X.K H a (k.map V.int)) ys ks from ht)
 refine q _ zs ks' hfr pk ?_ (u5.same keepS hk')
 have hko:=aa9 I (show u5 X.K H zs ks' from hk') rz'
 have eq:ks'=out.map (Tim.S7 X.prog X.w s.heap):=by
  clear hs hp rz rz' hk' pk e
  induction hko with
  | nil=>rfl
  | cons r t ih =>
   obtain⟨a,rfl,hka⟩:=r
   rw[i7,Tim.R9 ⟨a,rfl,hka⟩,<- ih]
 rw[eq,G1]
 exact hs
def be2 (P:Program)(w:World)(S:Addr)(n:Nat):HO:=.ext fun h=>∃ hk ks,ks.length=n/\n<300/\Sett.av0 P w hk h S ks
theorem aX4 (hc:X.calm=true)(hu:X.A.units+8<aj9):X8 X (.type "set") (fun xs H Q=>∃ p ys ks,xs=[.ref p]/\SqL X.K H p ys/\u5 X.K H ys ks/\(∀ k∈ks,Sett.at7 k)/\ks.length<300 /\
  ∀ S,H S=none->Q (.ref S) (upd H S (be2 X.prog X.w S (ks.foldl Sett.W3 []).length))):=by
 intro pins s σ H xs us Q I r h
 obtain⟨p,ys,ks,rfl,hq,ht,hok,hb,q⟩:=h
 obtain⟨u,rfl,rx⟩:=vals1 r
 cases rx
 obtain⟨its,r',pl,hz⟩:=I.list hq
 have hlen:=r'.length
 have hk:=aa9 I ht r'
 have hkl:=ht.len
 refine Sett.aR0 (keys:=ks) (I.ok.hd hc) hu pl.isList (by simp;omega) (by simp;omega) (fun i v hv=>?_) fun h' tk hS kp=>?_
 ·obtain⟨k,h1,a,rfl,h2⟩:=ad2 hk (by simpa using hv)
  exact⟨a,k,rfl,h1,hok k (d5 h1),h2⟩
 ·have hle:=Sett.aw9 ks []
  simp only[ao9]at hle
  refine⟨.ref s.heap.objs.size,_,I.laid (o:=be2 X.prog X.w s.heap.objs.size (ks.foldl Sett.W3 []).length) (t':=tk) kp (c5 _) ?_,rfl,q _ (I.hok.fresh (c5 _))⟩
  refine⟨⟨s.heap,ks.foldl Sett.W3 [],rfl,by omega,hS⟩,?_,fun h1 h2 ⟨hk1,ks1,e1,e2,hS1⟩ hkeep=>⟨hk1,ks1,e1,e2,?_⟩⟩
  ·obtain⟨o,_,_,_,ho,_⟩:=hS
   exact⟨o,ho⟩
  ·obtain⟨o,es,ep,t,ho,rest⟩:=hS1
   exact⟨o,es,ep,t,hkeep o ho,rest⟩
theorem call_len_set:X8 X (.builtin "len") (fun xs H Q=>∃ S n,xs=[.ref S]/\H S=some (be2 X.prog X.w S n)/\Q (.int n) H):=by
 intro pins s σ H xs us Q I r h
 obtain⟨S,n,rfl,hS,q⟩:=h
 obtain⟨u,rfl,rx⟩:=vals1 r
 cases rx
 obtain⟨⟨hk,ks,e1,e2,hS1⟩,_⟩:=I.hok S _ hS
 refine Sett.bb8 hS1 (by omega) fun t tk=>?_
 exact⟨.int n,H,I.tok _,⟨t,by rw[e1]⟩,q⟩
def F1 (X:Cx)(scope:Scope)(cl:List (Str × Addr))(N':List Str)(s₃:Shared)(H₃:Hp)(fp:List Addr)(xe':Value->Shared->Prop):Cx:=
 { X with N:=N',s₀:=s₃,H₀:=H₃,env:=R7 scope cl s₃.heap.objs.size X.env,outer:=X.stack,ex:=fp,fn:=fun _=>false,pn:=[],xe:=xe' }
def aD5 (env:Env):List (Str × Addr)->Prop
 | []=>True
 | (x,c)::r=>env.cells.lookup x=some c/\aD5 env r
theorem aD5.get {env:Env}:∀ {cl:List (Str × Addr)} {x:Str} {c:Addr},aD5 env cl->cl.lookup x=some c->env.cells.lookup x=some c
 | [],_,_,_,h=>by cases h
 | (y,d)::r,x,c,⟨h1,h2⟩,h=>by
  rw[cb8]at h
  cases e:x == y with
  | true =>
   rw[e]at h
   cases h
   rw[eq_of_beq e]
   exact h1
  | false =>
   rw[e]at h
   exact aD5.get h2 h
def av1 (names:List (Str × aJ0))(cl:List (Str × Addr)):Bool:=names.all fun y=>y.2 != .cell && (y.2 != .free || (cl.lookup y.1).isSome)
theorem X2 {env:Env}:∀ {names:List (Str × aJ0)} {x:Str} {k:aJ0},(names.map fun(n,k)=>if (k == NameKind.free && env.scope.kind == .function && env.kindOf n == some .cell) then (n,NameKind.cell) else (n,k)).lookup x=some k ->
  ∃ k',(x,k')∈names/\(k'=k\/(k'=.free/\k=.cell))
 | [],_,_,h=>by cases h
 | (n,k0)::r,x,k,h=>by
  rw[i7]at h
  have hn:∀ k1,(List.lookup x ((n,k1)::r.map fun(n,k)=>if (k == NameKind.free && env.scope.kind == .function && env.kindOf n == some .cell) then (n,NameKind.cell) else (n,k)))=some k->(x=n/\k1=k)\/∃ k',(x,k')∈r/\(k'=k\/(k'=.free/\k=.cell)):=fun k1 h=>by
   rw[cb8]at h
   cases e:x == n with
   | true=>rw[e]at h;cases h;exact .inl ⟨eq_of_beq e,rfl⟩
   | false=>rw[e]at h;exact .inr (X2 h)
  dsimp only at h
  by_cases hc:(k0 == NameKind.free && env.scope.kind == .function && env.kindOf n == some .cell)=true
  ·rw[if_pos hc]at h
   rcases hn _ h with⟨rfl,rfl⟩ | ⟨k',h1,h2⟩
   ·simp only[x6]at hc
    have e0:k0=.free:=eq_of_beq hc.1.1
    exact⟨k0,b9,.inr ⟨e0,rfl⟩⟩
   ·exact⟨k',b8 _ h1,h2⟩
  ·rw[if_neg hc]at h
   rcases hn _ h with⟨rfl,rfl⟩ | ⟨k',h1,h2⟩
   ·exact⟨k0,b9,.inl rfl⟩
   ·exact⟨k',b8 _ h1,h2⟩
def ad8 (lk:List (Option Nat))(σ:St):St:=lk.map fun o=>o.bind fun j=>(σ[j]?).join
def bE8 (X:Cx)(N':List Str)(lk:List (Option Nat))(scope:Scope)(cl:List (Str × Addr)):Prop:=
 lk.length=N'.length/\∀ (i j:Nat) (x:Str),N'[i]?=some x->lk[i]?=some (some j)->X.N[j]?=some x/\(X.env.scope.names.lookup x=some .cell\/X.env.scope.names.lookup x=some .free)/\(cl.lookup x).isSome=true /\
  ((R7 scope cl 0 X.env).kindOf x=some .cell\/(R7 scope cl 0 X.env).kindOf x=some .free)
theorem aC6 {H3:Hp}{s3:Shared}{h1:Heap}{tk:Nat}{xe':Value->Shared->Prop}{m0:Str->Option Value}
  (I:Inv X pins σ H3 s3)(hf:∀ b∈fp,R4 X pins H3 b)(hkind:scope.kind=.function)(hcl:aD5 X.env cl)(hfr:av1 scope.names cl=true)(hlk:bE8 X N' lk scope cl)
  (hn:h1.Ns s3.heap.objs.size m0)(hk:∀ b u,s3.heap.get? b=some u->h1.get? b=some u)(hfs:∀ b∈fp,b<s3.heap.objs.size):Inv (F1 X scope cl N' s3 H3 fp xe') [] (ad8 lk σ) H3 { s3 with heap:=h1,toks:=tk }:=by
 have hC:H3 s3.heap.objs.size=none:=I.hok.fresh (c5 _)
 have hmem:∀ y∈scope.names,y.2≠.cell/\(y.2=.free->(cl.lookup y.1).isSome=true):=fun y hy=>by
  unfold av1 at hfr
  rw[S5]at hfr
  have:=hfr y hy
  rw[x6]at this
  refine⟨by simpa using this.1,fun e=>?_⟩
  have h2:=this.2
  rw[e]at h2
  simpa using h2
 have hcell:∀ x c,cl.lookup x=some c->X.env.cells.lookup x=some c:=fun x c e=>hcl.get e
 have clt:∀ x c,cl.lookup x=some c->c<s3.heap.objs.size:=fun x c e=>by
  obtain⟨v,q⟩:=I.cell x c (hcell x c e)
  exact q.lt
 refine⟨⟨I.ok.mod,hkind,I.ok.glob,I.ok.blt,c5 _,fun x y c e1 e2=>I.ok.inj x y c (hcell x c e1) (hcell y c e2),fun x hx=>?_,(fun x c e=>by cases e),I.ok.hd,I.ok.frames,.inl rfl,fun b hb=>?_,fun b o e=>I.bs b o e,p8 I.ok.bsz I.sz,fun b o e hb=>?_,fun b hb z=>?_,I.stack,I.stkFree⟩,
  rfl,I.bare,Un.kept hk,⟨m0,hn,fun i x v e1 e2 e3=>?_⟩,fun x c e=>?_,hC,fun x c e=>?_,(fun p hp=>nomatch hp),I.hok.kept hk,?_⟩
 ·have hx':(relabel scope X.env).names.lookup x=some .cell\/(relabel scope X.env).names.lookup x=some .free:=hx
  have:∃ k',(x,k')∈scope.names/\k'=.free:=by
   rcases hx' with h | h
   ·obtain⟨k',h1,h2⟩:=X2 h
    rcases h2 with h2 | h2
    ·exact absurd h2 (hmem _ h1).1
    ·exact⟨k',h1,h2.1⟩
   ·obtain⟨k',h1,h2⟩:=X2 h
    rcases h2 with h2 | h2
    ·exact⟨k',h1,h2⟩
    ·exact⟨k',h1,h2.1⟩
  obtain⟨k',h1,h2⟩:=this
  exact v9.mp ((hmem _ h1).2 h2)
 ·obtain⟨f0,f1,f2,f3,f4,f5⟩:=hf b hb
  exact⟨m8 (hfs b hb),fun x c e=>f4 x c (hcell x c e)⟩
 ·obtain⟨f0,f1,f2,f3,f4,f5⟩:=hf b hb
  rcases f3 with f3 | f3
  ·exact I.ok.noex b o e f3
  ·exact absurd (p5 (j4 e) (p8 I.ok.bsz f3)) (G5 _)
 ·obtain⟨f0,f1,f2,f3,f4,f5⟩:=hf b hb
  rcases d3.mp (I.stkSub b z) with e | e
  ·exact f1 e
  ·exact f2 e
 ·-- a captured name
  have e2':(ad8 lk σ)[i]?=some (some v):=e2
  unfold ad8 at e2'
  rw[q8]at e2'
  cases hq:lk[i]? with
  | none=>rw[hq]at e2';cases e2'
  | some o =>
   rw[hq]at e2'
   have e2'':(o.bind fun j=>(σ[j]?).join)=some v:=Option.some.inj e2'
   cases o with
   | none=>cases e2''
   | some j =>
    obtain⟨q1,q2,q3,q4⟩:=hlk.2 i j x e1 hq
    have hσ:σ[j]?=some (some v):=by
     have z:(σ[j]?).join=some v:=e2''
     cases hh:σ[j]? with
     | none=>rw[hh]at z;cases z
     | some o=>rw[hh]at z;rw[show o=some v from z]
    obtain⟨m,hnX,hl⟩:=I.loc
    obtain⟨u,r,lo⟩:=hl j x v q1 hσ (q2.elim (fun a=>.inr (.inl a)) (fun a=>.inr (.inr a)))
    refine⟨u,r,.inr ?_⟩
    obtain⟨c,hc⟩:=v9.mp q3
    refine⟨q4,c,hc,?_⟩
    have hcX:=hcell x c hc
    rcases lo with⟨k,_⟩ | ⟨_,c',hc',z⟩
    ·have k':X.env.scope.names.lookup x=some .local:=k
     rw[k']at q2
     rcases q2 with q2 | q2<;>cases q2
    ·rw[hcX]at hc'
     cases hc'
     obtain⟨o,ho,hd⟩:=z
     exact⟨o,hk c o ho,hd⟩
 ·obtain⟨v,o,ho,hd⟩:=I.cell x c (hcell x c e)
  exact⟨v,o,hk c o ho,hd⟩
 ·exact I.freeC x c (hcell x c e)
 ·show (ad8 lk σ).length=N'.length
  unfold ad8
  rw[a6]
  exact hlk.1
def PTs (X:Cx)(ifs:List Expr)(t:TT):Prop:=
 ∀ (pins:List (Addr × Obj)) (s:Shared) (σ:St) (H:Hp) (Q:Bool->Hp->Prop),Inv X pins σ H s->t σ H Q->p9 (p7 X.prog X.w) X.A (forIn ifs true fun c r=>if r=true then do let ok <- isTrue c X.env (eval c X.env);pure (ForInStep.yield ok) else pure (ForInStep.yield r)) (TP X pins σ Q) X.xe s
def bP0:TT:=fun _ H Q=>Q true H
theorem U4:PTs X [] bP0:=fun pins s σ H Q I h=>wpAny_tests_nil ⟨H,I,h⟩
theorem ac7 {c:Expr}{t:TT}(h:PT X c t):PTs X [c] t:=fun pins s σ H Q I q=>wpAny_tests_one (h pins s σ H Q I q)
def bu8 (wi:TI)(lk:List (Option Nat))(g:TG)(tt:TT)(te:TE):TE:=fun σ H Q=>wi σ H fun J H1=>∀ D,H1 D=none->∃ W:Nat->Nat->List V->St->Hp->Prop,(∃ m,W 0 m [] (ad8 lk σ) (upd H1 D (.lst [])))/\∀ i m xs σ' H',W i m xs σ' H' ->
 H' D=some (.lst xs)/\((J.stop i H'/\Q (.ref D) H')\/(J.go i H'/\xs.length<f6/\∀ x H'',J.yld i H' x H''->g x σ' H'' fun σ2 H2=>tt σ2 H2 fun b H3 =>
  if b=true then te σ2 H3 fun v H4=>H4 D=some (.lst xs)/\∃ m',m'<m/\W (i+1) m' (xs++[v]) σ2 (upd H4 D (.lst (xs++[v]))) else ∃ m',m'<m/\W (i+1) m' xs σ2 H3))
theorem N4 {elt iter:Expr}{ifs:List Expr}{wi:TI}{g:TG}{tt:TT}(hc:X.calm=true)(hi:PI X tg iter wi)(hclos:aP5 scope X.env=pure cl)(hkind:scope.kind=.function)
  (hnames:∀ y∈scope.names,y.2=.local->scope.names.lookup y.1=some .local)(hcl:aD5 X.env cl)(hfr:av1 scope.names cl=true)(hlk:bE8 X N' lk scope cl)
  (hg:∀ s3 H3 fp,PG (F1 X scope cl N' s3 H3 fp fun _ _=>False) tg g)(ht:∀ s3 H3 fp,PTs (F1 X scope cl N' s3 H3 fp fun _ _=>False) ifs tt)(he:∀ s3 H3 fp,PE (F1 X scope cl N' s3 H3 fp fun _ _=>False) elt te)
  (hs:∀ x,al0 iter X.env x=pure x:=by intro _;rfl):PE X (.ListComp elt [⟨tg,iter,ifs,0⟩] scope pos) (bu8 wi lk g tt te):=by
 intro pins s σ H Q I h
 rw[eval_ListComp]
 have hcellN:∀ y∈scope.names,y.2≠.cell:=fun y hy=>by
  unfold av1 at hfr
  rw[S5]at hfr
  have:=hfr y hy
  rw[x6]at this
  simpa using this.1
 refine bF9 (use:=none) rfl hs hclos hkind hnames (thn (hi pins s σ H _ I h) fun v s1 h1=>thn h1 fun itv s2 h2=>?_)
 obtain⟨it,fp,tn,J,H2,e,I2,T,st2,f2,q⟩:=h2
 subst e
 refine W1 ?_ (o5 _)
 have hD:H2 s2.heap.objs.size=none:=I2.hok.fresh (c5 _)
 have I3:=I2.lnew (ys:=[]) (its:=[]) (t':=s2.toks) .nil (o5 _)
 obtain⟨W,⟨m0,w0⟩,turn⟩:=q s2.heap.objs.size hD
 have fpl:∀ b∈fp,b<s2.heap.objs.size:=fun b hb=>by
  obtain⟨o,ho,_⟩:=T.obj 0 s2.heap st2 b hb
  exact j4 ho
 refine ay0 hcellN (by intro y hy;cases hy) (fun h1 hns1 hsb1=>?_) hkind
 dsimp only at hns1 hsb1 ⊢
 have e3:s2.heap.push { cls:=.type "list",dict:=none,data:=.seq ([]:List Value).toArray }=s2.heap.push { cls:=.type "list",data:=.seq ([]:List Value).toArray }:=rfl
 generalize hh3:s2.heap.push { cls:=.type "list",dict:=none,data:=.seq ([]:List Value).toArray }=h3 at *
 have I3':Inv X pins σ (upd H2 s2.heap.objs.size (.lst [])) { s2 with heap:=h3,toks:=s2.toks }:=I3
 have size3:h3.objs.size=s2.heap.objs.size+1:=by rw[<- hh3,O8]
 have f3:∀ b∈fp,R4 X pins (upd H2 s2.heap.objs.size (.lst [])) b:=fun b hb=>by
  obtain⟨f0,fr⟩:=f2 b hb
  exact⟨by rw[p6 (m8 (fpl b hb))];exact f0,fr⟩
 have up:∀ b u,h3.get? b=some u->h1.get? b=some u:=fun b u eb=>by
  rw[hsb1.2 b (m8 (j4 eb))]
  exact a7 _ eb
 have I4:Inv (F1 X scope cl N' { s2 with heap:=h3,toks:=s2.toks } (upd H2 s2.heap.objs.size (.lst [])) fp fun _ _=>False) [] (ad8 lk σ) (upd H2 s2.heap.objs.size (.lst [])) { s2 with heap:=h1,toks:=s2.toks+([]:List (Str × Value)).length }:=
  aC6 (s3:={ s2 with heap:=h3,toks:=s2.toks }) I3' f3 hkind hcl hfr hlk hns1 up fun b hb=>by show b<h3.objs.size;rw[size3];exact G4 (fpl b hb)
 have st4:tn 0 h1:=T.keep 0 s2.heap h1 st2 fun b hb o eb=>up b o (by rw[<- hh3];exact a7 _ eb)
 have hCs:h3.objs.size=(R7 scope cl h3.objs.size X.env).locals:=rfl
 have stat:∀ {H':Hp},(∀ b∈fp,H' b=none)->∀ b∈fp,R4 (F1 X scope cl N' { s2 with heap:=h3,toks:=s2.toks } (upd H2 s2.heap.objs.size (.lst [])) fp fun _ _=>False) [] H' b:=fun {H'} hn b hb=>by
  obtain⟨f0,f1,f2',f3',f4,f5⟩:=f3 b hb
  refine⟨hn b hb,?_,fun z=>?_,.inl hb,fun x c ex=>f4 x c (hcl.get ex),fun p hp=>nomatch hp⟩
  ·show b≠h3.objs.size
   rw[size3]
   exact m8 (G4 (fpl b hb))
  ·rcases d3.mp (I3'.stkSub b z) with q | q
   ·exact f1 q
   ·exact f2' q
 have fin:∀ (s':Shared) (σ':St) (H':Hp),Inv (F1 X scope cl N' { s2 with heap:=h3,toks:=s2.toks } (upd H2 s2.heap.objs.size (.lst [])) fp fun _ _=>False) [] σ' H' s'->Q (.ref s2.heap.objs.size) H' ->
   bH0 (p7 X.prog X.w) X.A X.xe none (EP X pins σ Q) (.ref s2.heap.objs.size) h3.objs.size (.ok .next) s':=fun s' σ' H' I' q'=>by
  obtain⟨m,hm,_⟩:=id I'.loc
  have I5:Inv X pins σ H' s':=I3'.call' (ch:=fp) I'.os I'.base I'.hok I'.bare fun b hb=>by
   obtain⟨f0,f1,f2',f3',f4,f5⟩:=f3 b hb
   exact⟨f3',f1,f4,f5⟩
  refine⟨m,hm,fun h' hsb=>?_⟩
  refine⟨.ref s2.heap.objs.size,H',?_,rfl,q'⟩
  have hfc:H' h3.objs.size=none:=I'.free
  have hcl1:∀ b o,h3.get? b=some o->b≠h3.objs.size:=fun b o eb=>m8 (j4 eb)
  obtain⟨h0',g0,d0,t0,o0⟩:=s'
  refine I5.turned (t':=t0) (it:=h3.objs.size) (fun b o hb eb=>(hsb.2 b hb).trans eb) hfc ?_ (.inr I3'.sz) (fun x c ex z=>?_) (fun p hp z=>?_)
  ·exact Y0 I3'.lt
  ·obtain⟨v',q2⟩:=I3'.cell x c ex
   exact absurd q2.lt (by rw[z];exact G5 _)
  ·exact absurd (j4 (I3'.pin p hp).1) (by rw[z];exact G5 _)
 have loop:∀ s5:Shared,s5={ s2 with heap:=h1,toks:=s2.toks+([]:List (Str × Value)).length } ->
   aP4 (p7 X.prog X.w) X.A (.compLoop (.ListComp elt [⟨tg,iter,ifs,0⟩] scope pos) 0 (.ref it) (.ref s2.heap.objs.size) (R7 scope cl h3.objs.size X.env)) (bH0 (p7 X.prog X.w) X.A X.xe none (EP X pins σ Q) (.ref s2.heap.objs.size) h3.objs.size) s5:=by
  rintro s5 rfl
  refine codeAny_loop rfl (fun n s'=>∃ i xs σ' H',Inv (F1 X scope cl N' { s2 with heap:=h3,toks:=s2.toks } (upd H2 s2.heap.objs.size (.lst [])) fp fun _ _=>False) [] σ' H' s'/\tn i s'.heap/\(∀ b∈fp,H' b=none)/\W i n xs σ' H')
   (fun n s6 hI=>?_) m0 ⟨0,[],ad8 lk σ,_,I4,st4,fun b hb=>(f3 b hb).1,w0⟩
  obtain⟨i,xs,σ6,H6,I6,st6,fr6,w6⟩:=hI
  show p9 _ X.A ((compTurn (.ListComp elt [⟨tg,iter,ifs,0⟩] scope pos) 0 (.ref it) (.ref s2.heap.objs.size) (R7 scope cl h3.objs.size X.env)).onRaise (fun x=>do noteFrame x (R7 scope cl h3.objs.size X.env);theTreesLotGoes x)) _ _ s6
  refine wpAny_noted ?_
  rw[compTurn_list]
  refine a8 (aI9 (a8 ?_))
  obtain⟨hD6,hw⟩:=turn i n xs σ6 H6 w6
  rcases hw with⟨stop,qn⟩ | ⟨go,hlen,step⟩
  ·refine thn (T.done (F1 X scope cl N' { s2 with heap:=h3,toks:=s2.toks } (upd H2 s2.heap.objs.size (.lst [])) fp fun _ _=>False) rfl rfl rfl hc i [] s6 σ6 H6 _ I6 (stat fr6) st6 stop) fun r s7 ⟨hr,I7⟩=>?_
   subst hr
   exact j9 (fin s7 σ6 H6 I7 qn)
  ·refine thn (T.item (F1 X scope cl N' { s2 with heap:=h3,toks:=s2.toks } (upd H2 s2.heap.objs.size (.lst [])) fp fun _ _=>False) rfl rfl rfl hc i [] s6 σ6 H6 _ I6 (stat fr6) st6 go) fun r s7 ⟨u,hr,h7⟩=>?_
   subst hr
   refine a8 (thn h7 fun _ s8 ⟨x,H8,I8,r8,y8,st8,fr8⟩=>?_)
   have I8':=I8.pinned (stat fr8) (T.obj _ _ st8)
   refine a8 (E6 (hg _ _ _ _ s8 σ6 H8 x u _ I8' r8 (step x H8 y8)) (fun _ s9 ⟨σ9,H9,I9,q9⟩=>?_) (fun _ _ z=>False.elim z))
   refine a8 (E6 (ht _ _ _ _ s9 σ9 H9 _ I9 q9) (fun ok s10 ⟨H10,I10,q10⟩=>?_) (fun _ _ z=>False.elim z))
   have bS2:∀ {σ':St} {H':Hp} {ys:List V} {s':Shared},Inv (F1 X scope cl N' { s2 with heap:=h3,toks:=s2.toks } (upd H2 s2.heap.objs.size (.lst [])) fp fun _ _=>False) ([]++al5 fp s8.heap) σ' H' s'->(∃ m',m'<n/\W (i+1) m' ys σ' H') ->
     ∃ m',m'<n/\∃ i xs σ' H',Inv (F1 X scope cl N' { s2 with heap:=h3,toks:=s2.toks } (upd H2 s2.heap.objs.size (.lst [])) fp fun _ _=>False) [] σ' H' s'/\tn i s'.heap/\(∀ b∈fp,H' b=none)/\W i m' xs σ' H':=fun {σ' H' ys s'} I' ⟨m',hm,w'⟩=>by
    refine⟨m',hm,i+1,ys,σ',H',I'.unpinned,T.keep _ _ _ st8 fun b hb o eb=>(I'.pin (b,o) (k9 _ (k9 _ (Q5 hb eb)))).1,fun b hb=>?_,w'⟩
    obtain⟨o,eb,_⟩:=T.obj _ _ st8 b hb
    exact(I'.pin (b,o) (k9 _ (k9 _ (Q5 hb eb)))).2.1
   cases ok with
   | false =>
    have q10':∃ m',m'<n/\W (i+1) m' xs σ9 H10:=by simpa using q10
    exact j9 ⟨rfl,bS2 I10 q10'⟩
   | true =>
    rw[if_pos rfl]at q10
    refine a8 (a8 (E6 (he _ _ _ _ s10 σ9 H10 _ I10 q10) (fun y s11 ⟨v11,H11,I11,r11,hD11,q11⟩=>?_) (fun _ _ z=>False.elim z)))
    refine a8 (E6 (ab4 (X:=F1 X scope cl N' { s2 with heap:=h3,toks:=s2.toks } (upd H2 s2.heap.objs.size (.lst [])) fp fun _ _=>False) _ s11 σ9 H11 (.ref s2.heap.objs.size) [v11] (.ref s2.heap.objs.size) [y] (fun _ H'=>∃ m',m'<n/\W (i+1) m' (xs++[v11]) σ9 H') I11 rfl (.cons r11 .nil) ⟨s2.heap.objs.size,xs,v11,rfl,rfl,hD11,hlen,q11⟩) (fun _ s12 ⟨_,H12,I12,_,q12⟩=>?_) (fun _ _ z=>False.elim z))
    exact j9 (j9 ⟨rfl,bS2 I12 q12⟩)
 exact bO8 (loop _ rfl) (T.self X.A 0 _ _ _ st4 (loop _ rfl))
def Itn (K:W.Frag)(a:Addr):It:=
 ⟨fun i H=>∃ xs x,SqL K H a xs/\xs[i]?=some x,fun i H x H'=>∃ t v,H t=none/\x=.ref t/\(∀ xs,SqL K H a xs->xs[i]?=some v)/\H'=upd H t (.tup [.int i,v]),fun i H=>∃ xs,SqL K H a xs/\xs.length<=i⟩
def ch6 (K:W.Frag)(ta:TA):TI:=fun σ H R=>ta σ H fun vs H1=>∃ a,vs=[.ref a]/\(∃ xs,SqL K H1 a xs)/\R (Itn K a) H1
theorem bo1 {K:W.Frag}{elts:List Expr}{x1:Nat}(a it e:Addr)(hne:e≠it):Turn P w K (.Tuple elts x1 pos) (Itn K a) [e,it] e (fun i h=>(∃ old,IsEnum h e it (i:Int) old)/\h.IsListIter it a i) where
 mem:=by simp
 obj:=fun i h st b hb=>by
  obtain⟨⟨old,he⟩,o,ho,hc,hd⟩:=st
  rcases d3.mp hb with rfl | hb
  ·exact⟨_,he,fun v z=>by cases z⟩
  ·have eb:b=it:=by simpa using hb
   subst eb
   exact⟨o,ho,fun v z=>by rw[hd]at z;cases z⟩
 keep:=fun i h h' st k=>by
  obtain⟨⟨old,he⟩,hit⟩:=st
  exact⟨⟨old,k e (by simp) _ he⟩,hit.at fun o q=>k it (by simp) o q⟩
 item:=by
  intro X hP hw hK hc i pins s σ H E I hf st hg
  subst hP hw hK
  obtain⟨xs,x,hq,hx⟩:=hg
  obtain⟨⟨old,he⟩,hit⟩:=st
  obtain⟨its,rv,p,hz⟩:=I.list hq
  obtain⟨u,hu,ru⟩:=rv.get hx
  obtain⟨f0,f1,f2,f3,f4,f5⟩:=hf e (by simp)
  obtain⟨g0,g1,g2,g3,g4,g5⟩:=hf it (by simp)
  refine wpAny_pyNext_enum_item he hit p.isList (x:=u) (by simpa using hu) hne fun h1 heo hit1 ht1 hz1 hk1=>?_
  refine⟨_,rfl,?_⟩
  refine bs9 heo fun h2 he2 hs2=>?_
  have hlt:e<s.heap.objs.size:=j4 he
  have hs2':Heap.SameBut e h1 h2:=hs2
  have ht2:h2.get? s.heap.objs.size=some { cls:=.type "tuple",data:=.seq #[.int i s.toks,u] }:=(hs2'.2 _ (Y0 hlt)).trans ht1
  have kp:∀ b o,b≠e->b≠it->s.heap.get? b=some o->h2.get? b=some o:=fun b o h1' h2' q=>(hs2'.2 b h1').trans (hk1 b o h1' h2' q)
  have hT:H s.heap.objs.size=none:=I.hok.fresh (c5 _)
  have nH:∀ b,H b≠none->b≠e/\b≠it:=fun b hb=>⟨fun z=>hb (z ▸ f0),fun z=>hb (z ▸ g0)⟩
  have keepH:∀ b o,H b=some o->upd H s.heap.objs.size (.tup [.int i,x]) b=some o:=fun b o q=>by rw[p6 (t4 q hT)];exact q
  have hok2:HOk X.prog X.w (upd H s.heap.objs.size (.tup [.int i,x])) h2:=fun b o eb=>by
   by_cases hb:b=s.heap.objs.size
   ·subst hb
    rw[b7]at eb
    cases eb
    exact⟨by show 2<=f6;decide,[.int i s.toks,u],.cons ⟨_,rfl⟩ (.cons ru .nil),⟨_,ht2,rfl,_,rfl⟩⟩
   ·rw[p6 hb]at eb
    refine(I.hok b o eb).stay (fun c v hcc q=>kp c v ?_ ?_ q) (fun c q=>keepH c _ q) fun c ys q=>keepH c _ q
    ·rcases hcc with z | z
     ·exact(nH c (by rw[z,eb];simp)).1
     ·exact(nH c (by rw[z];simp)).1
    ·rcases hcc with z | z
     ·exact(nH c (by rw[z,eb];simp)).2
     ·exact(nH c (by rw[z];simp)).2
  have I2:Inv X pins σ (upd H s.heap.objs.size (.tup [.int i,x])) { s with heap:=h2,toks:=s.toks+1 }:=by
   refine I.step (g':=s.gens) (d':=s.drawn) (t':=s.toks+1) (ch:=[e,it]) (fun b hb=>?_) (fun b o _ _ hcc q _=>kp b o (fun z=>hcc (by simp[z])) (fun z=>hcc (by simp[z])) q) (fun b o _ _ hcc q _=>⟨o.slots,kp b o (fun z=>hcc (by simp[z])) (fun z=>hcc (by simp[z])) q⟩) (fun b o _ q n=>?_)
    (fun b o hcc q=>⟨o,kp b o (fun z=>hcc (by simp[z])) (fun z=>hcc (by simp[z])) q⟩) (fun b ys q=>keepH b _ q) (fun b o v q=>keepH b _ q) (fun b ps q=>⟨#[],by rw[keepH b _ q];simp⟩) (fun m hm=>?_) hok2 I.bare
   ·rcases d3.mp hb with rfl | hb
    ·exact⟨f3,f1,f4,f5⟩
    ·have eb:b=it:=by simpa using hb
     subst eb
     exact⟨g3,g1,g4,g5⟩
   ·rw[p6 (m8 (j4 q))]
    exact n
   ·obtain⟨o,es,ep,ho,r⟩:=hm
    exact⟨o,es,ep,kp _ o (Ne.symm f1) (Ne.symm g1) ho,r⟩
  have hilt:it<s.heap.objs.size:=by
   obtain⟨o,ho,_⟩:=id hit
   exact j4 ho
  refine⟨.ref s.heap.objs.size,_,I2,rfl,⟨s.heap.objs.size,x,hT,rfl,fun ys hy=>by rw[I.list_inj hy hq];exact hx,rfl⟩,⟨⟨u,?_⟩,?_⟩,fun b hb=>?_⟩
  ·have:=he2
   rw[show ((i:Int)+1)=(((i+1:Nat):Int)) by simp]at this
   exact this
  ·exact hit1.at fun o q=>(hs2'.2 it (Ne.symm hne)).trans q
  ·rcases d3.mp hb with rfl | hb
   ·rw[p6 (m8 hlt)];exact f0
   ·have eb:b=it:=by simpa using hb
    subst eb
    rw[p6 (m8 hilt)]
    exact g0
 done:=by
  intro X hP hw hK hc i pins s σ H E I hf st hg
  subst hP hw hK
  obtain⟨xs,hq,hx⟩:=hg
  obtain⟨⟨old,he⟩,hit⟩:=st
  obtain⟨its,rv,p,hz⟩:=I.list hq
  obtain⟨g0,g1,g2,g3,g4,g5⟩:=hf it (by simp)
  have hl:=rv.length
  exact wpAny_pyNext_enum_end (I.ok.hd hc) he hit p.isList (by simp;omega) fun h' eb=>⟨rfl,I.turned (t':=s.toks) (fun b o hb q=>eb b o hb q) g0 g1 g3 g4 g5⟩
 self:=fun _ _ _ _ _ st h=>by
  obtain⟨⟨old,he⟩,_⟩:=st
  exact al3 he h
theorem an4 {a:Expr}{ta:TA}{elts:List Expr}{x1:Nat}{tpos p:Pos}(hg:Gl X "enumerate")(hm:X.mg "enumerate"=none)(ha:PA X [a] ta)(hv:R1 "enumerate"=some (.type "enumerate"):=by rfl)(hs:A6 [a] X.env=[(false,eval a X.env)]:=by rfl) :
  PI X (.Tuple elts x1 tpos) (.Call (.Name "enumerate" p) [a] [] pos) (ch6 X.K ta):=by
 intro pins s σ H R I h
 refine Call_ (aa1 I hg hm hv (PyProof.Rows.callWith_type1 (thn (ha pos pins s σ H _ I h) fun us s1 ⟨vs,H1,I1,r1,q1⟩=>?_) hs rfl))
 obtain⟨b,e,⟨xs,hq⟩,q⟩:=q1
 subst e
 obtain⟨u,rfl,rx⟩:=vals1 r1
 cases rx
 obtain⟨its,rv,pl,hz⟩:=I1.list hq
 refine call_enumerate_list pl.isList fun h' he hit hsz kp=>?_
 refine al3 he ?_
 have hne:s1.heap.objs.size+1≠s1.heap.objs.size:=Nat.succ_ne_self _
 refine⟨s1.heap.objs.size+1,[s1.heap.objs.size+1,s1.heap.objs.size],_,_,H1,rfl,I1.kept (t':=s1.toks) kp,bo1 b s1.heap.objs.size (s1.heap.objs.size+1) hne,⟨⟨_,he⟩,hit⟩,fun c hc=>?_,q⟩
 rcases d3.mp hc with rfl | hc
 ·exact I1.fpOk (W8 _) (I1.hok.fresh (W8 _))
 ·have e:c=s1.heap.objs.size:=by simpa using hc
  subst e
  exact I1.fpOk (c5 _) (I1.hok.fresh (c5 _))
theorem aC2 {K:W.Frag}{g:TG}{tb:TS}{D:Ends}(Pv:Nat->St->Hp->Prop)(h0:Pv 0 σ H)(hl:∀ i σ H,i<=xs.length->Pv i σ H->SqL K H a xs)
  (hs:∀ i x t σ H,xs[i]?=some x->Pv i σ H->H t=none->g (.ref t) σ (upd H t (.tup [.int i,x])) fun σ2 H2=>tb { D with nx:=Pv (i+1),ct:=Pv (i+1),bk:=D.nx } σ2 H2)(hd:∀ σ H,Pv xs.length σ H->D.nx σ H) :
  ∃ W:Nat->Nat->St->Hp->Prop,(∃ m,W 0 m σ H)/\∀ i m σ H,W i m σ H ->
   ((Itn K a).stop i H/\D.nx σ H)\/((Itn K a).go i H/\∃ N:St->Hp->Prop,(∀ σ' H',N σ' H'->∃ m',m'<m/\W (i+1) m' σ' H')/\∀ x H',(Itn K a).yld i H x H'->g x σ H' fun σ2 H2=>tb { D with nx:=N,ct:=N,bk:=D.nx } σ2 H2):=by
 refine⟨fun i m σ H=>m=xs.length - i/\i<=xs.length/\Pv i σ H,⟨xs.length,by simp,o5 _,h0⟩,?_⟩
 rintro i m σ H ⟨rfl,hi,p⟩
 have q:=hl i σ H hi p
 by_cases hlt:i<xs.length
 ·refine .inr ⟨⟨xs,xs[i],q,by simp[hlt]⟩,Pv (i+1),fun σ' H' p'=>⟨xs.length - (i+1),by omega,rfl,hlt,p'⟩,fun x H' y=>?_⟩
  obtain⟨t,v,ht,e,hv,e'⟩:=y
  subst e e'
  exact hs i v t σ H (hv xs q) p ht
 ·have e:i=xs.length:=by omega
  subst e
  exact .inl ⟨⟨xs,q,c5 _⟩,hd σ H p⟩
theorem N1 {K:W.Frag}{D:Addr}{g:TG}{tt:TT}{Qd:Hp->Prop}{σ0:St}{H0:Hp}(Pv:Nat->List V->St->Hp->Prop)(h0:Pv 0 [] σ0 H0)(hz:ys.length<=f6)(hl:∀ i xs σ H,i<=ys.length->Pv i xs σ H->SqL K H a ys/\H D=some (.lst xs)/\xs.length<=i)
  (hs:∀ i xs x σ H (N:List V->St->Hp->Prop),(∀ xs' σ' H',Pv (i+1) xs' σ' H'->N xs' σ' H')->ys[i]?=some x->Pv i xs σ H->g x σ H fun σ2 H2=>tt σ2 H2 fun b H3=>if b=true then te σ2 H3 fun v H4=>H4 D=some (.lst xs)/\N (xs++[v]) σ2 (upd H4 D (.lst (xs++[v]))) else N xs σ2 H3)
  (hd:∀ xs σ H,Pv ys.length xs σ H->Qd H) :
  ∃ W:Nat->Nat->List V->St->Hp->Prop,(∃ m,W 0 m [] σ0 H0)/\∀ i m xs σ' H',W i m xs σ' H'->H' D=some (.lst xs)/\(((Itl K a).stop i H'/\Qd H')\/((Itl K a).go i H'/\xs.length<f6/\∀ x H'',(Itl K a).yld i H' x H''->g x σ' H'' fun σ2 H2=>tt σ2 H2 fun b H3 =>
   if b=true then te σ2 H3 fun v H4=>H4 D=some (.lst xs)/\∃ m',m'<m/\W (i+1) m' (xs++[v]) σ2 (upd H4 D (.lst (xs++[v]))) else ∃ m',m'<m/\W (i+1) m' xs σ2 H3)):=by
 refine⟨fun i m xs σ H=>m=ys.length - i/\i<=ys.length/\Pv i xs σ H,⟨ys.length,by simp,o5 _,h0⟩,?_⟩
 rintro i m xs σ H ⟨rfl,hi,p⟩
 obtain⟨q,hD,hx⟩:=hl i xs σ H hi p
 refine⟨hD,?_⟩
 by_cases hlt:i<ys.length
 ·refine .inr ⟨⟨ys,ys[i],q,by simp[hlt]⟩,by omega,fun x H'' y=>?_⟩
  obtain⟨e,y⟩:=y
  subst e
  exact hs i xs x σ _ (fun zs σ' H'=>∃ m',m'<ys.length - i/\m'=ys.length - (i+1)/\i+1<=ys.length/\Pv (i+1) zs σ' H') (fun zs σ' H' r=>⟨_,by omega,rfl,hlt,r⟩) (y ys q) p
 ·have e:i=ys.length:=by omega
  subst e
  exact .inl ⟨⟨ys,q,c5 _⟩,hd xs σ H p⟩
theorem bC6 {K:W.Frag}{D:Addr}{g:TG}{tt:TT}{Qd:Hp->Prop}{σ0:St}{H0:Hp}(Pv:Nat->List V->St->Hp->Prop)(h0:Pv 0 [] σ0 H0)(hz:ys.length<=f6)(hl:∀ i xs σ H,i<=ys.length->Pv i xs σ H->SqT K H a ys/\H D=some (.lst xs)/\xs.length<=i)
  (hs:∀ i xs x σ H (N:List V->St->Hp->Prop),(∀ xs' σ' H',Pv (i+1) xs' σ' H'->N xs' σ' H')->ys[i]?=some x->Pv i xs σ H->g x σ H fun σ2 H2=>tt σ2 H2 fun b H3=>if b=true then te σ2 H3 fun v H4=>H4 D=some (.lst xs)/\N (xs++[v]) σ2 (upd H4 D (.lst (xs++[v]))) else N xs σ2 H3)
  (hd:∀ xs σ H,Pv ys.length xs σ H->Qd H) :
  ∃ W:Nat->Nat->List V->St->Hp->Prop,(∃ m,W 0 m [] σ0 H0)/\∀ i m xs σ' H',W i m xs σ' H'->H' D=some (.lst xs)/\(((Itt K a).stop i H'/\Qd H')\/((Itt K a).go i H'/\xs.length<f6/\∀ x H'',(Itt K a).yld i H' x H''->g x σ' H'' fun σ2 H2=>tt σ2 H2 fun b H3 =>
   if b=true then te σ2 H3 fun v H4=>H4 D=some (.lst xs)/\∃ m',m'<m/\W (i+1) m' (xs++[v]) σ2 (upd H4 D (.lst (xs++[v]))) else ∃ m',m'<m/\W (i+1) m' xs σ2 H3)):=by
 refine⟨fun i m xs σ H=>m=ys.length - i/\i<=ys.length/\Pv i xs σ H,⟨ys.length,by simp,o5 _,h0⟩,?_⟩
 rintro i m xs σ H ⟨rfl,hi,p⟩
 obtain⟨q,hD,hx⟩:=hl i xs σ H hi p
 refine⟨hD,?_⟩
 by_cases hlt:i<ys.length
 ·refine .inr ⟨⟨ys,ys[i],q,by simp[hlt]⟩,by omega,fun x H'' y=>?_⟩
  obtain⟨e,y⟩:=y
  subst e
  exact hs i xs x σ _ (fun zs σ' H'=>∃ m',m'<ys.length - i/\m'=ys.length - (i+1)/\i+1<=ys.length/\Pv (i+1) zs σ' H') (fun zs σ' H' r=>⟨_,by omega,rfl,hlt,r⟩) (y ys q) p
 ·have e:i=ys.length:=by omega
  subst e
  exact .inl ⟨⟨ys,q,c5 _⟩,hd xs σ H p⟩
mutual
def Dt (K:W.Frag)(H:Hp):au6->V->Prop
 | .none,v=>v=.non
 | .bool b,v=>v=.bl b
 | .int i,v=>v=.int i
 | .str x,v=>v=.str x
 | .list ds,v=>∃ a xs,v=.ref a/\SqL K H a xs/\F3 K H ds xs
 | .tuple ds,v=>∃ a xs,v=.ref a/\SqT K H a xs/\F3 K H ds xs
 | .dict _,_=>False
def F3 (K:W.Frag)(H:Hp):List au6->List V->Prop
 | [],xs=>xs=[]
 | d::ds,xs=>∃ y ys,xs=y::ys/\Dt K H d y/\F3 K H ds ys
end
mutual
theorem Dt.reads (I:Inv X pins σ H s):∀ (d:au6) (v:V) (u:Value),Dt X.K H d v->RelV v u->∃ as,Reads s.heap u d as
 | .none,v,u,h,r=>by unfold Dt at h;subst h;cases r;exact⟨_,.none⟩
 | .bool b,v,u,h,r=>by unfold Dt at h;subst h;cases r;exact⟨_,.bool b⟩
 | .int i,v,u,h,r=>by unfold Dt at h;subst h;obtain⟨t,rfl⟩:=r;exact⟨_,.int i t⟩
 | .str x,v,u,h,r=>by unfold Dt at h;subst h;obtain⟨t,rfl⟩:=r;exact⟨_,.str x t⟩
 | .list ds,v,u,h,r=>by
  unfold Dt at h
  obtain⟨a,xs,rfl,hq,hd⟩:=h
  cases r
  obtain⟨its,rv,⟨o,n,ho,hc,_,hdd⟩,_⟩:=I.list hq
  obtain⟨as,ra⟩:=F3.reads I ds xs its hd rv
  exact⟨_,.list ho hc hdd (by simpa using ra)⟩
 | .tuple ds,v,u,h,r=>by
  unfold Dt at h
  obtain⟨a,xs,rfl,hq,hd⟩:=h
  cases r
  obtain⟨its,rv,⟨o,ho,hc,n,hdd⟩,_⟩:=I.tuple hq
  obtain⟨as,ra⟩:=F3.reads I ds xs its hd rv
  exact⟨_,.tuple ho hc hdd (by simpa using ra)⟩
 | .dict _,v,u,h,r=>by unfold Dt at h;exact h.elim
theorem F3.reads (I:Inv X pins σ H s):∀ (ds:List au6) (xs:List V) (us:List Value),F3 X.K H ds xs->C3 xs us->∃ as,bH1 s.heap us ds as
 | [],xs,us,h,r=>by unfold F3 at h;subst h;cases r;exact⟨_,.nil⟩
 | d::ds,xs,us,h,r=>by
  unfold F3 at h
  obtain⟨y,ys,rfl,h1,h2⟩:=h
  cases r with
  | cons q t =>
   obtain⟨as,ra⟩:=Dt.reads I d y _ h1 q
   obtain⟨bs,rb⟩:=F3.reads I ds ys _ h2 t
   exact⟨_,.cons ra rb⟩
end
mutual
theorem Dt.same {K:W.Frag}(hs:∀ b o,H b=some o->H' b=some o):∀ (d:au6) (v:V),Dt K H d v->Dt K H' d v
 | .none,v,h=>by unfold Dt at h ⊢;exact h
 | .bool b,v,h=>by unfold Dt at h ⊢;exact h
 | .int i,v,h=>by unfold Dt at h ⊢;exact h
 | .str x,v,h=>by unfold Dt at h ⊢;exact h
 | .list ds,v,h=>by
  unfold Dt at h ⊢
  obtain⟨a,xs,rfl,hq,hd⟩:=h
  refine⟨a,xs,rfl,?_,F3.same hs ds xs hd⟩
  rcases hq with(h | ⟨o,h⟩) | h
  ·exact .inl (.inl (hs _ _ h))
  ·exact .inl (.inr ⟨o,hs _ _ h⟩)
  ·exact .inr h
 | .tuple ds,v,h=>by
  unfold Dt at h ⊢
  obtain⟨a,xs,rfl,hq,hd⟩:=h
  refine⟨a,xs,rfl,?_,F3.same hs ds xs hd⟩
  rcases hq with(h | ⟨o,h⟩) | h
  ·exact .inl (.inl (hs _ _ h))
  ·exact .inl (.inr ⟨o,hs _ _ h⟩)
  ·exact .inr h
 | .dict _,v,h=>by unfold Dt at h;exact h.elim
theorem F3.same {K:W.Frag}(hs:∀ b o,H b=some o->H' b=some o):∀ (ds:List au6) (xs:List V),F3 K H ds xs->F3 K H' ds xs
 | [],xs,h=>by unfold F3 at h ⊢;exact h
 | d::ds,xs,h=>by
  unfold F3 at h ⊢
  obtain⟨y,ys,rfl,h1,h2⟩:=h
  exact⟨y,ys,rfl,Dt.same hs d y h1,F3.same hs ds ys h2⟩
end
def dP (k:List Int):au6:=.tuple (k.map .int)
theorem F3.ints {K:W.Frag}:∀ (k:List Int),F3 K H (k.map PyData.int) (k.map V.int)
 | []=>by unfold F3;rfl
 | i::k=>by
  rw[i7,i7]
  unfold F3
  exact⟨_,_,rfl,by unfold Dt;rfl,F3.ints k⟩
theorem F3.tups {K:W.Frag}:∀ {ys:List V} {ks:List (List Int)},u5 K H ys ks->F3 K H (ks.map dP) ys
 | _,_,.nil=>by unfold F3;rfl
 | _,_,.cons r t=>by
  obtain⟨a,rfl,h⟩:=r
  rw[i7]
  unfold F3
  refine⟨_,_,rfl,?_,F3.tups t⟩
  unfold dP Dt
  exact⟨a,_,rfl,h,F3.ints _⟩
theorem lay_ints:∀ k:List Int,PyData.canLayAll0 (k.map .int)=true
 | []=>by simp[PyData.canLayAll0]
 | i::k=>by rw[i7];simp[PyData.canLayAll0,PyData.canLay0,lay_ints k]
theorem aH1:∀ ks:List (List Int),PyData.canLayAll0 (ks.map dP)=true
 | []=>by simp[PyData.canLayAll0]
 | k::ks=>by rw[i7];simp[PyData.canLayAll0,PyData.canLay0,dP,lay_ints k,aH1 ks]
theorem aW5:∀ k k':List Int,PyData.eqvAll (k.map .int) (k'.map .int)=decide (k=k')
 | [],[]=>by simp[PyData.eqvAll]
 | [],_::_=>by simp[PyData.eqvAll]
 | _::_,[]=>by simp[PyData.eqvAll]
 | i::k,j::k'=>by
  rw[i7,i7]
  simp only[PyData.eqvAll,PyData.eqv,aW5 k k']
  by_cases h:i=j
  ·subst h;simp
  ·simp[h]
theorem aW7:∀ k:List Int,PyData.depthAll (k.map .int)<=1
 | []=>by simp[PyData.depthAll]
 | i::k=>by
  have:=aW7 k
  rw[i7]
  simp only[PyData.depthAll,PyData.depth]
  omega
def ba8 (K:W.Frag)(A:Around)(neg:Bool):R2:=fun x y H Q=>∃ p xs dx ds,y=.ref p/\(SqL K H p xs\/SqT K H p xs)/\Dt K H dx x/\F3 K H ds xs/\dx.canLay0=true/\PyData.canLayAll0 ds=true/\A.units+1+dx.depth<aj9 /\
 Q (.bl (if neg then !ds.any (fun d=>PyData.eqv d dx) else ds.any (fun d=>PyData.eqv d dx))) H
open Classical in
noncomputable def aM7 (h:Heap)(dx:au6)(v:Value):Bool:=if q:∃ d as,d.canLay0=true/\Reads h v d as then PyData.eqv (Classical.choose q) dx else false
theorem aM6 {dx d:au6}{v:Value}{as:List Addr}(hl:d.canLay0=true)(r:Reads h v d as):aM7 h dx v=PyData.eqv d dx:=by
 unfold aM7
 have q:∃ d as,d.canLay0=true/\Reads h v d as:=⟨d,as,hl,r⟩
 rw[dif_pos q]
 obtain⟨as',h1,h2⟩:=Classical.choose_spec q
 rw[SeqAt.Reads.unique _ _ _ _ _ h1 h2 r]
theorem aD2 {dx:au6}:∀ {ds:List au6} {us:List Value} {as:List Addr},PyData.canLayAll0 ds=true->bH1 h us ds as->us.any (aM7 h dx)=ds.any (fun d=>PyData.eqv d dx)
 | _,_,_,_,.nil=>rfl
 | d::ds,u::us,_,hl,.cons r t=>by
  have hl':d.canLay0=true/\PyData.canLayAll0 ds=true:=by simpa [PyData.canLayAll0] using hl
  rw[V0,V0,aM6 hl'.1 r,aD2 hl'.2 t]
theorem aq9:∀ {ds:List au6} {us:List Value} {as:List Addr} {u:Value},PyData.canLayAll0 ds=true->bH1 h us ds as->u∈us->∃ d as,d.canLay0=true/\Reads h u d as
 | _,_,_,_,_,.nil,hu=>by cases hu
 | d::ds,_::us,_,u,hl,.cons r t,hu=>by
  have hl':d.canLay0=true/\PyData.canLayAll0 ds=true:=by simpa [PyData.canLayAll0] using hl
  rcases d3.mp hu with rfl | hu
  ·exact⟨d,_,hl'.1,r⟩
  ·exact aq9 hl'.2 t hu
theorem aL1:OpR X (J6 .In) (ba8 X.K X.A false):=by
 intro pins s σ H x y v u Q I rx ry h
 obtain⟨p,xs,dx,ds,rfl,hq,h1,h2,h3,h4,h5,q⟩:=h
 cases ry
 obtain⟨bs,rb⟩:=h1.reads I dx x v rx
 have he:∀ (its:List Value) (as:List Addr),bH1 s.heap its ds as->∀ y,y∈its.toArray->SeqAt.EqAt X.A.in1 s y v (aM7 s.heap dx y):=fun its as ra y hy=>by
  obtain⟨d,cs,hl,rd⟩:=aq9 h4 ra (by simpa using hy)
  rw[aM6 hl rd]
  refine SeqAt.eqAt_reads d dx X.A.in1 s y v cs bs rd rb hl h3 ?_
  show X.A.units+1+min d.depth dx.depth<aj9
  omega
 rcases hq with hq | hq
 ·obtain⟨its,rv,pl,hz⟩:=I.list hq
  obtain⟨as,ra⟩:=h2.reads I ds xs its rv
  refine SeqAt.in_listAt (aM7 s.heap dx) pl.isList (he its as ra) ⟨.bl _,H,I,rfl,?_⟩
  rw[ak6,aD2 h4 ra]
  exact q
 ·obtain⟨its,rv,pl,hz⟩:=I.tuple hq
  obtain⟨as,ra⟩:=h2.reads I ds xs its rv
  refine SeqAt.in_tupleAt (aM7 s.heap dx) pl (he its as ra) ⟨.bl _,H,I,rfl,?_⟩
  rw[ak6,aD2 h4 ra]
  exact q
theorem bp9:OpR X (J6 .NotIn) (ba8 X.K X.A true):=by
 intro pins s σ H x y v u Q I rx ry h
 obtain⟨p,xs,dx,ds,rfl,hq,h1,h2,h3,h4,h5,q⟩:=h
 cases ry
 obtain⟨bs,rb⟩:=h1.reads I dx x v rx
 have he:∀ (its:List Value) (as:List Addr),bH1 s.heap its ds as->∀ y,y∈its.toArray->SeqAt.EqAt X.A.in1 s y v (aM7 s.heap dx y):=fun its as ra y hy=>by
  obtain⟨d,cs,hl,rd⟩:=aq9 h4 ra (by simpa using hy)
  rw[aM6 hl rd]
  refine SeqAt.eqAt_reads d dx X.A.in1 s y v cs bs rd rb hl h3 ?_
  show X.A.units+1+min d.depth dx.depth<aj9
  omega
 rcases hq with hq | hq
 ·obtain⟨its,rv,pl,hz⟩:=I.list hq
  obtain⟨as,ra⟩:=h2.reads I ds xs its rv
  refine SeqAt.notIn_listAt (aM7 s.heap dx) pl.isList (he its as ra) ⟨.bl _,H,I,rfl,?_⟩
  rw[ak6,aD2 h4 ra]
  exact q
 ·obtain⟨its,rv,pl,hz⟩:=I.tuple hq
  obtain⟨as,ra⟩:=h2.reads I ds xs its rv
  refine SeqAt.notIn_tupleAt (aM7 s.heap dx) pl (he its as ra) ⟨.bl _,H,I,rfl,?_⟩
  rw[ak6,aD2 h4 ra]
  exact q
end L2
namespace L2
open PySem PySem.Spec PyProof.Rows
theorem ah1 (hc:X.calm=true):X8 X (.builtin "sum") (fun xs H Q=>∃ (p:Addr) (ns:List Int),xs=[.ref p]/\SqL X.K H p (ns.map V.int)/\Q (.int ns.sum) H):=by
 intro pins s σ H xs us Q I r h
 obtain⟨p,ns,rfl,hq,q⟩:=h
 obtain⟨u,rfl,rx⟩:=vals1 r
 cases rx
 obtain⟨its,r',pl,hz⟩:=I.list hq
 have hi:M7 its ns:=intsAre_of r'
 obtain⟨ys,e⟩:=hi.allInts.items
 refine sum_intListG (xs:=ys) (I.ok.hd hc) (by rw[<- e];exact pl.isList) fun h' tk t' hk=>⟨.int ns.sum,H,I.kept (t':=tk) hk,⟨t',?_⟩,q⟩
 have e2:numsOf (intItems ys).toList=ns:=by rw[<- e];exact hi.numsOf
 rw[nums_intItems]at e2
 rw[preSum_eq,i8 (by simp),e2]
theorem aB9:ci8 X (bV5 X.K):=by
 intro pins s σ H o i ov iv Q I ro ri h
 obtain⟨p,xs,k,z,rfl,rfl,hq,he,q⟩:=h
 cases ro
 obtain⟨t,rfl⟩:=ri
 obtain⟨its,r,pl,hz⟩:=I.list hq
 obtain⟨j,h1,h2,h3,h4,h5⟩:=ax7 he
 obtain⟨w,ew,rw'⟩:=r.get h2
 have hl:=r.length
 have hn:=al6
 have fin:EP X pins σ Q w s:=⟨z,H,I,rw',q⟩
 by_cases h0:0<=k
 ·have hj:k.toNat=j:=by
   rw[bn0 h0 h5]at h1
   exact Option.some.inj h1
  exact wpAny_getItem_list pl.isList h0 (by omega) (by rw[hj];simpa using ew) fin
 ·have hj:(k+(its.toArray.size:Int)).toNat=j:=by
   rw[aY3 (by omega) h4]at h1
   rw[d8,<- hl]
   exact Option.some.inj h1
  exact bO7 pl.isList (by omega) (by rw[d8];omega) (by omega) (by rw[hj];simpa using ew) fin
def LkL (X:Cx)(scope:Scope)(cl:List (Str × Addr)):List Str->List (Option Nat)->Prop
 | [],[]=>True
 | _::N,none::lk=>LkL X scope cl N lk
 | x::N,some j::lk=>(X.N[j]?=some x/\(X.env.scope.names.lookup x=some .cell\/X.env.scope.names.lookup x=some .free)/\(cl.lookup x).isSome=true /\
  ((R7 scope cl 0 X.env).kindOf x=some .cell\/(R7 scope cl 0 X.env).kindOf x=some .free))/\LkL X scope cl N lk
 | _,_=>False
theorem LkL.len:∀ {N:List Str} {lk:List (Option Nat)},LkL X scope cl N lk->lk.length=N.length
 | [],[],_=>rfl
 | _::N,none::lk,h=>congrArg (·+1) (LkL.len (N:=N) (lk:=lk) h)
 | _::N,some _::lk,h=>congrArg (·+1) (LkL.len (N:=N) (lk:=lk) h.2)
 | [],_::_,h=>h.elim
 | _::_,[],h=>h.elim
theorem LkL.get:∀ {N:List Str} {lk:List (Option Nat)},LkL X scope cl N lk->∀ (i j:Nat) (x:Str),N[i]?=some x->lk[i]?=some (some j) ->
  X.N[j]?=some x/\(X.env.scope.names.lookup x=some .cell\/X.env.scope.names.lookup x=some .free)/\(cl.lookup x).isSome=true/\((R7 scope cl 0 X.env).kindOf x=some .cell\/(R7 scope cl 0 X.env).kindOf x=some .free)
 | [],[],_,i,j,x,h1,_=>by simp at h1
 | _::N,none::lk,h,0,j,x,h1,h2=>by simp at h2
 | _::N,none::lk,h,i+1,j,x,h1,h2=>LkL.get (N:=N) (lk:=lk) h i j x (by simpa using h1) (by simpa using h2)
 | y::N,some k::lk,h,0,j,x,h1,h2=>by
  simp at h1 h2
  subst h1 h2
  exact h.1
 | _::N,some _::lk,h,i+1,j,x,h1,h2=>LkL.get (N:=N) (lk:=lk) h.2 i j x (by simpa using h1) (by simpa using h2)
 | [],_::_,h,_,_,_,_,_=>h.elim
 | _::_,[],h,_,_,_,_,_=>h.elim
theorem LkL.ok (h:LkL X scope cl N lk):bE8 X N lk scope cl:=⟨h.len,h.get⟩
theorem P9 {A B:Hp->Prop}(h:A H):bP0 σ H (fun b H3=>if b=true then A H3 else B H3):=by
 show if true=true then A H else B H
 exact P7 h
theorem B2 {v:V}{Q:St->Hp->Prop}(h:Q (σ.set i (some v)) H):aC1 i v σ H Q:=h
theorem SqT.updL {K:W.Frag}{zs:List V}(h:SqT K H a ys)(hl:H l=some (.lst xs)):SqT K (upd H l (.lst zs)) a ys:=by
 rcases h with(h | ⟨o,h⟩) | h
 ·exact .inl (.inl (by rw[p6 (bz2 h hl (by intro z;cases z))];exact h))
 ·exact .inl (.inr ⟨o,by rw[p6 (bz2 h hl (by intro z;cases z))];exact h⟩)
 ·exact .inr h
theorem u5.updL {K:W.Frag}{zs:List V}(hl:H l=some (.lst xs)):∀ {ys:List V} {ks:List (List Int)},u5 K H ys ks->u5 K (upd H l (.lst zs)) ys ks
 | _,_,.nil=>.nil
 | _,_,.cons r t=>by
  obtain⟨a,h1,h2⟩:=r
  exact .cons ⟨a,h1,h2.updL hl⟩ (u5.updL hl t)
theorem u5.one {K:W.Frag}(h:SqT K H a (k.map V.int)):u5 K H [.ref a] [k]:=.cons ⟨a,rfl,h⟩ .nil
theorem y7.seqT {K:W.Frag}(e:y7 H H')(h:SqT K H a xs):SqT K H' a xs:=by
 rcases h with(h | ⟨o,h⟩) | h
 ·exact .inl (.inl (e _ _ h))
 ·exact .inl (.inr ⟨o,e _ _ h⟩)
 ·exact .inr h
theorem y7.tups {K:W.Frag}(e:y7 H H')(h:u5 K H ys ks):u5 K H' ys ks:=u5.same e h
theorem y7.upd {o:HO}(e:y7 H H')(h:H l=none):y7 H (upd H' l o):=fun b u q=>by
 rw[p6 (t4 q h)]
 exact e b u q
end L2
namespace L2
open PySem
theorem bB9 {v v':V}{Q:St->Hp->Prop}(e:v=v')(h:aC1 i v' σ H Q):aC1 i v σ H Q:=by
 rw[e]
 exact h
theorem br7 (xs:List V)(k:Nat):ao3 xs (some (k:Int)) none=xs.drop k:=by
 unfold ao3
 rw[HT.bh2,HT.aR7]
 rcases Nat.le_total k xs.length with h | h
 ·rw[aY5 h]
  exact i8 (by rw[A8];omega)
 ·rw[Nat.min_eq_right h,bt0 h,bt0 (c5 _)]
  simp
theorem bM7 (xs:List V)(k:Nat):ao3 xs none (some (k:Int))=xs.take k:=by
 unfold ao3
 rw[HT.bh2,HT.aR7,be6,Nat.sub_zero]
 rcases Nat.le_total k xs.length with h | h
 ·rw[aY5 h]
 ·rw[Nat.min_eq_right h,i8 h,i8 (c5 _)]
theorem aZ2 {u d:Nat}(h:u+64<aj9)(hd:d<=60):u+1+d<aj9:=by omega
theorem Dt.mkInt {K:W.Frag}{i:Int}:Dt K H (.int i) (.int i):=by unfold Dt;rfl
theorem Dt.mkT {K:W.Frag}{ds:List au6}(h:SqT K H a xs)(d:F3 K H ds xs):Dt K H (.tuple ds) (.ref a):=by unfold Dt;exact⟨a,xs,rfl,h,d⟩
theorem br2 {z:Int}{Q:St->Hp->Prop}(h:∀ c:Int,c=z->aC1 i (.int c) σ H Q):aC1 i (.int z) σ H Q:=h z rfl
theorem int_at {x:V}(h:(ns.map V.int)[i]?=some x):∃ z:Int,x=V.int z:=by
 rw[q8]at h
 cases e:ns[i]? with
 | none=>rw[e]at h;cases h
 | some z=>rw[e]at h;exact⟨z,(Option.some.inj h).symm⟩
theorem br6 (ns:List Int)(lo hi:Option Int):∃ ms:List Int,ao3 (ns.map V.int) lo hi=ms.map V.int/\ms.length<=ns.length:=by
 unfold ao3
 rw[<- bs6,<- bs7]
 exact⟨_,rfl,by rw[n6,A8];omega⟩
theorem aM0 (h:j<n):ixN n (j:Int)=some j:=by
 unfold ixN
 rw[if_pos (by omega),if_pos (by omega)]
 simp
theorem bZ6 (a b:List Int):PyData.eqv (dP a) (dP b)=decide (a=b):=by
 unfold dP
 simp only[PyData.eqv]
 exact aW5 a b
theorem bD9 (k:List Int):∀ ks:List (List Int),(ks.map dP).any (fun d=>PyData.eqv d (dP k))=decide (k∈ks)
 | []=>by simp
 | l::ks=>by
  rw[i7,V0,bZ6,bD9 k ks]
  by_cases h:l=k
  ·subst h;simp
  ·have h':k≠l:=fun e=>h e.symm
   simp[h,h']
theorem bY1 (k:List Int):(dP k).canLay0=true:=by simp[dP,PyData.canLay0,lay_ints]
theorem bZ8 (k:List Int):(dP k).depth<=2:=by
 have:=aW7 k
 simp only[dP,PyData.depth]
 omega
theorem Dt.mkP {K:W.Frag}(h:SqT K H a (k.map V.int)):Dt K H (dP k) (.ref a):=by
 unfold dP
 exact Dt.mkT h (F3.ints k)
theorem u5.dtAll {K:W.Frag}(t:u5 K H ys ks):F3 K H (ks.map dP) ys:=F3.tups t
end L2
namespace Web
open PySem L2
def W2 (i m:Nat):List (List Int):=(n8 m).map fun(d:Nat)=>([(i:Int),(i:Int)+1+(d:Int)]:List Int)
def C5 (n:Nat):List (List Int):=(n8 n).flatMap fun i=>W2 i (n - (i+1))
def Up (n:Nat)(k:List Int):Prop:=∃ i j:Nat,i<j/\j<n/\k=[(i:Int),(j:Int)]
theorem aj0 (h:k∈C5 n):Up n k:=by
 unfold C5 at h
 obtain⟨i,hi,hk⟩:=cb9.mp h
 unfold W2 at hk
 obtain⟨d,hd,rfl⟩:=k8.mp hk
 rw[u6]at hi hd
 exact⟨i,i+1+d,by omega,by omega,by simp⟩
def Asc (ks:List (List Int)):Prop:=ks.Pairwise fun a b=>Tim.J5 a b=true
theorem bN3 (i m:Nat):Asc (W2 i m):=by
 unfold Asc W2
 rw[G1]
 refine List.Pairwise.imp ?_ V7
 intro a b hab
 unfold Tim.J5
 rw[if_pos rfl]
 unfold Tim.J5
 rw[if_neg (by omega)]
 exact decide_eq_true (by omega)
theorem ar9 (n:Nat):Asc (C5 n):=by
 unfold Asc C5
 rw[List.pairwise_flatMap]
 refine⟨fun i _=>bN3 i _,?_⟩
 refine List.Pairwise.imp ?_ V7
 intro a b hab x hx y hy
 unfold W2 at hx hy
 obtain⟨d,hd,rfl⟩:=k8.mp hx
 obtain⟨e,he,rfl⟩:=k8.mp hy
 unfold Tim.J5
 rw[if_neg (by omega)]
 exact decide_eq_true (by omega)
theorem U0:∀ n:Nat,n<=24->(C5 n).length<=276:=by decide +kernel
theorem ad1 (n i:Nat):((n8 (i+1)).flatMap fun j=>W2 j (n - (j+1)))=((n8 i).flatMap fun j=>W2 j (n - (j+1)))++W2 i (n - (i+1)):=by
 rw[E4,ac0]
 simp
theorem aq2 (i m:Nat):W2 i (m+1)=W2 i m++[[(i:Int),(i:Int)+1+(m:Int)]]:=by
 unfold W2
 rw[E4,i9]
 rfl
theorem aU1 (n:Nat):∀ i:Nat,i<=n->((n8 i).flatMap fun j=>W2 j (n - (j+1))).length<=(C5 n).length:=by
 intro i hi
 unfold C5
 obtain⟨d,rfl⟩:=bt1 hi
 rw[List.range_add,ac0,j7]
 omega
theorem as0 (h:Asc ks):ks.Nodup:=by
 refine List.Pairwise.imp ?_ h
 intro a b hab e
 subst e
 rw[Tim.ag5]at hab
 cases hab
theorem bN2 {ls:List (List Int)}(h:ks.Sublist ls)(a:Asc ls):Asc ks:=List.Pairwise.sublist h a
def up:List Int->List Int
 | [a,b]=>[if b<a then b else a,if b > a then b else a]
 | k=>k
theorem cd2 (h:Up n k):up k=k:=by
 obtain⟨i,j,h1,h2,rfl⟩:=h
 show [if (j:Int)<i then (j:Int) else i,if (j:Int) > i then (j:Int) else i]=_
 rw[if_neg (by omega),if_pos (by omega)]
theorem Up.key (h:Up n k)(hn:n<=24):Sett.at7 k:=by
 obtain⟨i,j,h1,h2,rfl⟩:=h
 exact⟨i,j,by omega,by omega,rfl⟩
theorem Up.len (h:Up n k):k.length=2:=by
 obtain⟨i,j,h1,h2,rfl⟩:=h
 rfl
def ah5 (n:Nat)(k:List Int):Prop:=∃ i j:Nat,i<n/\j<n/\i≠j/\k=[(i:Int),(j:Int)]
theorem ah5.up (h:ah5 n k):Up n (up k):=by
 obtain⟨i,j,h1,h2,h3,rfl⟩:=h
 show Up n [if (j:Int)<i then (j:Int) else i,if (j:Int) > i then (j:Int) else i]
 by_cases h:i<j
 ·rw[if_neg (by omega),if_pos (by omega)]
  exact⟨i,j,h,h2,rfl⟩
 ·rw[if_pos (by omega),if_neg (by omega)]
  exact⟨j,i,by omega,h1,rfl⟩
theorem Up.ends (h:Up n k):ah5 n k:=by
 obtain⟨i,j,h1,h2,rfl⟩:=h
 exact⟨i,j,by omega,h2,by omega,rfl⟩
end Web
namespace L2
open PySem
def X7.around {k:Nat}{A:Around}(_:X7 k A):Around:=A
theorem bi3 (K:W.Frag)(A:Around)(hK:X.K=K)(hA:X.A=A):OpR X (J6 .In) (ba8 K A false):=by subst hK hA;exact aL1
theorem aA1 (K:W.Frag)(A:Around)(hK:X.K=K)(hA:X.A=A):OpR X (J6 .NotIn) (ba8 K A true):=by subst hK hA;exact bp9
end L2
namespace L2
open PySem PySem.Spec PyProof.Rows
section
variable {o:Expr} {to:TE} {t:TA} {name:Str} {apos cpos:Pos} {T id:String}
theorem aC3 (p:Int):∀ k:List Int,(k.map PyData.int).any (fun d=>PyData.eqv d (.int p))=decide (p∈k)
 | []=>by simp
 | i::k=>by
  rw[i7,V0,aC3 p k]
  by_cases h:i=p
  ·subst h;simp[PyData.eqv]
  ·have h':p≠i:=fun e=>h e.symm
   simp[PyData.eqv,h,h']
end
theorem bj8:∀ {vs:List Value} {n i:Nat},vs.length=n->(∀ j v,vs[j]?=some v->∃ t,v=Value.int (((i+j:Nat):Int)) t)->M7 vs ((L8 i n).map fun k:Nat=>(k:Int))
 | [],n,i,e,_=>by subst e;exact .nil
 | v::vs,0,i,e,_=>by cases e
 | v::vs,n+1,i,e,h=>by
  obtain⟨t,rfl⟩:=h 0 v rfl
  rw[ak7,i7]
  refine .cons _ t (bj8 (by simpa using e) fun j v hv=>?_)
  obtain⟨t',e'⟩:=h (j+1) v (by simpa using hv)
  exact⟨t',by rw[e'];congr 2;omega⟩
theorem aX0 {r:Addr}{t u v:Tok}{Q:List Value->Shared->Prop}(hh:A.handled=none)(hr:IsRange s.heap r 0 n 1 t u v)(hn:n<=1000)
  (h:∀ h' tk vs,(∀ b o,s.heap.get? b=some o->h'.get? b=some o)->M7 vs ((L8 0 n).map fun k:Nat=>(k:Int))->Q vs { s with heap:=h',toks:=tk }) :
  p9 (p7 prog w) A (collect (.ref r)) Q E s:=by
 unfold collect
 refine a8 (wpAny_runValue (af1 F.entry_proto_collect ?_))
 rw[Around.under_plainId F.plain_proto_collect _]
 show p9 _ A.in1 (newList [] >>= fun l=>bS2 (.builtin "list.__iadd__" ⟨[l,.ref r],[]⟩)) _ _ s
 refine a8 (aP6 ?_)
 refine j9 ⟨plainId_quiet F.plain_list_iadd _,af1 F.entry_list_iadd ?_⟩
 rw[Around.under_plainId F.plain_list_iadd _]
 show p9 _ A.in1 (Builtin.List.listExtendWith (.ref s.heap.objs.size) (.ref r) (.ref s.heap.objs.size)) _ _ _
 have hS:(s.heap.push { cls:=.type "list",data:=.seq ([]:List Value).toArray }).get? s.heap.objs.size=some { cls:=.type "list",data:=.seq #[] }:=m7 _ rfl
 have hrs:Builtin.Range.rangeSize 0 n 1=(n:Int):=by rw[bG5];split<;>omega
 refine wpAny_extend_range (R:=fun rr s'=>match rr with
  | .ok (.ret v)=>p9 (p7 prog w) A (match v with
   | .ref a=>(do
    let o <- load a
    match o.data with
    | .seq xs _=>pure xs.toList
    | _=>af0 "internal:collect")
   | _=>af0 "internal:collect") Q E s'
  | .ok _=>False
  | .error e=>E e s') (s:={ s with heap:=s.heap.push { cls:=.type "list",data:=.seq ([]:List Value).toArray } }) (n:=n) hh (a7 _ hr) (small_one (by omega) (by omega) (by omega) (by omega)) hrs (by omega) s.heap.objs.size _ 0 hS fun h' tk acc' c' hk hS' hacc=>?_
 show p9 _ A (load s.heap.objs.size >>= _) _ _ _
 refine a8 (wpAny_load hS' ?_)
 refine j9 (h h' tk _ (fun b o e=>hk b o (m8 (j4 e)) (a7 _ e)) (bj8 (by rw[j8];exact hacc.1) fun j v hj=>?_))
 obtain⟨t',e⟩:=hacc.2 j v (by rw[<- c8];exact hj)
 exact⟨t',by rw[e];congr 1;omega⟩
theorem R4.to {b:Addr}(f:R4 X pins H b)(h:H' b=none):R4 X pins H' b:=⟨h,f.2⟩
theorem Inv.turn {it:Addr}(I:Inv X pins σ H s)(f:R4 X pins H it)(k:∀ b o,b≠it->s.heap.get? b=some o->h'.get? b=some o):Inv X pins σ H { s with heap:=h',toks:=t' }:=
 I.turned k f.1 f.2.1 f.2.2.2.1 f.2.2.2.2.1 f.2.2.2.2.2
theorem Inv.take {o:HO}(I:Inv X pins σ H s)(f:R4 X pins H a)(k:∀ b u,b≠a->s.heap.get? b=some u->h'.get? b=some u)(new:L9 X.prog X.w (upd H a o) h' a o):Inv X pins σ (upd H a o) { s with heap:=h',toks:=t' }:=by
 have hn:=f.1
 have ne:∀ b u,H b=some u->b≠a:=fun b u e=>t4 e hn
 have kp:∀ b u,H b=some u->upd H a o b=some u:=fun b u e=>by rw[p6 (ne b u e)];exact e
 refine I.step (g':=s.gens) (d':=s.drawn) (ch:=[a]) (fun b hb=>?_) (fun b u _ _ hc e _=>k b u (fun z=>hc (by simp[z])) e) (fun b u _ _ hc e _=>⟨u.slots,k b u (fun z=>hc (by simp[z])) e⟩) (fun b u hc _ n=>by rw[p6 (fun z=>hc (by simp[z]))];exact n)
  (fun b u hc e=>⟨u,k b u (fun z=>hc (by simp[z])) e⟩) (fun b xs e=>kp b _ e) (fun b u xs e=>kp b _ e) (fun b ps e=>⟨#[],by rw[kp b _ e];simp⟩) (fun m hm=>?_) (fun b u e=>?_) I.bare
 ·have e:b=a:=by simpa using hb
  subst e
  exact⟨f.2.2.2.1,f.2.1,f.2.2.2.2.1,f.2.2.2.2.2⟩
 ·obtain⟨o',es,ep,ho,r⟩:=hm
  exact⟨o',es,ep,k _ o' (Ne.symm f.2.1) ho,r⟩
 ·by_cases hb:b=a
  ·subst hb
   rw[b7]at e
   cases e
   exact new
  ·rw[p6 hb]at e
   refine(I.hok b u e).stay (fun c v hc q=>k c v ?_ q) (fun c q=>?_) fun c xs q=>?_
   ·rcases hc with z | z
    ·rw[z];exact hb
    ·exact ne c _ z
   ·exact kp _ _ q
   ·exact kp _ _ q
abbrev aN8 (X:Cx)(A:Around)(σ:St)(H:Hp)(f:Value)(key:Int->List Int)(z:Int):Prop:=∀ (t:Tok) (pins':List (Addr × Obj)) (s':Shared) (H':Hp),Inv X pins' σ H' s'->y7 H H' ->
 p9 (p7 X.prog X.w) A (call f [.int z t]) (fun u s''=>∃ k H'',u=.ref k/\H'' k=some (.tup ((key z).map V.int))/\Inv X pins' σ H'' s''/\y7 H' H'') (fun _ _=>False) s'
abbrev aN9 (X:Cx)(pins:List (Addr × Obj))(σ:St)(H:Hp)(a:Addr)(zs:List Int)(key:Int->List Int)(P:PySem.Fin->Shared->Prop):Prop:=∀ (H':Hp) (s':Shared) (out:List Value) (zs':List Int) (c:Nat),Inv X pins σ H' s'->y7 H H'->R4 X pins H' a ->
 s'.heap.get? a=some (F7 "list" out.toArray c)->M7 out zs'->zs'.Perm zs->zs'.Pairwise (fun x y=>Tim.J5 (key y) (key x)=false)->P (.done (.ret .none)) s'
theorem aB5 {key:Int->List Int}:∀ {ks vs:List Value} {zs:List Int},Z8 (fun u k=>Tim.IsK prog w h k u) ks (zs.map key)->M7 vs zs ->
  (∀ p∈ks.zip vs,Tim.IsK prog w h (key (numOf p.2)) p.1)/\(ks.zip vs).map (fun p=>numOf p.2)=zs
 | _,_,[],.nil,.nil=>⟨fun p h=>(nomatch h),rfl⟩
 | _,_,z::zs,.cons r t,.cons _ t' q=>by
  obtain⟨h1,h2⟩:=aB5 t q
  refine⟨fun p hp=>?_,by rw[aD6,i7,h2];rfl⟩
  rw[aD6]at hp
  rcases d3.mp hp with rfl | hp
  ·exact r
  ·exact h1 p hp
theorem aH5:∀ {vs:List Value} {zs:List Int},M7 vs zs->∀ v∈vs,∃ t,v=.int (numOf v) t
 | _,_,.nil,v,h=>by cases h
 | _,_,.cons z t q,v,h=>by
  rcases d3.mp h with rfl | h
  ·exact⟨t,rfl⟩
  ·exact aH5 q v h
theorem bj9:∀ {vs:List Value},(∀ v∈vs,∃ t,v=.int (numOf v) t)->M7 vs (vs.map numOf)
 | [],_=>.nil
 | v::vs,h=>by
  obtain⟨t,e⟩:=h v b9
  rw[i7]
  rw[e]
  exact .cons _ t (bj9 fun v hv=>h v (b8 _ hv))
set_option maxHeartbeats 2000000 in
theorem aU4 {kS:Addr}{keys:Array Value}{e e1:Nat}{key:Int->List Int}{P:PySem.Fin->Shared->Prop}{st:SortSt}{H0:Hp}(I:Inv X pins σ H s)(hS:y7 H0 H)(hk:s.heap.get? kS=some (F7 "list" keys e))(ha:s.heap.get? a=some (F7 "list" #[] e1))
  (fk:R4 X pins H kS)(fa:R4 X pins H a)(hka:kS≠a)(hz:vs.length<=1000)(hkl:keys.size=vs.length)(hi:M7 vs zs)
  (hK:Z8 (fun u k=>Tim.IsK X.prog X.w s.heap k u) keys.toList (zs.map key))(hp:(l9 st).Perm (keys.zip vs.toArray))(hf:M3 st=none)
  (hs:(l9 st).toList.Pairwise (Tim.le (Tim.Bf (O:=Tim.bb7) fun p=>Tim.S7 X.prog X.w s.heap p.1)))(h:aN9 X pins σ H0 a zs key P) :
  p9 (p7 X.prog X.w) A (ksk_tail a false e1 (.ref kS) st) P E s:=by
 obtain⟨k1,k2⟩:=aB5 hK hi
 have hl:(l9 st).toList.Perm (keys.toList.zip vs):=by rw[<- ksk_zip];exact L1.mp hp
 have hsz2:(l9 st).size=vs.length:=by rw[hp.size_eq,Array.size_zip,hkl,d8,Nat.min_self]
 have s1:=Heap.SameBut.update s.heap kS (Obj.mapSeq fun _=>(#[]:Array Value))
 have na1:(s.heap.update kS (Obj.mapSeq fun _=>(#[]:Array Value))).get? a=some (F7 "list" #[] e1):=(s1.2 a hka.symm).trans ha
 have hout:((l9 st).map (·.2)).size=vs.length:=by rw[ae7];exact hsz2
 have hmem:∀ v∈(l9 st).toList.map (·.2),∃ t,v=.int (numOf v) t:=fun v hv=>by
  obtain⟨p,hp',rfl⟩:=k8.mp hv
  exact aH5 hi _ (ao7 (hl.mem_iff.mp hp')).2
 unfold ksk_tail
 dsimp only
 refine a8 (ac3 hk rfl ?_ (by rw[hkl,C6];omega) (o5 _))
 refine a8 (wpAny_letGo ?_)
 refine a8 (bn4 na1 rfl ?_)
 refine a8 (ac3 na1 rfl ?_ (o5 _) (p8 (af5 hout) (by rw[C6];omega)))
 rw[hf]
 simp only[bne_self_eq_false,l6,if_false]
 have I1:Inv X pins σ H { s with heap:=s.heap.update kS (Obj.mapSeq fun _=>(#[]:Array Value)),toks:=s.toks }:=I.turn fk fun b o hb q=>(s1.2 b hb).trans q
 have s2:=Heap.SameBut.update (s.heap.update kS (Obj.mapSeq fun _=>(#[]:Array Value))) a (Obj.mapSeq fun _=>(l9 st).map (·.2))
 have I2:Inv X pins σ H { s with heap:=(s.heap.update kS (Obj.mapSeq fun _=>(#[]:Array Value))).update a (Obj.mapSeq fun _=>(l9 st).map (·.2)),toks:=s.toks }:=
  I1.turn (t':=s.toks) fa fun b o hb q=>(s2.2 b hb).trans q
 obtain⟨c2,hc2⟩:∃ c2,((s.heap.update kS (Obj.mapSeq fun _=>(#[]:Array Value))).update a (Obj.mapSeq fun _=>(l9 st).map (·.2))).get? a=some (F7 "list" ((l9 st).map (·.2)) c2):=⟨_,W0 na1 fun _=>(l9 st).map (·.2)⟩
 have eo:((l9 st).toList.map (·.2)).toArray=(l9 st).map (·.2):=by rw[<- ca8,Y6]
 refine j9 (h H _ ((l9 st).toList.map (·.2)) (((l9 st).toList.map (·.2)).map numOf) c2 I2 hS fa (by rw[eo];exact hc2) (bj9 hmem) ?_ ?_)
 ·have:=hl.map fun p=>numOf p.2
  rw[k2]at this
  rw[C2]
  exact this
 ·rw[C2,G1]
  refine List.Pairwise.imp_of_mem ?_ hs
  intro x y hx hy hxy
  have ex:=Tim.R9 (k1 x (hl.mem_iff.mp hx))
  have ey:=Tim.R9 (k1 y (hl.mem_iff.mp hy))
  have hxy':Tim.J5 (Tim.S7 X.prog X.w s.heap y.1) (Tim.S7 X.prog X.w s.heap x.1)=false:=hxy
  rw[ex,ey]at hxy'
  exact hxy'
theorem bL8 {kS:Addr}{keys:Array Value}{e e1:Nat}{key:Int->List Int}{P:PySem.Fin->Shared->Prop}{H0:Hp}(I:Inv X pins σ H s)(hS:y7 H0 H)(hk:s.heap.get? kS=some (F7 "list" keys e))(ha:s.heap.get? a=some (F7 "list" #[] e1))
  (fk:R4 X pins H kS)(fa:R4 X pins H a)(hka:kS≠a)(hz:vs.length<=1000)(hkl:keys.size=vs.length)(hi:M7 vs zs)
  (hK:Z8 (fun u k=>Tim.IsK X.prog X.w s.heap k u) keys.toList (zs.map key))(hne:∀ z,∃ i k,key z=i::k)(h:aN9 X pins σ H0 a zs key P) :
  p9 (p7 X.prog X.w) A (ksk_end a false vs.toArray e1 (.ref kS) keys) P E s:=by
 obtain⟨k1,k2⟩:=aB5 hK hi
 have hzt:=ksk_zip keys vs
 unfold ksk_end
 dsimp only
 simp only[l6,if_false]
 by_cases h2:vs.toArray.size<2
 ·rw[if_pos h2,if_pos h2]
  refine a8 (j9 ?_)
  rw[StateT.run_pure]
  refine a8 (j9 ?_)
  refine aU4 (st:=SortSt.mk' general' (keys.zip vs.toArray) #[] 7 none) I hS hk ha fk fa hka hz hkl hi hK (Array.Perm.refl _) rfl ?_ h
  show (keys.zip vs.toArray).toList.Pairwise _
  rw[t9]
  intro i j hi hj hij
  rw[j8,Array.size_zip,hkl]at hj
  rw[d8]at h2 hj
  omega
 ·rw[if_neg h2,if_neg h2]
  rw[d8]at h2
  have hmemK:∀ v∈keys.toList,∃ i k,Tim.IsK X.prog X.w s.heap (i::k) v:=fun v hv=>by
   obtain⟨j,hj⟩:=o4.mp hv
   obtain⟨k,q1,q2⟩:=ad2 hK hj
   obtain⟨z,_,rfl⟩:=k8.mp (d5 q1)
   obtain⟨i,k',ek⟩:=hne z
   rw[ek]at q2
   exact⟨i,k',q2⟩
  have kk:keyKind' keys=keyKind' keys.toList.toArray:=by rw[Y6]
  rw[kk]
  refine a8 (Tim.aB4 (vs:=keys.toList) (by rw[j8,hkl];omega) hmemK ?_)
  refine a8 (E6 (Tim.as6 (a₀:=keys.zip vs.toArray) (κ:=bG9 true) (O:=Tim.bb7) (f:=fun p=>Tim.S7 X.prog X.w s.heap p.1) (st:=SortSt.mk' (bG9 true) (keys.zip vs.toArray) #[] 7 none)
   (Q:=fun _ st'=>(l9 st').Perm (keys.zip vs.toArray)/\M3 st'=none/\(l9 st').toList.Pairwise (Tim.le (Tim.Bf (O:=Tim.bb7) fun p=>Tim.S7 X.prog X.w s.heap p.1))) ?_ ([]:List Int) (Array.Perm.refl _) rfl rfl rfl fun st' a1 a2 a3=>⟨a1,a2,a3⟩) ?_ fun _ _ e=>e)
  ·intro x y hx hy Q hq
   rw[hzt]at hx hy
   refine Tim.aU0 (k1 x hx) (k1 y hy) ?_
   rw[<- Tim.R9 (k1 x hx),<- Tim.R9 (k1 y hy)]
   exact hq
  ·rintro⟨⟨⟩,st'⟩ s' ⟨rfl,hp,hf,hs⟩
   exact aU4 I hS hk ha fk fa hka hz hkl hi hK hp hf hs h
theorem bB2:∀ {vs:List Value} {zs:List Int} {j:Nat} {x:Value},M7 vs zs->vs[j]?=some x->∃ z t,zs[j]?=some z/\x=.int z t
 | _,_,_,_,.nil,h=>by simp at h
 | _,_,0,_,.cons n t q,h=>by simp at h;exact⟨n,t,rfl,h.symm⟩
 | _,_,j+1,_,.cons n t q,h=>by
  obtain⟨z,t',h1,h2⟩:=bB2 q (by simpa using h)
  exact⟨z,t',by simpa using h1,h2⟩
theorem bC0 {s':Shared}{b:Addr}{o:Obj}(I:Inv X (pins++al5 fp h) σ H' s')(hb:b∈fp)(e:h.get? b=some o):s'.heap.get? b=some o/\H' b=none:=
 let p:=I.pin (b,o) (k9 _ (k9 _ (Q5 hb e)))
 ⟨p.1,p.2.1⟩
theorem bA2 {kS:Addr}{f:Value}{e1:Nat}{key:Int->List Int}{P:PySem.Fin->Shared->Prop}(I:Inv X pins σ H s)(hk:s.heap.get? kS=some (F7 "list" #[] 0))(ha:s.heap.get? a=some (F7 "list" #[] e1))
  (fk:R4 X pins H kS)(fa:R4 X pins H a)(hka:kS≠a)(hz:vs.length<=1000)(hi:M7 vs zs)(hne:∀ z,∃ i k,key z=i::k)(turn:∀ z∈zs,aN8 X A σ H f key z)(h:aN9 X pins σ H a zs key P) :
  p9 (p7 X.prog X.w) A (ksk_rest a f false vs.toArray e1 (.ref kS)) P E s:=by
 have hlen:=hi.length
 unfold ksk_rest
 refine a8 (bF6 ?_)
 first
  | rw[List.forIn_toArray]
  | (rw[<- ae4];simp only[bO2])
  | rw[<- ae4]
 refine a8 (ksk_fold (fun i s'=>∃ (kA:Array Value) (e:Nat) (H':Hp) (ys:List V),Inv X pins σ H' s'/\y7 H H'/\s'.heap.get? kS=some (F7 "list" kA e)/\s'.heap.get? a=some (F7 "list" #[] e1)/\R4 X pins H' kS/\R4 X pins H' a /\
   C3 ys kA.toList/\u5 X.K H' ys ((zs.take i).map key)) vs 0 s ⟨#[],0,H,[],I,y7.refl H,hk,ha,fk,fa,.nil,.nil⟩ ?step ?done)
 case step =>
  rintro j x s' hx ⟨kA,e,H',ys,I',hS,hk',ha',fk',fa',hv,ht⟩
  simp only[F5]at ht ⊢
  have hj:j<vs.length:=(c7.mp hx).1
  obtain⟨z,t,hzj,rfl⟩:=bB2 hi hx
  have hzA:kA.size<=vs.length:=by
   have h1:ys.length=kA.size:=by rw[<- j8];exact hv.length
   have h2:=ht.len
   rw[a6,n6]at h2
   omega
  have Ip:=I'.pinned (fp:=[kS,a]) (fun b hb=>by
   rcases d3.mp hb with rfl | hb
   ·exact fk'
   ·rw[j6.mp hb];exact fa') (fun b hb=>by
   rcases d3.mp hb with rfl | hb
   ·exact⟨_,hk',fun v q=>by cases q⟩
   ·rw[j6.mp hb];exact⟨_,ha',fun v q=>by cases q⟩)
  refine a8 (wpAny_attempt (E6 (turn z (d5 hzj) t _ s' H' Ip hS) (fun v s'' he=>?_) fun _ _ hF=>hF.elim))
  obtain⟨k,H'',rfl,hk'',I'',hS'⟩:=he
  obtain⟨nk,fk0⟩:=bC0 I'' b9 hk'
  obtain⟨na,fa0⟩:=bC0 I'' (b8 _ b9) ha'
  have Iu:=I''.unpinned
  have fk'':R4 X pins H'' kS:=fk'.to fk0
  have fa'':R4 X pins H'' a:=fa'.to fa0
  have s1:=Heap.SameBut.update s''.heap kS (Obj.mapSeq (·.push (.ref k)))
  obtain⟨c2,hc2⟩:∃ c2,(s''.heap.update kS (Obj.mapSeq (·.push (Value.ref k)))).get? kS=some (F7 "list" (kA.push (.ref k)) c2):=⟨_,W0 nk (·.push (.ref k))⟩
  have ea:(kA.push (Value.ref k)).toList=kA.toList++[Value.ref k]:=by simp
  have ek:zs.take (j+1)=zs.take j++[z]:=by rw[o6,hzj];simp
  refine a8 (ac3 nk rfl ?_ (by rw[C6];omega) (p8 (af5 (A0 ..)) (by rw[C6];omega)))
  refine j9 ⟨rfl,kA.push (.ref k),c2,H'',ys++[.ref k],?_,hS.trans hS',hc2,(s1.2 a hka.symm).trans na,fk'',fa'',?_,?_⟩
  ·exact Iu.turn (t':=s''.toks) fk'' fun b o hb q=>(s1.2 b hb).trans q
  ·rw[ea]
   exact hv.append (.cons rfl .nil)
  ·rw[ek,i9]
   exact u5.append (u5.same hS' ht) (.cons ⟨k,rfl,.of hk''⟩ .nil)
 case done =>
  rintro s' ⟨kA,e,H',ys,I',hS,hk',ha',fk',fa',hv,ht⟩
  have e3:zs.take (0+vs.length)=zs:=i8 (by omega)
  rw[e3]at ht
  refine a8 (bS3 hk' rfl ?_)
  have h1:ys.length=kA.size:=by rw[<- j8];exact hv.length
  have h2:=ht.len
  rw[a6]at h2
  have hK:=aa9 I' ht hv
  exact bL8 I' hS hk' ha' fk' fa' hka hz (by omega) hi (az9 (fun u k q=>q) hK) hne h
theorem bA1 {f:Value}{key:Int->List Int}{P:PySem.Fin->Shared->Prop}(I:Inv X pins σ H s)(ha:s.heap.get? a=some (F7 "list" vs.toArray n))
  (fa:R4 X pins H a)(hz:vs.length<=1000)(hi:M7 vs zs)(hne:∀ z,∃ i k,key z=i::k)(turn:∀ z∈zs,aN8 X A σ H f key z)(h:aN9 X pins σ H a zs key P) :
  p9 (p7 X.prog X.w) A (ksk_tree a f false) P E s:=by
 have hlt:a<s.heap.objs.size:=j4 ha
 have s1:=Heap.SameBut.update s.heap a (Obj.mapSeq fun _=>(#[]:Array Value))
 obtain⟨e1,ho1⟩:∃ e1,(s.heap.update a (Obj.mapSeq fun _=>(#[]:Array Value))).get? a=some (F7 "list" #[] e1):=⟨_,W0 ha fun _=>#[]⟩
 have I1:Inv X pins σ H { s with heap:=s.heap.update a (Obj.mapSeq fun _=>(#[]:Array Value)),toks:=s.toks }:=I.turn fa fun b o hb q=>(s1.2 b hb).trans q
 unfold ksk_tree
 refine a8 (bS3 ha rfl ?_)
 refine a8 (ac3 ha rfl ?_ (by rw[d8,C6];omega) (o5 _))
 refine a8 (bn4 ho1 rfl ?_)
 refine a8 (wpAny_newTuple ?_ (by show vs.length<=_;rw[C6];omega))
 refine a8 (W1 ?_ (o5 _))
 refine M4 ?_
 generalize hh2:(s.heap.update a (Obj.mapSeq fun _=>(#[]:Array Value))).push (F7 "tuple" vs.toArray 0)=h2
 have hsz:h2.objs.size=s.heap.objs.size+1:=by rw[<- hh2,bF8,cb6]
 have I2:Inv X pins σ H { s with heap:=h2,toks:=s.toks }:=I1.kept (t':=s.toks) fun b o q=>by rw[<- hh2];exact a7 _ q
 have I3:Inv X pins σ H { s with heap:=h2.push (F7 "list" #[] 0),toks:=s.toks }:=I2.kept (t':=s.toks) fun b o q=>a7 _ q
 have fk:R4 X pins H h2.objs.size:=I2.fpOk (c5 _) (I2.hok.fresh (c5 _))
 refine bA2 (s:={ s with heap:=h2.push (F7 "list" #[] 0),toks:=s.toks }) (kS:=h2.objs.size) (e1:=e1) I3 (m7 _ rfl) ?_ fk fa (by rw[hsz];exact Y0 (G4 hlt)) hz hi hne turn h
 refine a7 _ ?_
 rw[<- hh2]
 exact a7 _ ho1
theorem ba0 {r q:Addr}{key:Int->List Int}(I:Inv X pins σ H s)(hh:A.handled=none)(hr:∃ t u v,IsRange s.heap r 0 n 1 t u v)(hn:n<=1000)(hne:∀ z,∃ i k,key z=i::k)
  (turn:∀ z∈(L8 0 n).map (fun k:Nat=>(k:Int)),aN8 X A.in1.in1 σ H (.ref q) key z)
  (h:∀ (H':Hp) (s':Shared) (D:Addr) (zs:List Int),y7 H H'->H' D=none->zs.Perm ((L8 0 n).map fun k:Nat=>(k:Int))->zs.Pairwise (fun x y=>Tim.J5 (key y) (key x)=false)->Inv X pins σ (upd H' D (.lst (zs.map V.int))) s'->Q (.ref D) s') :
  p9 (p7 X.prog X.w) A (call (.builtin "sorted") [.ref r] [(Str.ofString "key",.ref q)]) Q E s:=by
 obtain⟨t,u,v,hr⟩:=hr
 refine bO9 cc8 bS4 bS5 (ksk_s1 _ _) ?_
 unfold Builtin.«sorted»
 refine a8 (m:=checkCount "sorted" 1 1 _) (j9 ?_)
 refine a8 (aX0 (A:=A.in1) hh hr hn fun h1 tk vs kp hi=>?_)
 have hlen:=hi.length
 rw[a6,D9]at hlen
 have I1:Inv X pins σ H { s with heap:=h1,toks:=tk }:=I.kept kp
 refine a8 (W1 ?_ (by rw[C6];omega))
 have fD:R4 X pins H h1.objs.size:=I1.fpOk (c5 _) (I1.hok.fresh (c5 _))
 have I2:Inv X pins σ H { s with heap:=h1.push (F7 "list" vs.toArray 0),toks:=tk }:=I1.kept (t':=tk) fun b o q=>a7 _ q
 have hoL:(h1.push (F7 "list" vs.toArray 0)).get? h1.objs.size=some (F7 "list" vs.toArray 0):=m7 _ rfl
 refine a8 (M4 (cc9 bt3 (s:={ s with heap:=h1.push (F7 "list" vs.toArray 0),toks:=tk }) ⟨_,hoL,rfl⟩ bn5 ?body (ksk_l1 _ _)))
 show p9 (p7 X.prog X.w) A.in1.in1 (Builtin.«list.sort» ⟨[.ref h1.objs.size],[(Str.ofString "key",.ref q)]⟩) _ _ _
 rw[ksk_t1]
 refine bA1 I2 hoL fD (by omega) hi hne turn fun H' s' out zs' c I' hS fa' hout hi' hp hs=>⟨_,rfl,?_⟩
 have hl2:zs'.length<=1000:=by rw[hp.length_eq,a6,D9];exact hn
 refine j9 ⟨_,rfl,h H' s' h1.objs.size zs' hS fa'.1 hp hs ?_⟩
 have:=I'.take (t':=s'.toks) (h':=s'.heap) (o:=.lst (zs'.map V.int)) fa' (fun b u _ q=>q) ⟨by rw[a6,C6];omega,out,c,aa8 hi',hout⟩
 exact this
abbrev bb9 (qual:Str)(scope:Scope)(cl:List (Str × Addr))(f:Addr)(cv:Value)(s:Shared):Env:=PySem.W.envX qual scope s.heap.objs.size f cv cl
def bz6 (X:Cx)(A:Around)(qual:Str)(scope:Scope)(cl:List (Str × Addr))(N':List Str)(f:Addr)(cv:Value)(s:Shared)(H:Hp):Cx:=
 { X with A:=A.deeper (bb9 qual scope cl f cv s),N:=N',s₀:=s,H₀:=H,env:=bb9 qual scope cl f cv s,outer:=X.stack,stack:=List.cons (bb9 qual scope cl f cv s) X.stack,ex:=[],fn:=fun _=>false,calm:=true,pn:=[],xe:=fun _ _=>False }
def aI6 (X:Cx)(N':List Str)(lk:List (Option Nat))(scope:Scope)(cl:List (Str × Addr)):Prop:=
 lk.length=N'.length/\∀ (i j:Nat) (x:Str),N'[i]?=some x->lk[i]?=some (some j)->X.N[j]?=some x/\(X.env.scope.names.lookup x=some .cell\/X.env.scope.names.lookup x=some .free)/\(cl.lookup x).isSome=true /\
  (scope.names.lookup x=some .cell\/scope.names.lookup x=some .free)
theorem bq4 {h1:Heap}{tk:Nat}{p:Str}{cv:Value}{v:V}(I:Inv X pins σ H s)(hA:A.frames=some X.stack)(hh:A.handled=none)(hkind:scope.kind=.function)(hcl:aD5 X.env cl)(hfr:av1 scope.names cl=true)(hlk:aI6 X N' lk scope cl)
  (hp:scope.names.lookup p=some .local)(rv:RelV v u)(hn:h1.Ns s.heap.objs.size (fun y=>[(p,u)].reverse.lookup y))(hk:∀ b o,s.heap.get? b=some o->h1.get? b=some o) :
  Inv (bz6 X A qual scope cl (p::N') f cv s H) [] (some v::ad8 lk σ) H { s with heap:=h1,toks:=tk }:=by
 have hC:H s.heap.objs.size=none:=I.hok.fresh (c5 _)
 have hmem:∀ y∈scope.names,y.2≠.cell/\(y.2=.free->(cl.lookup y.1).isSome=true):=fun y hy=>by
  unfold av1 at hfr
  rw[S5]at hfr
  have:=hfr y hy
  rw[x6]at this
  refine⟨by simpa using this.1,fun e=>?_⟩
  have h2:=this.2
  rw[e]at h2
  simpa using h2
 have hcell:∀ x c,cl.lookup x=some c->X.env.cells.lookup x=some c:=fun x c e=>hcl.get e
 have noE:∀ b:Addr,b∉([]:List Addr):=fun b z=>nomatch z
 refine⟨⟨I.ok.mod,hkind,rfl,rfl,c5 _,fun x y c e1 e2=>I.ok.inj x y c (hcell x c e1) (hcell y c e2),fun x hx=>?_,(fun x c e=>by cases e),fun _=>hh,Around.frames_deeper hA,.inr ⟨rfl,rfl⟩,fun b z=>absurd z (noE b),fun b o e=>I.bs b o e,p8 I.ok.bsz I.sz,fun b _ _=>noE b,fun b z=>absurd z (noE b),I.stack,I.stkFree⟩,
  rfl,I.bare,Un.kept hk,⟨_,hn,fun i x w e1 e2 e3=>?_⟩,fun x c e=>?_,hC,fun x c e=>I.freeC x c (hcell x c e),(fun q hq=>nomatch hq),I.hok.kept hk,?_⟩
 ·have hx':scope.names.lookup x=some .cell\/scope.names.lookup x=some .free:=hx
  rcases hx' with h | h
  ·exact absurd rfl (hmem _ (PySem.mem_of_lookup h)).1
  ·exact v9.mp ((hmem _ (PySem.mem_of_lookup h)).2 rfl)
 ·cases i with
  | zero =>
   have e1':p=x:=by simpa using (show (p::N')[0]?=some x from e1)
   have e2':v=w:=by simpa using (show (some v::ad8 lk σ)[0]?=some (some w) from e2)
   subst e1' e2'
   refine⟨u,rv,.inl ⟨hp,?_⟩⟩
   show [(p,u)].reverse.lookup p=some u
   simp[List.lookup]
  | succ i =>
   have e1':N'[i]?=some x:=by simpa using (show (p::N')[i+1]?=some x from e1)
   have e2':(ad8 lk σ)[i]?=some (some w):=by simpa using (show (some v::ad8 lk σ)[i+1]?=some (some w) from e2)
   unfold ad8 at e2'
   rw[q8]at e2'
   cases hq:lk[i]? with
   | none=>rw[hq]at e2';cases e2'
   | some o =>
    rw[hq]at e2'
    have e2'':(o.bind fun j=>(σ[j]?).join)=some w:=Option.some.inj e2'
    cases o with
    | none=>cases e2''
    | some j =>
     obtain⟨q1,q2,q3,q4⟩:=hlk.2 i j x e1' hq
     have hσ:σ[j]?=some (some w):=by
      have z:(σ[j]?).join=some w:=e2''
      cases hh:σ[j]? with
      | none=>rw[hh]at z;cases z
      | some o=>rw[hh]at z;rw[show o=some w from z]
     obtain⟨m,hnX,hl⟩:=I.loc
     obtain⟨u',r,lo⟩:=hl j x w q1 hσ (q2.elim (fun a=>.inr (.inl a)) (fun a=>.inr (.inr a)))
     refine⟨u',r,.inr ?_⟩
     obtain⟨c,hc⟩:=v9.mp q3
     refine⟨q4,c,hc,?_⟩
     have hcX:=hcell x c hc
     rcases lo with⟨k,_⟩ | ⟨_,c',hc',z⟩
     ·have k':X.env.scope.names.lookup x=some .local:=k
      rw[k']at q2
      rcases q2 with q2 | q2<;>cases q2
     ·rw[hcX]at hc'
      cases hc'
      obtain⟨o,ho,hd⟩:=z
      exact⟨o,hk c o ho,hd⟩
 ·obtain⟨w,o,ho,hd⟩:=I.cell x c (hcell x c e)
  exact⟨w,o,hk c o ho,hd⟩
 ·show (some v::ad8 lk σ).length=(p::N').length
  unfold ad8
  rw[a9,a6,a9,hlk.1]
theorem bz5 {name p:Str}{body:Expr}{c':Addr}{pm ctv:Value}{v:V}{Q:VK}(I:Inv X pins σ H s)(hA:A.frames=some X.stack)(hh:A.handled=none)(hroom:A.depth<aD8)
  (ho:s.heap.get? f=some (PySem.W.kla_obj name qual params body scope cl pm c' ctv))(hcd:s.heap.CodeRec (.ref c') qual)(hbind:bf0 (PySem.W.kla_fn name qual params body scope cl pm (.ref c') ctv) ⟨[u],[]⟩=pure [(p,u)])
  (hkind:scope.kind=.function)(hco:scope.isCoroutine=false)(hgen:scope.isGenerator=false)(hcl:aD5 X.env cl)(hfr:av1 scope.names cl=true)(hlk:aI6 X N' lk scope cl)(hp:scope.names.lookup p=some .local)(rv:RelV v u)
  (he:PE (bz6 X A qual scope cl (p::N') f (.ref c') s H) body te)(ht:te (some v::ad8 lk σ) H Q) :
  p9 (p7 X.prog X.w) A (call (.ref f) [u]) (fun u' s'=>∃ v' H',Inv X pins σ H' s'/\RelV v' u'/\Q v' H') (fun _ _=>False) s:=by
 have hcellN:∀ y∈scope.names,y.2≠.cell:=fun y hy=>by
  unfold av1 at hfr
  rw[S5]at hfr
  have:=hfr y hy
  rw[x6]at this
  simpa using this.1
 refine wpAny_call (PySem.W.kla_callFunE hroom ho rfl hco hgen rfl hcd ?_)
 show p9 _ _ (bf0 (PySem.W.kla_fn name qual params body scope cl pm (.ref c') ctv) ⟨[u],[]⟩) _ _ s
 rw[hbind]
 refine j9 (ay0 hcellN (fun y hy=>by rw[j6.mp hy];exact hp) (fun h1 hns hsb=>?_) hkind)
 have hk₁:∀ b o,s.heap.get? b=some o->h1.get? b=some o:=fun b o e=>hsb.extBut b o (m8 (j4 e)) (a7 _ e)
 refine⟨I.nolimit.keeps hk₁,?_⟩
 show aP4 _ _ (.expr body (PySem.W.envX qual scope s.heap.objs.size f (.ref c') cl)) _ _
 have I1:=bq4 (tk:=s.toks+[(p,u)].length) (qual:=qual) (f:=f) (cv:=.ref c') I hA hh hkind hcl hfr hlk hp rv hns hk₁
 refine PySem.W.kla_codeExpr (E6 (he [] _ _ H Q I1 ht) (fun u' s' hq=>?_) fun _ _ z=>False.elim z)
 obtain⟨v',H',J,r',q⟩:=hq
 exact⟨v',H',I.call' (ch:=[]) J.os J.base J.hok J.bare (fun b z=>nomatch z),r',q⟩
def aX9 (c:Addr)(qual:Str):HO:=.ext fun h=>h.CodeRec (.ref c) qual
def bs5 (f:Addr)(o:Obj):HO:=.ext fun h=>h.get? f=some o
def ak5 (P:Addr)(pos:Pos)(qual:Str)(H:Hp):Prop:=∃ ps,H P=some (.tbl ps)/\TriplesOk ps.toList/\(bS8 pos ps.toList=none\/∃ c',bS8 pos ps.toList=some (.ref c')/\H c'=some (aX9 c' qual))
def E9 (P:Addr)(H H':Hp):Prop:=∀ b o,b≠P->H b=some o->H' b=some o
theorem E9.refl (P:Addr)(H:Hp):E9 P H H:=fun _ _ _ h=>h
theorem E9.trans {P:Addr}{H1 H2:Hp}(a:E9 P H H1)(b:E9 P H1 H2):E9 P H H2:=fun c o n h=>b c o n (a c o n h)
theorem y7.grow (P:Addr)(h:y7 H H'):E9 P H H':=fun b o _ q=>h b o q
theorem ak5.same {P:Addr}(t:ak5 P pos qual H)(h:y7 H H'):ak5 P pos qual H':=by
 obtain⟨ps,h1,h2,h3⟩:=t
 refine⟨ps,h _ _ h1,h2,?_⟩
 rcases h3 with h3 | ⟨c',h3,h4⟩
 ·exact .inl h3
 ·exact .inr ⟨c',h3,h _ _ h4⟩
structure aD4 (base:Heap) (mg:Str->Option Value) (c P:Addr):Prop where
 hd:PySem.W.CodeHd base c P
 blt:base.BuiltinsAt mg P
 ne:d4≠P
theorem bs4 {c:Value}{l:List Value}(h:TriplesOk l)(hn:bS8 pos l=none):bS8 pos (l++[au3 pos.line,au3 pos.col,c])=some c:=codeAmong_snoc l h hn
def cd9 (P:Addr)(pos:Pos)(qual:Str)(params:Arguments)(body:Expr)(scope:Scope)(cl:List (Str × Addr))(pm:Value):TE:=fun σ H Q=>ak5 P pos qual H/\∀ f c' ctv H',E9 P H H'->ak5 P pos qual H'->H f=none ->
 H' f=some (bs5 f (PySem.W.kla_obj "<lambda>" qual params body scope cl pm c' ctv))->H' c'=some (aX9 c' qual)->Q (.ref f) H'
theorem bV9 {body:Expr}{c P:Addr}(B:aD4 X.base X.mg c P)(hcode:X.env.code=.ref c)(hcl:aP5 scope X.env=pure cl)(hdef:defaultsOf params X.env=([],[])) :
  PE X (.Lambda params body scope pos) (cd9 P pos (X.env.qual++"<lambda>") params body scope cl ((X.mg "__name__").getD .none)):=by
 intro pins s σ H Q I h
 obtain⟨⟨ps,hP,ht,hin⟩,q⟩:=h
 have hPh:s.heap.get? P=some (PySem.W.tabObj ps):=I.hok P _ hP
 have C:=B.hd.keeps I.bk
 have hb:s.heap.BuiltinsAt X.mg P:=by
  obtain⟨bm,ob,b1,b2,b3,b4,b5,b6⟩:=B.blt
  exact⟨bm,ob,b1,b2,b3,b4,I.bk _ _ b5,b6⟩
 refine PySem.W.kla_eval hdef ?_
 rcases hin with hnf | ⟨c',hf,hc'⟩
 ·refine PySem.W.kla_makeFunction hcl I.ok.glob (I.mod.glob.keeps I.bk) hcode C hPh ht hnf B.ne hb fun c' ctv h' tk hx hge hlt hrec htb=>?_
  have hPlt:P<s.heap.objs.size:=j4 hPh
  have hsz:s.heap.objs.size<=h'.objs.size:=p8 hge (ap0 hlt)
  have cP:P≠c':=m8 (p5 hPlt hge)
  have fP:P≠h'.objs.size:=m8 (p5 hPlt hsz)
  have fc:c'≠h'.objs.size:=m8 hlt
  have hcn:H c'=none:=I.hok.fresh hge
  have hfn:H h'.objs.size=none:=I.hok.fresh hsz
  have hfr:(PySem.W.kla_obj "<lambda>" (X.env.qual++"<lambda>") params body scope cl ((X.mg "__name__").getD .none) c' ctv).isFreed=false:=rfl
  generalize hobj:PySem.W.kla_obj "<lambda>" (X.env.qual++"<lambda>") params body scope cl ((X.mg "__name__").getD .none) c' ctv=ob at *
  generalize hps:ps++#[au3 pos.line,au3 pos.col,.ref c']=ps' at *
  have hps2:ps'.toList=ps.toList++[au3 pos.line,au3 pos.col,.ref c']:=by rw[<- hps];simp
  generalize hH1:upd (upd (upd H P (.tbl ps')) c' (aX9 c' (X.env.qual++"<lambda>"))) h'.objs.size (bs5 h'.objs.size ob)=H1
  have v1:H1 h'.objs.size=some (bs5 h'.objs.size ob):=by rw[<- hH1];exact b7
  have v2:H1 c'=some (aX9 c' (X.env.qual++"<lambda>")):=by rw[<- hH1,p6 fc];exact b7
  have v3:H1 P=some (.tbl ps'):=by rw[<- hH1,p6 fP,p6 cP];exact b7
  have v4:∀ b,b≠P->b≠c'->b≠h'.objs.size->H1 b=H b:=fun b n1 n2 n3=>by rw[<- hH1,p6 n3,p6 n2,p6 n1]
  have v5:∀ b u,b≠P->H b=some u->H1 b=some u:=fun b u n e=>by rw[v4 b n (t4 e hcn) (t4 e hfn)];exact e
  have k1:∀ b o,b≠P->s.heap.get? b=some o->(h'.push ob).get? b=some o:=fun b o n e=>a7 _ (hx b o n e)
  have neP:∀ b,H b=none->b≠P:=fun b n z=>by rw[z,hP]at n;cases n
  have hPn:(h'.push ob).get? P=some (PySem.W.tabObj ps'):=a7 _ htb
  have un:Un X.fs [] H H1 s.heap (h'.push ob):=by
   refine⟨fun b o e n _ _=>k1 b o (neP b n) e,fun b o e n _ _=>⟨o.slots,k1 b o (neP b n) e⟩,fun b o e n _=>?_,fun b o e _=>?_,fun b xs e=>v5 b _ (fun z=>by rw[z,hP]at e;cases e) e,fun b o u e=>v5 b _ (fun z=>by rw[z,hP]at e;cases e) e,fun b qs e=>?_⟩
   ·rw[v4 b (neP b n) (m8 (p5 (j4 e) hge)) (m8 (p5 (j4 e) hsz))]
    exact n
   ·by_cases hb:b=P
    ·rw[hb];exact⟨_,hPn⟩
    ·exact⟨o,k1 b o hb e⟩
   ·by_cases hb:b=P
    ·rw[hb,hP]at e
     cases e
     rw[hb]
     exact⟨#[au3 pos.line,au3 pos.col,.ref c'],by rw[v3,<- hps]⟩
    ·exact⟨#[],by rw[v5 b _ hb e];simp⟩
  have hok:HOk X.prog X.w H1 (h'.push ob):=by
   intro b u e
   by_cases hb1:b=h'.objs.size
   ·subst hb1
    rw[v1]at e
    cases e
    exact⟨m7 _ hfr,⟨_,m7 _ hfr⟩,fun h1 h2 q z=>z _ q⟩
   ·by_cases hb2:b=c'
    ·subst hb2
     rw[v2]at e
     cases e
     obtain⟨c2,oc,vs,tq,e1,e2,e3,e4⟩:=hrec
     cases e1
     exact⟨⟨_,oc,vs,tq,rfl,a7 _ e2,e3,e4⟩,⟨oc,a7 _ e2⟩,fun h1 h2 ⟨c3,o3,vs3,t3,q1,q2,q3,q4⟩ z=>by cases q1;exact⟨_,o3,vs3,t3,rfl,z _ q2,q3,q4⟩⟩
    ·by_cases hb3:b=P
     ·subst hb3
      rw[v3]at e
      cases e
      exact hPn
     ·rw[v4 b hb3 hb2 hb1]at e
      refine(I.hok b u e).stay (fun d v hd z=>k1 d v ?_ z) (fun d z=>v5 _ _ ?_ z) fun d xs z=>v5 _ _ ?_ z
      ·rcases hd with hd | hd
       ·rw[hd];exact hb3
       ·intro zz;rw[zz,hP]at hd;cases hd
      ·intro zz;rw[zz,hP]at z;cases z
      ·intro zz;rw[zz,hP]at z;cases z
  have I1:Inv X pins σ H1 { s with heap:=h'.push ob,toks:=tk }:=I.un un hok
  refine⟨.ref h'.objs.size,H1,I1,rfl,q _ c' ctv H1 (fun b o n e=>v5 b o n e) ⟨ps',v3,?_,.inr ⟨c',?_,v2⟩⟩ hfn ?_ v2⟩
  ·rw[hps2];exact TriplesOk_snoc _ _ _ _ ht
  ·rw[hps2];exact bs4 ht hnf
  ·rw[hobj];exact v1
 ·refine PySem.W.kla_makeFunctionHit hcl I.ok.glob (I.mod.glob.keeps I.bk) hcode C hPh ht hf hb fun ctv h' tk hk hsz=>?_
  have hfn:H h'.objs.size=none:=I.hok.fresh hsz
  have hfr:(PySem.W.kla_obj "<lambda>" (X.env.qual++"<lambda>") params body scope cl ((X.mg "__name__").getD .none) c' ctv).isFreed=false:=rfl
  generalize hobj:PySem.W.kla_obj "<lambda>" (X.env.qual++"<lambda>") params body scope cl ((X.mg "__name__").getD .none) c' ctv=ob at *
  have I1:Inv X pins σ (upd H h'.objs.size (bs5 h'.objs.size ob)) { s with heap:=h'.push ob,toks:=tk }:=I.laid (fun b o e=>a7 _ (hk b o e)) hsz ⟨m7 _ hfr,⟨_,m7 _ hfr⟩,fun h1 h2 q z=>z _ q⟩
  have sm:y7 H (upd H h'.objs.size (bs5 h'.objs.size ob)):=fun b o e=>by rw[p6 (t4 e hfn)];exact e
  refine⟨.ref h'.objs.size,_,by rw[<- hobj]at I1;rw[<- hobj];exact I1,rfl,q _ c' ctv _ (sm.grow P) (ak5.same ⟨ps,hP,ht,.inr ⟨c',hf,hc'⟩⟩ sm) hfn (by rw[hobj];exact b7) (sm _ _ hc')⟩
def cd5 (ta:TA):TE:=fun σ H Q=>ta σ H fun vs H1=>∃ n:Nat,vs=[.int n]/\n<=1000/\∀ r,H1 r=none->Q (.ref r) (upd H1 r (.rng 0 n))
def bT9 (P:Addr)(lpos:Pos)(qual:Str)(lk:List (Option Nat))(te:TE)(tr:TA):TE:=fun σ H Q=>tr σ H fun vs H1=>∃ (r:Addr) (n:Nat) (key:Int->List Int),vs=[.ref r]/\H1 r=some (.rng 0 n)/\n<=1000/\(∀ z,∃ i k,key z=i::k)/\ak5 P lpos qual H1 /\
 ∀ H2,E9 P H1 H2->ak5 P lpos qual H2->(∀ (H3:Hp) (z:Nat),y7 H2 H3->z<n->te (some (.int z)::ad8 lk σ) H3 fun v H4=>∃ k,v=.ref k/\H4 k=some (.tup ((key z).map V.int))/\y7 H3 H4) /\
  ∀ (H':Hp) (D:Addr) (zs:List Int),y7 H2 H'->H' D=none->zs.Perm ((L8 0 n).map fun k:Nat=>(k:Int))->zs.Pairwise (fun x y=>Tim.J5 (key y) (key x)=false)->Q (.ref D) (upd H' D (.lst (zs.map V.int)))
theorem bJ3 {a:Expr}{ta:TA}{p:Pos}(hg:Gl X "range")(hm:X.mg "range"=none)(ha:PA X [a] ta)(hs:A6 [a] X.env=[(false,eval a X.env)]:=by rfl):PE X (.Call (.Name "range" p) [a] [] pos) (cd5 ta):=by
 intro pins s σ H Q I h
 refine Call_ (aa1 I hg hm bF4 (PyProof.Rows.callWith_type1 (thn (ha pos pins s σ H _ I h) fun us s1 ⟨vs,H1,I1,r1,q1⟩=>?_) hs rfl))
 obtain⟨n,e,hn,q⟩:=q1
 subst e
 cases r1 with
 | cons r rr =>
  cases rr
  obtain⟨t,rfl⟩:=r
  refine call_range_1 ?_
  have hf:H1 s1.heap.objs.size=none:=I1.hok.fresh (c5 _)
  exact⟨.ref s1.heap.objs.size,upd H1 s1.heap.objs.size (.rng 0 n),I1.laid (fun b o e=>a7 _ e) (c5 _) ⟨_,_,_,m7 _ rfl⟩,rfl,q _ hf⟩
theorem bx7 {body:Expr}{p:Str}{np lpos kpos:Pos}{c P:Addr}{tr:TA}(hc:X.calm=true)(hd:X.A.depth<aD8)(hg:Gl X "sorted")(hm:X.mg "sorted"=none)(ha:PA X [e] tr)
  (B:aD4 X.base X.mg c P)(hcode:X.env.code=.ref c)(hcl:aP5 scope X.env=pure cl)(hdef:defaultsOf params X.env=([],[]))(hkind:scope.kind=.function)(hco:scope.isCoroutine=false)(hgen:scope.isGenerator=false)(hclo:aD5 X.env cl)(hfr:av1 scope.names cl=true)(hlk:aI6 X N' lk scope cl)
  (hp:scope.names.lookup p=some .local)(hbind:∀ (pm ctv u:Value) (c':Addr),bf0 (PySem.W.kla_fn "<lambda>" (X.env.qual++"<lambda>") params body scope cl pm (.ref c') ctv) ⟨[u],[]⟩=pure [(p,u)])
  (he:∀ f c' s3 H3,PE (bz6 X X.A.in1.in1 (X.env.qual++"<lambda>") scope cl (p::N') f (.ref c') s3 H3) body te)
  (hs:Z9 pos (A6 [e] X.env)=(false,eval e X.env)::Z9 pos (A6 [] X.env):=by rfl)
  (hpl:(Z9 pos (A6 [e] X.env)).any (·.1)=false:=by rfl) :
  PE X (.Call (.Name "sorted" np) [e] [⟨some "key",.Lambda params body scope lpos,kpos⟩] pos) (bT9 P lpos (X.env.qual++"<lambda>") lk te tr):=by
 intro pins s σ H Q I h
 refine V9 (aa1 I hg hm (show R1 "sorted"=some (.builtin "sorted") from rfl) ?_ (by decide) (by decide))
 refine callWith_kw (thn (ha pos pins s σ H _ I h) fun us s1 ⟨vs,H1,I1,r1,q1⟩=>?_) hs hpl rfl rfl
 obtain⟨r,n,key,rfl,hr,hn,hne,tb,q⟩:=q1
 have hk:PK X [⟨some "key",.Lambda params body scope lpos,kpos⟩] (bf6 (cd9 P lpos (X.env.qual++"<lambda>") params body scope cl ((X.mg "__name__").getD .none)) bI2):=bh9 (bV9 B hcode hcl hdef) bx3
 refine thn (hk pos pins s1 σ H1 (fun zs H2=>∃ f c' ctv,zs=[.ref f]/\E9 P H1 H2/\ak5 P lpos (X.env.qual++"<lambda>") H2/\H2 f=some (bs5 f (PySem.W.kla_obj "<lambda>" (X.env.qual++"<lambda>") params body scope cl ((X.mg "__name__").getD .none) c' ctv))/\H2 c'=some (aX9 c' (X.env.qual++"<lambda>"))) I1
  ⟨tb,fun f c' ctv H2 g1 g2 g3 g4 g5=>⟨f,c',ctv,rfl,g1,g2,g4,g5⟩⟩) fun ws s2 ⟨zs,H2,I2,r2,f,c',ctv,ez,g1,g2,g4,g5⟩=>?_
 subst ez
 obtain⟨w,rfl,rw⟩:=vals1 r2
 obtain⟨u,rfl,ru⟩:=vals1 r1
 cases rw
 cases ru
 obtain⟨wish,fin⟩:=q H2 g1 g2
 have rP:r≠P:=fun z=>by
  obtain⟨ps,hP,_⟩:=tb
  rw[z,hP]at hr
  cases hr
 have hr2:H2 r=some (.rng 0 n):=g1 r _ rP hr
 obtain⟨t1,t2,t3,hro⟩:=I2.hok r _ hr2
 have hh:X.A.handled=none:=I.ok.hd hc
 refine ba0 (n:=n) (key:=key) I2 hh ⟨t1,t2,t3,hro⟩ hn hne (fun z hz=>?_) fun H' s' D zs' a1 a2 a3 a4 I'=>⟨.ref D,_,I',rfl,fin H' D zs' a1 a2 a3 a4⟩
 obtain⟨k,hk',rfl⟩:=k8.mp hz
 have hkn:k<n:=by
  have:=ah7.mp hk'
  omega
 intro t pins' s3 H3 I3 sm
 have ho:s3.heap.get? f=some (PySem.W.kla_obj "<lambda>" (X.env.qual++"<lambda>") params body scope cl ((X.mg "__name__").getD .none) c' ctv):=(I3.hok f _ (sm _ _ g4)).1
 have hcd:s3.heap.CodeRec (.ref c') (X.env.qual++"<lambda>"):=(I3.hok c' _ (sm _ _ g5)).1
 refine E6 (bz5 (A:=X.A.in1.in1) (v:=.int k) (u:=.int k t) I3 I3.ok.frames hh hd ho hcd (hbind _ _ _ _) hkind hco hgen hclo hfr hlk hp ⟨t,rfl⟩ (he f c' s3 H3) (wish H3 k sm hkn)) (fun u' s' hq=>?_) fun _ _ z=>z
 obtain⟨v',H',J,r',kk,rfl,hkk,sm'⟩:=hq
 cases r'
 exact⟨kk,H',rfl,hkk,J,sm'⟩
theorem L9.there {o:HO}(x:L9 P w H h a o):∃ ob,h.get? a=some ob:=by
 cases o with
 | lst xs=>obtain⟨_,_,_,_,e⟩:=x;exact⟨_,e⟩
 | tup xs=>obtain⟨_,_,_,ob,e,_⟩:=x;exact⟨_,e⟩
 | dK kvs=>obtain⟨_,_,_,_,o,_,_,e,_⟩:=x;exact⟨_,e⟩
 | dT kvs=>obtain⟨_,_,_,_,o,_,_,e,_⟩:=x;exact⟨_,e⟩
 | set S n=>obtain⟨o,_,_,_,e,_⟩:=x;exact⟨_,e⟩
 | ins C dx fs=>obtain⟨_,_,_,e,_⟩:=x;exact⟨_,e⟩
 | own y=>obtain⟨ob,e⟩:=x;exact⟨ob,e⟩
 | xd fs=>obtain⟨_,⟨_,_,_,e,_⟩,_⟩:=x;exact⟨_,e⟩
 | rng lo hi=>obtain⟨_,_,_,e⟩:=x;exact⟨_,e⟩
 | frz ob u=>obtain⟨e,_⟩:=x;exact⟨_,e⟩
 | tbl ps=>exact⟨_,(show h.get? a=some _ from x)⟩
 | met f y=>exact⟨_,(show h.get? a=some _ from x)⟩
 | ext φ=>obtain⟨_,⟨ob,e⟩,_⟩:=x;exact⟨ob,e⟩
theorem HOk.stays (ok:HOk P w H h) (k:∀ b o,h.get? b=some o->H b≠none->h'.get? b=some o):HOk P w H h':=fun a o e =>
 (ok a o e).stay (fun b u hb q => k b u q (by
  rcases hb with z | z
  ·rw[z,e];simp
  ·rw[z];simp)) (fun _ q=>q) fun _ _ q=>q
def cj0 (outer:List Env)(x:Addr)(cls:Value)(h0:Heap)(H':Hp)(h':Heap):Prop:=
 ∃ (B:Heap) (a0:Value),Heap.FlyingW B outer x cls a0 h'/\∀ b o,h'.get? b=some o->(H' b≠none\/h0.get? b≠none)->b∉frs outer->B.get? b=some o
def CXE (P:Program)(w:World):CXT:=fun outer H s E e s' =>
 ∃ (x:Addr) (cls:Value) (H':Hp),e=.ref x/\s'.os=s.os/\au1 s'.gens/\Un (frs outer) [] H H' s.heap s'.heap/\HOk P w H' s'.heap/\s.heap.get? x=none/\H' x=none/\cj0 outer x cls s.heap H' s'.heap/\E cls none H'
theorem Un.onto {fs:List Addr}{h'':Heap}(u:Un fs [] H H' h h')(stay:∀ b o,h'.get? b=some o->h.get? b≠none->b∉fs->h''.get? b=some o)
  (slots:∀ b o,h'.get? b=some o->h.get? b≠none->b∈fs->∃ sl,h''.get? b=some { o with slots:=sl }):Un fs [] H H' h h'' where
 keep:=fun b o e n hb hx=>stay b o (u.keep b o e n hb hx) (by rw[e];simp) hb
 slot:=fun b o e n hb hx=>by
  obtain⟨sl,e1⟩:=u.slot b o e n hb hx
  obtain⟨sl2,e2⟩:=slots b _ e1 (by rw[e];simp) hb
  exact⟨sl2,e2⟩
 free:=u.free
 there:=fun b o e hx=>by
  obtain⟨o',e1⟩:=u.there b o e hx
  by_cases hb:b∈fs
  ·obtain⟨sl,e2⟩:=slots b o' e1 (by rw[e];simp) hb
   exact⟨_,e2⟩
  ·exact⟨o',stay b o' e1 (by rw[e];simp) hb⟩
 tups:=u.tups
 frzs:=u.frzs
 tbls:=u.tbls
theorem T8 {α:Type}{o:Option α}(h:o≠none):∃ x,o=some x:=by
 cases o with
 | none=>exact absurd rfl h
 | some x=>exact⟨x,rfl⟩
theorem aV6 {env:Env}{L:Addr}(h:env.frame=some L):frs (env::outer)=L::frs outer:=by
 unfold frs
 rw[ab8,h]
section
variable {K:W.Frag} {mg:Str->Option Value} {base:Heap} {cd:Value} {E:XK} {H1:Hp} {s1:Shared}
theorem bH3 {e:Addr}{cls:Value}{h2:Heap}(I:Inv (ag8 (CXE P w) P w K mg base N qual scope f cd A outer s H E) pins σ H1 s1)(hx:Heap.MadeExcOf s1.heap h2 e cls vs)(hE:E cls none H1) :
  (ag8 (CXE P w) P w K mg base N qual scope f cd A outer s H E).xe (.ref e) { s1 with heap:=h2 }:=by
 have hst:=I.stack
 have hfr:=I.ok.frames
 have hlt:=I.lt
 have hL:=I.free
 have hab:=I.ok.above
 have hbs:Un (frs outer) [] H H1 s.heap s1.heap:=I.base
 change s1.heap.FunFrames base (M0 qual scope s.heap.objs.size f cd::outer) at hst
 change (A.deeper (M0 qual scope s.heap.objs.size f cd)).frames=some (M0 qual scope s.heap.objs.size f cd::outer) at hfr
 change H1 s.heap.objs.size=none at hL
 have hff:frs (M0 qual scope s.heap.objs.size f cd::outer)=s.heap.objs.size::frs outer:=aV6 rfl
 have hin:∀ env∈(M0 qual scope s.heap.objs.size f cd::outer),∀ b,env.frame=some b->b∈frs (M0 qual scope s.heap.objs.size f cd::outer):=fun env he b hb=>ae6.mpr ⟨env,he,hb⟩
 have old:∀ b,(H1 b≠none\/s.heap.get? b≠none)->b∉frs outer->∃ o,s1.heap.get? b=some o/\b∉frs (M0 qual scope s.heap.objs.size f cd::outer):=fun b hb hno=>by
  have hne:b≠s.heap.objs.size:=by
   rcases hb with z | z
   ·intro q;rw[q]at z;exact z hL
   ·obtain⟨o,z⟩:=T8 z
    exact m8 (j4 z)
  have hex:∃ o,s1.heap.get? b=some o:=by
   rcases hb with z | z
   ·obtain⟨o,z⟩:=T8 z
    exact(I.hok b o z).there
   ·obtain⟨o,z⟩:=T8 z
    exact hbs.there b o z (by simp)
  obtain⟨o,ho⟩:=hex
  refine⟨o,ho,?_⟩
  rw[hff]
  intro hm
  rcases d3.mp hm with q | q
  ·exact hne q
  ·exact hno q
 have eNew:s.heap.get? e=none:=by
  cases q:s.heap.get? e with
  | none=>rfl
  | some o =>
   obtain⟨o',z⟩:=hbs.there e o q (by simp)
   rw[hx.new]at z
   cases z
 have eFree:H1 e=none:=by
  cases q:H1 e with
  | none=>rfl
  | some o =>
   obtain⟨o',z⟩:=(I.hok e o q).there
   rw[hx.new]at z
   cases z
 refine wpAny_leaves_madeW (base:=PySem.W.hideAll s1.heap (frs (M0 qual scope s.heap.objs.size f cd::outer))) hfr rfl (fun b o q=>PySem.W.of_hideAll _ q) (PySem.W.funFrames_hide hst hin) hx fun h' t x1 x2 x3 x4=>?_
 have stay:∀ b o,s1.heap.get? b=some o->(H1 b≠none\/s.heap.get? b≠none)->b∉frs outer->h'.get? b=some o:=fun b o ho hb hno=>by
  obtain⟨o',ho',hm⟩:=old b hb hno
  rw[ho]at ho'
  cases ho'
  exact x1.1 b o (PySem.W.hideAll_get _ ho hm)
 have frNone:∀ b∈frs outer,H1 b=none:=fun b hb=>I.stkFree b (by
  show b∈frs (M0 qual scope s.heap.objs.size f cd::outer)
  rw[hff]
  exact b8 _ hb)
 refine⟨e,cls,H1,rfl,I.os,I.bare,hbs.onto (fun b o ho hh hno=>stay b o ho (.inr hh) hno) (fun b o ho hh hm=>?_),I.hok.stays fun b o ho hh=>stay b o ho (.inl hh) fun hm=>hh (frNone b hm),eNew,eFree,⟨_,_,x1,fun b o ho hb hno=>?_⟩,hE⟩
 ·obtain⟨_,o',ho',hd⟩:=hst.mem (b:=b) (by
   show b∈frs (M0 qual scope s.heap.objs.size f cd::outer)
   rw[hff]
   exact b8 _ hm)
  rw[ho]at ho'
  cases ho'
  exact x4 b o (hx.keeps b o ho) hd
 ·obtain⟨o',ho',hm⟩:=old b hb hno
  have:=stay b o' ho' hb hno
  rw[ho]at this
  cases this
  exact PySem.W.hideAll_get _ ho' hm
theorem S6:as3 (CXE P w) (ag8 (CXE P w) P w K mg base N qual scope f cd A outer s H E) E:=by
 intro pins σ H1 s1 e s2 I hc
 obtain⟨x,cls,H2,rfl,hos,hb2,u,hok,new,hxn,⟨B,a0,fl,st⟩,hE⟩:=hc
 have hst:=I.stack
 have hfr:=I.ok.frames
 have hL:=I.free
 have hbs:Un (frs outer) [] H H1 s.heap s1.heap:=I.base
 change s1.heap.FunFrames base (M0 qual scope s.heap.objs.size f cd::outer) at hst
 change (A.deeper (M0 qual scope s.heap.objs.size f cd)).frames=some (M0 qual scope s.heap.objs.size f cd::outer) at hfr
 change H1 s.heap.objs.size=none at hL
 change Un (frs (M0 qual scope s.heap.objs.size f cd::outer)) [] H1 H2 s1.heap s2.heap at u
 change Heap.FlyingW B (M0 qual scope s.heap.objs.size f cd::outer) x cls a0 s2.heap at fl
 have hff:frs (M0 qual scope s.heap.objs.size f cd::outer)=s.heap.objs.size::frs outer:=aV6 rfl
 have st':∀ b o,s2.heap.get? b=some o->(H2 b≠none\/s1.heap.get? b≠none)->b∉frs (M0 qual scope s.heap.objs.size f cd::outer)->B.get? b=some o:=st
 rw[hff]at u st'
 have hLo:∃ o,s1.heap.get? s.heap.objs.size=some o:=by
  obtain⟨m,⟨o,_,_,ho,_⟩,_⟩:=I.loc
  exact⟨o,ho⟩
 have hL2:H2 s.heap.objs.size=none:=by
  obtain⟨o,ho⟩:=hLo
  exact u.free _ o ho hL (by simp)
 have old:∀ b,(H2 b≠none\/s.heap.get? b≠none)->b∉frs outer->∃ o,s2.heap.get? b=some o/\B.get? b=some o:=fun b hb hno=>by
  have hne:b≠s.heap.objs.size:=by
   rcases hb with z | z
   ·intro q;rw[q]at z;exact z hL2
   ·obtain⟨o,z⟩:=T8 z
    exact m8 (j4 z)
  have hm:b∉s.heap.objs.size::frs outer:=fun hm=>by
   rcases d3.mp hm with q | q
   ·exact hne q
   ·exact hno q
  rcases hb with z | z
  ·obtain⟨o,z'⟩:=T8 z
   obtain⟨o',ho⟩:=(hok b o z').there
   exact⟨o',ho,st' b o' ho (.inl z) hm⟩
  ·obtain⟨o,z⟩:=T8 z
   obtain⟨o1,h1⟩:=hbs.there b o z (by simp)
   obtain⟨o2,h2⟩:=u.there b o1 h1 (by simp)
   exact⟨o2,h2,st' b o2 h2 (.inr (by rw[h1];simp)) hm⟩
 have u2:Un (frs outer) [] H H2 s.heap s2.heap:=by
  refine⟨fun b o e n hb hx=>?_,fun b o e n hb hx=>?_,fun b o e n hx=>?_,fun b o e hx=>?_,fun b xs e=>u.tups b xs (hbs.tups b xs e),fun b o v e=>u.frzs b o v (hbs.frzs b o v e),fun b ps e=>?_⟩
  ·refine u.keep b o (hbs.keep b o e n hb hx) (hbs.free b o e n hx) (fun hm=>?_) hx
   rcases d3.mp hm with q | q
   ·exact m8 (j4 e) q
   ·exact hb q
  ·obtain⟨sl,e1⟩:=hbs.slot b o e n hb hx
   obtain⟨sl2,e2⟩:=u.slot b _ e1 (hbs.free b o e n hx) (b8 _ hb) hx
   exact⟨sl2,e2⟩
  ·obtain⟨o',e1⟩:=hbs.there b o e hx
   exact u.free b o' e1 (hbs.free b o e n hx) hx
  ·obtain⟨o',e1⟩:=hbs.there b o e hx
   exact u.there b o' e1 hx
  ·obtain⟨m1,e1⟩:=hbs.tbls b ps e
   obtain⟨m2,e2⟩:=u.tbls b _ e1
   exact⟨m1++m2,by rw[e2,bN9]⟩
 have frNone:∀ b∈frs outer,H2 b=none:=fun b hb=>by
  have h1:=I.stkFree b (by
   show b∈frs (M0 qual scope s.heap.objs.size f cd::outer)
   rw[hff]
   exact b8 _ hb)
  obtain⟨_,o,ho,_⟩:=hst.mem (b:=b) (by
   show b∈frs (M0 qual scope s.heap.objs.size f cd::outer)
   rw[hff]
   exact b8 _ hb)
  exact u.free b o ho h1 (by simp)
 refine wpAny_leaves_onW hfr rfl fl fun h' x1 x2=>?_
 have stay:∀ b o,s2.heap.get? b=some o->(H2 b≠none\/s.heap.get? b≠none)->b∉frs outer->h'.get? b=some o:=fun b o ho hb hno=>by
  obtain⟨o',ho',hB⟩:=old b hb hno
  rw[ho]at ho'
  cases ho'
  exact x1.1 b o hB
 refine⟨x,cls,H2,rfl,hos.trans I.os,hb2,u2.onto (fun b o ho hh hno=>stay b o ho (.inr hh) hno) (fun b o ho hh hm=>?_),hok.stays fun b o ho hh=>stay b o ho (.inl hh) fun hm=>hh (frNone b hm),?_,hxn,⟨B,a0,x1,fun b o ho hb hno=>?_⟩,hE⟩
 ·obtain⟨_,o',ho',hd⟩:=fl.2.2.1.mem (b:=b) (by
   show b∈frs (M0 qual scope s.heap.objs.size f cd::outer)
   rw[hff]
   exact b8 _ hm)
  rw[ho]at ho'
  cases ho'
  exact x2 b o ho hd
 ·cases q:s.heap.get? x with
  | none=>rfl
  | some o =>
   obtain⟨o',z⟩:=hbs.there x o q (by simp)
   rw[new]at z
   cases z
 ·obtain⟨o',ho',hB⟩:=old b hb hno
  have:=stay b o' ho' hb hno
  rw[ho]at this
  cases this
  exact hB
end
theorem Fun.okX {K:W.Frag} {mg:Str->Option Value} {base:Heap} {st:Stmt} {k:Nat} {sp:Sp} (F:Fun K x qual st f fd) (S:r6 N ps (m9 st))
  (hbody : ∀ (cdv : Value) (A : Around) (outer : List Env) (s : Shared) (H : Hp) (vs : List V) (Q : VK) (E : XK), X7 k (A.deeper (M0 qual (m9 st) s.heap.objs.size f cdv)) -> sp vs H Q E ->
   ∃ t,PSs (ag8 (CXE P w) P w K mg base N qual (m9 st) f cdv A outer s H E) (U6 st) t/\t { nx:=fun _ H'=>Q .non H',rt:=Q } (start N vs) H) (len:∀ vs H Q E,sp vs H Q E->vs.length=ps.length:=by intro _ _ _ _ h;repeat first | (obtain⟨rfl,_⟩:=h;rfl) | obtain⟨_,h⟩:=h):o9 P w K mg base (CXE P w) (k+1) f fd ps sp:=by
 obtain⟨oc,od,kV,doc,pm,an,cdv,ct,osl,rfl,lk,hcd⟩:=F.ex
 exact bC1 lk hcd S len fun A outer s H vs Q E hr hsp=>hbody cdv A outer s H vs Q E hr hsp
theorem bx2 {K:W.Frag}{mg:Str->Option Value}{base:Heap}{cd:Value}{E:XK} :
  PassesOwn (p7 P w) (ag8 (CXE P w) P w K mg base N qual scope f cd A outer s H E).A (ag8 (CXE P w) P w K mg base N qual scope f cd A outer s H E).env (ag8 (CXE P w) P w K mg base N qual scope f cd A outer s H E).xe:=PassesOwn.leaving
structure af2 (K:W.Frag) (C:Addr):Prop where
 q:PySem.W.excIn K C [.type "ValueError",.type "Exception",.type "BaseException",.type "object"] "ValueError.__new__"=true
abbrev bmV:List Value:=[.type "ValueError",.type "Exception",.type "BaseException",.type "object"]
theorem bZ5 {K:W.Frag}(KI:K.In h)(c:af2 K C):∃ bm N nm q bs hd sn sub ab col dd k0 k1 k2 k3 k5 mN,h.get? C=some (excClassObj nm q C N bs bm hd sn sub ab col dd k0 k1 k2 k3 k5 "ValueError.__new__") /\
  h.Ns N mN/\mN "__init__"=none/\OwnTail h bmV bm:=by
 have z:=c.q
 revert z
 unfold PySem.W.excIn
 split
 ·rename_i d1 c1 s1 hl
  split
  ·rename_i D bm y0 y1 y2 y3 nn y5 e1 e2
   intro z
   rw[x6,x6,x6,x6,x6]at z
   obtain⟨⟨⟨⟨⟨z1,z2⟩,z3⟩,z4⟩,z5⟩,z6⟩:=z
   have z1':D=C:=beq_iff_eq.mp z1
   have z2':nn="ValueError.__new__":=beq_iff_eq.mp z2
   have z6':=beq_iff_eq.mp z6
   subst z1' z2'
   obtain⟨w1,w2,w3,w4,w5,w6,w7,w8,w9,w10,w11⟩:=c1
   dsimp only at e1 z3 z5 z6'
   subst e1
   have z3':w11=false:=by simpa using z3
   subst z3'
   have e3:s1=#[y0,y1,y2,y3,some (.builtin "ValueError.__new__"),y5]:=by
    obtain⟨l1⟩:=s1
    exact congrArg Array.mk e2
   subst e3
   exact⟨bm,w4,w1,w5,w2,w6,w7,w8,w9,w10,d1,y0,y1,y2,y3,y5,_,KI _ _ hl,.of_isNs (PySem.W.isNs_of_in KI z5),PySem.W.nsMap_none_of_in KI z5 z6',PySem.W.tail_of_in KI z4⟩
  ·intro z;cases z
 ·intro z;cases z
section
variable {K:W.Frag} {mg:Str->Option Value} {base:Heap} {cd:Value} {E:XK}
def bU0 (E:XK)(C:Addr):TS:=fun _ _ H=>E (.ref C) none H
theorem ag3 {txt:Str}{np cp ep:Pos}(hg:Gl (ag8 (CXE P w) P w K mg base N qual scope f cd A outer s H E) x)(hm:mg x=some (.ref C))(c:af2 K C)(hd:(x == ("__debug__":Str))=false:=by decide) :
  PS (ag8 (CXE P w) P w K mg base N qual scope f cd A outer s H E) (.Raise (some (.Call (.Name x np) [.Constant (.str txt) j cp] [] ep)) none pos) (bU0 E C):=by
 intro pins s1 σ H1 D I hE
 have hh:(ag8 (CXE P w) P w K mg base N qual scope f cd A outer s H E).A.handled=none:=I.ok.hd rfl
 obtain⟨bm,N',nm,q,bs,hdc,sn,sub,ab,col,dd,k0,k1,k2,k3,k5,mN,hC,hN,hni,T⟩:=bZ5 I.kIn c
 refine wpAny_Raise_call_subT (C:=C) (nm:=nm) (q:=q) (N:=N') (bs:=bs) (bm:=bm) (hdct:=hdc) (sn:=sn) (sub:=sub) (ab:=ab) (col:=col) (dd:=dd) (k0:=k0) (k1:=k1) (k2:=k2) (k3:=k3) (k5:=k5)
  PySem.F.excBase_ValueError (mN:=mN) (T.hasType (by decide +kernel)) hh rfl hni (aL6 I hg hm ⟨rfl,?_⟩ hd)
 refine Calls.evalArgs_plain ?_
 refine PyProof.Rows.spliced_more (Calls.Constant_str ?_)
 refine PyProof.Rows.spliced_none ⟨rfl,by show 1<=f6;decide,hC,hN,T,fun h' e hx=>?_⟩
 exact bH3 (I.tok _) hx hE
end
section
variable {pins':List (Addr × Obj)} {E:St->XK}
end
section
variable {CX:CXT} {k:Nat} {sp:Sp} {E:St->XK} {p:Pos} {t:TA}
end
end L2
set_option maxRecDepth 100000
namespace L2
open PySem PySem.Spec PyProof.Rows PySem.W
structure cm0 (K:W.Frag) (C:Addr):Prop where
 ga:findIn K (.ref C) "__getattribute__"=some (some (.builtin "BaseException.__getattribute__"))
 na:findIn K (.ref C) "__getattr__"=some none
 cl:findIn K (.ref C) "__class__"=some (some (.builtin "object.__class__"))
 sb:subIn K (.ref C) (.type "BaseException")=some true
 so:subIn K (.ref C) (.type "object")=some true
 cs:(clsIn K C).isSome=true
section
variable {g:Array bG4} {d:Drawn} {t:Nat} {os:OsState} {o:Obj} {K:W.Frag}
end
end L2
namespace L2
open PySem PySem.Spec PyProof.Rows
theorem Fun.okXC {K:W.Frag} {mg:Str->Option Value} {base:Heap} {st:Stmt} {c:Addr} {k:Nat} {sp:Sp} (F:Fun K x qual st f fd) (hc:fd.code=.ref c) (S:r6 N ps (m9 st))
  (hbody : ∀ (A : Around) (outer : List Env) (s : Shared) (H : Hp) (vs : List V) (Q : VK) (E : XK), X7 k (A.deeper (M0 qual (m9 st) s.heap.objs.size f (.ref c))) -> sp vs H Q E ->
   ∃ t,PSs (ag8 (CXE P w) P w K mg base N qual (m9 st) f (.ref c) A outer s H E) (U6 st) t/\t { nx:=fun _ H'=>Q .non H',rt:=Q } (start N vs) H) (len:∀ vs H Q E,sp vs H Q E->vs.length=ps.length:=by intro _ _ _ _ h;repeat first | (obtain⟨rfl,_⟩:=h;rfl) | obtain⟨_,h⟩:=h):o9 P w K mg base (CXE P w) (k+1) f fd ps sp:=by
 obtain⟨oc,od,kV,doc,pm,an,cdv,ct,osl,rfl,lk,hcd⟩:=F.ex
 have hc':cdv=.ref c:=hc
 subst hc'
 exact bC1 lk hcd S len fun A outer s H vs Q E hr hsp=>hbody A outer s H vs Q E hr hsp
theorem bu7 {K:W.Frag}{c P:Addr}{oc:Value}{od:Option Addr}{sl:Array (Option Value)}(ht:PySem.W.tabIn K x=some (c,P))(hn:d7 K d4 x=some (some (.ref f)))(hl:K.lookup f=some ⟨oc,od,.func fd,sl⟩):fd.code=.ref c:=by
 unfold PySem.W.tabIn at ht
 rw[hn]at ht
 dsimp only at ht
 rw[hl]at ht
 dsimp only at ht
 split at ht
 ·rename_i c₂ hc
  split at ht
  ·split at ht
   ·cases ht;exact hc
   ·cases ht
  ·cases ht
 ·cases ht
theorem bq3 {K:W.Frag}{mg mb:Str->Option Value}{CX:CXT}{k:Nat}{fa:Addr}{sp:Sp}{s₁:Shared}{ts:List (Addr × Addr)}(hT:PySem.W.TabsAt ts s₁.heap)(hK0:PySem.W.noTabs K=true)
  (hbm:∃ bm ob,mg "__builtins__"=some (.ref bm)/\bm≠aP3/\s₁.heap.get? bm=some ob/\ob.cls=.type "module"/\ob.dict=some aP3/\ob.data=.plain)
  (KX:K.In s₁.heap)(hns:s₁.heap.Ns d4 mg)(hb:s₁.heap.Ns aP3 mb)(hbb:∀ x:Str,x≠"__name__"->mb x=R1 x)(hlim:s₁.heap.NoLimit)(hg:s₁.gens=#[])
  (ha:s₁.heap.get? a=some { cls:=.type "list",data:=.seq vs.toArray })(hi:M7 vs ns)(hl:ns.length<=f6)(hr:X7 k bn2)
  (F:∀ base:Heap,K.In base->base.Ns d4 mg->(∀ q∈ts,aD4 base mg q.1 q.2)->o9 P w K mg base CX k fa fd [x] sp)(hbind:∀ (s:Shared) (u:Value),bm9 s fd ⟨[u],[]⟩ [(x,u)])
  (hsp:∀ H:Hp,(∀ q∈ts,H q.2=some (.tbl #[]))->SqL K H a (ns.map V.int)->sp [.ref a] H (fun v _=>v=.bl true) fun _ _ _=>False)
  (hCX:∀ H e s',CX [] H s₁ (fun _ _ _=>False) e s'->False) :
  aP4 (p7 P w) bn2 (.call (.ref fa) ⟨[.ref a],[]⟩) (fun r s'=>r=.ok (.ret (.bool true))/\OldK s₁.heap s'.heap/\s'.os=s₁.os/\au1 s'.gens) s₁:=by
 have rv:=aa8 hi
 have lenV:=hi.length
 have tabO:∀ b,b∈ts.map (·.2)->s₁.heap.get? b=some (PySem.W.tabObj #[]):=fun b hb=>by
  obtain⟨q,hq,rfl⟩:=k8.mp hb
  exact(hT q hq).2
 have aT:a∉ts.map (·.2):=fun z=>by
  have e:=tabO a z
  rw[ha]at e
  cases e
 have core:∀ H:Hp,(∀ b,b∈ts.map (·.2)->H b=some (.tbl #[]))->(∀ b,b∉ts.map (·.2)->H b=none\/∃ o xs,H b=some (.frz o (.lst xs)))->SqL K H a (ns.map V.int)->HOk P w H s₁.heap->(∀ b,H b≠none->b=a\/b∈ts.map (·.2))->(H a≠none->K.lookup a=none) ->
   aP4 (p7 P w) bn2 (.call (.ref fa) ⟨[.ref a],[]⟩) (fun r s'=>r=.ok (.ret (.bool true))/\OldK s₁.heap s'.heap/\s'.os=s₁.os/\au1 s'.gens) s₁:=by
  intro H hHt hO hS hok hA hK
  have base_of:∀ {b:Addr} {o:Obj},s₁.heap.get? b=some o->H b=none->(aE9 s₁.heap H).get? b=some o:=fun e n=>bB3 e n
  have free_of:∀ {b:Addr} {o:Obj},s₁.heap.get? b=some o->(∀ xs n,o≠{ cls:=.type "list",data:=.seq xs n })->o≠PySem.W.tabObj #[]->H b=none:=fun {b o} e n1 n2=>by
   cases q:H b with
   | none=>rfl
   | some u =>
    rcases hA b (by rw[q];simp) with e' | e'
    ·subst e'
     rw[ha]at e;cases e
     exact absurd rfl (n1 _ _)
    ·rw[tabO b e']at e;cases e
     exact absurd rfl n2
  have noA:∀ {b:Addr} {o:Obj} {es:Array DictEntry} {ep:Nat},s₁.heap.get? b=some o->o.data=.dict es ep->H b=none:=fun {b o es ep} e d=>free_of e (fun xs n z=>by subst z;cases d) (fun z=>by subst z;cases d)
  have nsK:∀ {b:Addr} {m:Str->Option Value},s₁.heap.Ns b m->(aE9 s₁.heap H).Ns b m:=fun {b m} ⟨o,es,ep,e,d,r⟩=>⟨o,es,ep,base_of e (noA e d),d,r⟩
  have hKb:K.In (aE9 s₁.heap H):=fun b o e=>base_of (KX b o e) (by
   cases q:H b with
   | none=>rfl
   | some u =>
    rcases hA b (by rw[q];simp) with e' | e'
    ·subst e'
     rw[hK (by rw[q];simp)]at e;cases e
    ·have e1:=KX b o e
     rw[tabO b e']at e1
     cases e1
     have h2:=S5.mp hK0 _ (PySem.W.mem_of_lookupK e)
     exact absurd (show false=true from h2) j5)
  have hM:Mod K mg (aE9 s₁.heap H):=⟨hKb,nsK hns,⟨mb,nsK hb,hbb⟩,let ⟨mc,h1,h2⟩:=hlim;⟨mc,nsK h1,h2⟩⟩
  have hLB:∀ q∈ts,aD4 (aE9 s₁.heap H) mg q.1 q.2:=fun q hq=>by
   obtain⟨C,eP⟩:=hT q hq
   refine⟨?_,?_,?_⟩
   ·obtain⟨o,vs,file,tf,flags,tg,inF,text,tt,e1,r1,r2⟩:=C
    exact⟨o,vs,file,tf,flags,tg,inF,text,tt,base_of e1 (free_of e1 (fun xs n z=>by subst z;exact absurd (show Value.type "list"=Value.type "code" from r1) (by decide)) (fun z=>by subst z;cases r1)),r1,r2⟩
   ·obtain⟨bm,ob,b1,b2,b3,b4,b5,b6⟩:=hbm
    refine⟨bm,ob,b1,b2,fun z=>?_,fun z=>?_,base_of b3 (free_of b3 (fun xs n z=>by subst z;exact absurd (show Value.type "list"=Value.type "module" from b4) (by decide)) (fun z=>by subst z;cases b4)),b4,b5,b6⟩
    ·obtain⟨o,es,ep,e,d,_⟩:=hns
     rw[z,e]at b3;cases b3;rw[d]at b6;cases b6
    ·rw[z,eP]at b3;cases b3;cases b4
   ·intro z
    obtain⟨o,es,ep,e,d,_⟩:=hns
    rw[z,eP]at e;cases e;cases d
  have e0:bN7 P w K mg (aE9 s₁.heap H) bn2 [] s₁ H:=⟨rfl,hM,fun b o e=>bK9 e,af5 (br0 _ _),trivial,fun b hb=>absurd (show b∈([]:List Addr) from hb) (by simp),hok,.of_eq hg⟩
  refine au4 ((F _ hKb (nsK hns) hLB).run bn2 [] s₁ H ⟨[.ref a],[]⟩ [.ref a] [.ref a] _ _ hr e0 (hbind s₁ (.ref a)) (.cons rfl .nil) (hsp H (fun q hq=>hHt _ (List.mem_map_of_mem hq)) hS)) fun r s' h=>?_
  cases r with
  | error e=>exact(hCX H e s' h).elim
  | ok fl =>
   cases fl with
   | next=>exact False.elim h
   | brk=>exact False.elim h
   | cont=>exact False.elim h
   | ret u =>
    obtain⟨v,H',os,bare,un,hok',r',q⟩:=h
    have q':v=.bl true:=q
    subst q'
    obtain rfl:u=Value.bool true:=r'
    have keep:∀ b o,b∉ts.map (·.2)->s₁.heap.get? b=some o->s'.heap.get? b=some o:=fun b o hb e=>by
     rcases hO b hb with z | ⟨ob,xs,z⟩
     ·exact un.keep b o e z (by intro z;exact absurd (show b∈([]:List Addr) from z) (by simp)) (by simp)
     ·have z2:=un.frzs b ob _ z
      obtain⟨e1,_⟩:=hok b _ z
      obtain⟨e2,_⟩:=hok' b _ z2
      rw[e]at e1;cases e1
      exact e2
    have grown:∀ b o,b∈ts.map (·.2)->s₁.heap.get? b=some o->isCodeTable s₁.heap b/\o=PySem.W.tabObj #[]/\∃ ps,s'.heap.get? b=some (PySem.W.tabObj ps):=fun b o hb e=>by
     obtain⟨ps,hp⟩:=un.tbls b #[] (hHt b hb)
     have e2:=tabO b hb
     rw[e]at e2
     obtain⟨q,hq,eq⟩:=k8.mp hb
     have e3:s'.heap.get? b=some (PySem.W.tabObj (#[]++ps)):=hok' b _ hp
     refine⟨?_,Option.some.inj e2,_,e3⟩
     rw[<- eq]
     exact((hT q hq).1.tab (hT q hq).2).isCodeTable
    refine⟨rfl,⟨fun b o e=>?_,fun b o e=>?_⟩,os,bare⟩
    ·by_cases hb:b∈ts.map (·.2)
     ·obtain⟨ht,rfl,ps,hP⟩:=grown b o hb e
      exact .inr (.inl ⟨ht,rfl,#[],ps,rfl,by rw[Array.empty_append];exact hP⟩)
     ·exact .inl (keep b o hb e)
    ·by_cases hb:b∈ts.map (·.2)
     ·obtain⟨_,_,ps,hP⟩:=grown b o hb e
      exact⟨_,hP⟩
     ·exact⟨o,keep b o hb e⟩
 cases hk:K.lookup a with
 | some o =>
  have e:=KX a o hk
  rw[ha]at e
  cases e
  refine core (fun b=>if b∈ts.map (·.2) then some (.tbl #[]) else none) (fun b hb=>if_pos hb) (fun b hb=>.inl (if_neg hb)) (.inr ⟨_,vs.toArray,_,hk,rfl,rfl,rfl,by rw[d8,lenV];exact hl,by simpa using rv⟩) (fun b u z=>?_) (fun b z=>?_) fun z=>absurd (if_neg aT) z
  ·by_cases hb:b∈ts.map (·.2)
   ·have z':=(if_pos hb).symm.trans z
    cases z'
    exact tabO b hb
   ·have z':=(if_neg hb).symm.trans z
    cases z'
  ·by_cases hb:b∈ts.map (·.2)
   ·exact .inr hb
   ·exact absurd (if_neg hb) z
 | none =>
  have e1:∀ b,b∈ts.map (·.2)->(if b∈ts.map (·.2) then some (HO.tbl #[]) else if b=a then some (.frz { cls:=.type "list",data:=.seq vs.toArray } (.lst (ns.map V.int))) else none)=some (HO.tbl #[]):=fun b hb=>if_pos hb
  have e2:∀ b,b∉ts.map (·.2)->(if b∈ts.map (·.2) then some (HO.tbl #[]) else if b=a then some (.frz { cls:=.type "list",data:=.seq vs.toArray } (.lst (ns.map V.int))) else none)=(if b=a then some (.frz { cls:=.type "list",data:=.seq vs.toArray } (.lst (ns.map V.int))) else none):=fun b hb=>if_neg hb
  refine core (fun b=>if b∈ts.map (·.2) then some (HO.tbl #[]) else if b=a then some (.frz { cls:=.type "list",data:=.seq vs.toArray } (.lst (ns.map V.int))) else none) e1 (fun b hb=>?_) (.inl (.inr ⟨{ cls:=.type "list",data:=.seq vs.toArray },(e2 a aT).trans (if_pos rfl)⟩)) (fun b u z=>?_) (fun b z=>?_) fun _=>hk
  ·rw[e2 b hb]
   by_cases hba:b=a
   ·exact .inr ⟨_,_,if_pos hba⟩
   ·exact .inl (if_neg hba)
  ·by_cases hb:b∈ts.map (·.2)
   ·have z':=(e1 b hb).symm.trans z
    cases z'
    exact tabO b hb
   ·have z1:=(e2 b hb).symm.trans z
    by_cases hba:b=a
    ·have z':=(if_pos hba).symm.trans z1
     cases z'
     subst hba
     exact⟨ha,by rw[a6];exact hl,vs,_,rv,ha⟩
    ·have z':=(if_neg hba).symm.trans z1
     cases z'
  ·by_cases hb:b∈ts.map (·.2)
   ·exact .inr hb
   ·by_cases hba:b=a
    ·exact .inl hba
    ·exact absurd ((e2 b hb).trans (if_neg hba)) z
theorem walk_ofT {l:PySem.W.OpenLaw} {k:Nat} {q:Program} {loose:List Str} {d:DefRec} {K:Params->PySem.W.Frag} {CX:World->CXT} {sp:World->List (Addr × Addr)->Sp} {ts:World->List (Addr × Addr)}
  (hn:l.most=some n) (hn2:n<=f6) (hdf:d.params.defaults=[]) (hr:X7 k bn2)
  (hY:∀ (w:World) (h:Heap),YP w h->(K w.params).In h) (hK0:∀ w:World,PySem.W.noTabs (K w.params)=true)
  (hts:∀ (w:World) (loose:List Str) (mean:ExcName->Option Value) (mg mb:Str->Option Value) (h:Heap),Top q loose mean mg mb h->(K w.params).In h->PySem.W.TabsAt (ts w) h)
  (F : ∀ (w : World) (mg : Str -> Option Value) (fa : Addr) (h : Heap), (K w.params).In h -> h.Ns d4 mg -> mg d.name = some (.ref fa) ->
   ∃ fd:FuncData,(∀ (s:Shared) (u:Value),bm9 s fd ⟨[u],[]⟩ [(x,u)]) /\
    ∀ base:Heap,(K w.params).In base->base.Ns d4 mg->(∀ q∈ts w,aD4 base mg q.1 q.2)->o9 l.prog w (K w.params) mg base (CX w) k fa fd [x] (sp w (ts w)))
  (hsp:∀ (w:World) (H:Hp) (a:Addr) (ns:List Int),ns.length<=n->(∀ q∈ts w,H q.2=some (.tbl #[]))->SqL (K w.params) H a (ns.map V.int)->sp w (ts w) [.ref a] H (fun v _=>v=.bl true) fun _ _ _=>False)
  (hCX:∀ (w:World) (H:Hp) (s:Shared) (e:Value) (s':Shared),CX w [] H s (fun _ _ _=>False) e s'->False) :
  PySem.W.WalkO q loose XP YP l.row.toRowW d [] (fun f vs=>PySem.call f vs):=by
 refine Att.attach_call hn hdf fun w s₀ s₁ mg mb fa o pm cd doc a vs ns G Y ho hd hcd hmg hobj hints hlen hg=>?_
 have KX:=hY w _ Y
 obtain⟨fd,hb,hF⟩:=F w mg fa _ KX G.T.g hmg
 exact bq3 (hts w _ _ _ _ _ G.T KX) (hK0 w) G.T.bmain KX G.T.g G.T.b G.T.builtins G.T.nolimit hg hobj hints (p8 hlen hn2) hr hF hb (fun H hO hS=>hsp w H a ns hlen hO hS) fun H e s'=>hCX w H s₁ e s'
def bq0 (ns:List Int)(z:Int):List Int:=[-(ns.getD z.toNat 0),z]
theorem bJ9 (ns:List Int)(z:Int):∃ i k,bq0 ns z=i::k:=⟨_,_,rfl⟩
def ole (ns:List Int)(x y:Int):Prop:=Tim.J5 (bq0 ns y) (bq0 ns x)=false
theorem Z2 {x y:Int}:ole ns x y↔(ns.getD y.toNat 0<ns.getD x.toNat 0\/(ns.getD x.toNat 0=ns.getD y.toNat 0/\x<=y)):=by
 unfold ole bq0 Tim.J5
 by_cases h:-(ns.getD y.toNat 0) = -(ns.getD x.toNat 0)
 ·rw[if_pos h]
  unfold Tim.J5
  by_cases h2:y=x
  ·rw[if_pos h2]
   simp only[Tim.J5,true_iff]
   exact .inr ⟨by omega,by omega⟩
  ·rw[if_neg h2,decide_eq_false_iff_not]
   constructor
   ·intro h3;exact .inr ⟨by omega,by omega⟩
   ·intro h3 h4;omega
 ·rw[if_neg h,decide_eq_false_iff_not]
  constructor
  ·intro h3;exact .inl (by omega)
  ·intro h3 h4;omega
theorem aT0 {x y:Int}(h1:ole ns x y)(h2:ole ns y x):x=y:=by
 rw[Z2]at h1 h2
 omega
theorem aA3 {zs' l:List Int}(p1:zs.Perm l)(p2:zs'.Perm l)(s1:zs.Pairwise (ole ns))(s2:zs'.Pairwise (ole ns)):zs=zs':=
 (p1.trans p2.symm).eq_of_pairwise (fun x y _ _ h1 h2=>aT0 h1 h2) s1 s2
end L2
namespace Web
open PySem L2
def N2 (ks:List (List Int))(p:Nat):Nat:=ks.countP fun k=>decide ((p:Int)∈k)
def tal (n:Nat)(ks:List (List Int)):List Int:=(n8 n).map fun p=>(N2 ks p:Int)
theorem P0 (n:Nat)(ks:List (List Int)):(tal n ks).length=n:=by simp[tal]
theorem U3 (h:p<n):(tal n ks)[p]?=some (N2 ks p:Int):=by
 unfold tal
 rw[q8,N6 h]
 rfl
theorem aH8 {ls:List (List Int)}(h:ks.Perm ls)(p:Nat):N2 ks p=N2 ls p:=h.countP_eq _
theorem bu6 {ls:List (List Int)}(h:ks.Perm ls)(n:Nat):tal n ks=tal n ls:=by
 unfold tal
 exact o8 fun p _=>by rw[aH8 h]
theorem ag9 (ks ls:List (List Int))(p:Nat):N2 (ks++ls) p=N2 ks p+N2 ls p:=List.countP_append
theorem bD3 (i j p:Nat):N2 [[(i:Int),(j:Int)]] p=if p=i\/p=j then 1 else 0:=by
 unfold N2
 rw[List.countP_singleton]
 by_cases h:p=i\/p=j
 ·rw[if_pos h,if_pos]
  simp only[decide_eq_true_eq,d3,C8,or_false]
  omega
 ·rw[if_neg h,if_neg]
  simp only[decide_eq_true_eq,d3,C8,or_false]
  omega
theorem bf5 (n:Nat):tal n []=B9 n 0:=by
 unfold tal N2
 rw[List.eq_replicate_iff]
 simp
theorem bf4 (hi:i<n)(hj:j<n)(h:i≠j)(ks:List (List Int))(z1 z2:Int)(e1:z1=N2 ks i)(e2:z2=N2 ks j) :
  ((tal n ks).set i (z1+1)).set j (z2+1)=tal n (ks++[[(i:Int),(j:Int)]]):=by
 subst e1 e2
 refine J9 fun p=>?_
 by_cases hp:p<n
 ·rw[U3 hp,ag9,bD3,W5,W5,A3,P0,U3 hp]
  by_cases q1:j=p
  ·subst q1
   rw[if_pos rfl,if_pos hj,if_pos (.inr rfl)]
   simp
  ·rw[if_neg q1]
   by_cases q2:i=p
   ·subst q2
    rw[if_pos rfl,if_pos hi,if_pos (.inl rfl)]
    simp
   ·rw[if_neg q2,if_neg (by omega)]
    simp
 ·rw[n9 (by simp[P0];omega),n9 (by rw[P0];omega)]
theorem sum_set:∀ (xs:List Int) (i:Nat) (z:Int),xs[i]?=some z->(xs.set i (z+1)).sum=xs.sum+1
 | [],i,z,h=>by simp at h
 | x::xs,0,z,h=>by
  simp at h
  subst h
  simp only[bR5,u7]
  omega
 | x::xs,i+1,z,h=>by
  have:=sum_set xs i z (by simpa using h)
  simp only[List.set_cons_succ,u7]
  omega
theorem bI4 (hi:i<n)(hj:j<n)(h:i≠j)(ks:List (List Int)):(tal n (ks++[[(i:Int),(j:Int)]])).sum=(tal n ks).sum+2:=by
 rw[<- bf4 hi hj h ks _ _ rfl rfl,sum_set,sum_set]
 ·omega
 ·exact U3 hi
 ·rw[D8 h]
  exact U3 hj
theorem aQ7:∀ n:Nat,(B9 n (0:Int)).sum=0
 | 0=>rfl
 | n+1=>by rw[G0,u7,aQ7 n];rfl
theorem bI0 (n:Nat)(ks:List (List Int))(h:∀ k∈ks,ah5 n k):(tal n ks).sum=2*(ks.length:Int):=by
 have key:∀ m,m<=ks.length->(tal n (ks.take m)).sum=2*(m:Int):=by
  intro m
  induction m with
  | zero=>intro _;rw[at8,bf5,aQ7];rfl
  | succ m ih =>
   intro hm
   have hlt:m<ks.length:=hm
   obtain⟨i,j,hi,hj,hij,e⟩:=h ks[m] (aO6 hlt)
   rw[o6,i6 hlt,O9,e,bI4 hi hj hij,ih (by omega)]
   omega
 have:=key ks.length (c5 _)
 rw[aO7]at this
 exact this
end Web
namespace HT
open PySem PyProof.Rows
end HT
namespace L2
open PySem PySem.Spec PyProof.Rows
section
variable {st:Expr} {ts:TE} {p2:Pos}
def ck0 (t u:TS):TS:=fun D σ H=>∃ Mid:St->Hp->Prop,t { D with nx:=Mid } σ H/\∀ σ' H',Mid σ' H'->u D σ' H'
theorem aw1 {stm:Stmt}{rest:List Stmt}{t u:TS}(h1:PS X stm t)(h2:PSs X rest u):PSs X (stm::rest) (ck0 t u):=by
 intro pins s σ H D I ⟨Mid,h,k⟩
 refine aY6 (thn (h1 pins s σ H { D with nx:=Mid } I h) fun f s1 q=>?_)
 cases f with
 | next =>
  obtain⟨σ',H',I',q⟩:=q
  exact h2 pins s1 σ' H' D I' (k _ _ q)
 | ret v=>exact q
 | brk=>exact q
 | cont=>exact q
end
theorem bI6 (I:Inv X pins σ H s){p:Addr}(hq:SqL X.K H p (ns.map V.int)\/SqT X.K H p (ns.map V.int)):∃ (vs:List Value) (T:String) (o:Obj) (c:Nat),(T="list"\/T="tuple")/\s.heap.get? p=some o/\o.cls=.type T/\o.data=.seq vs.toArray c/\M7 vs ns:=by
 rcases hq with hq | hq
 ·obtain⟨its,r',pl,hz⟩:=I.list hq
  obtain⟨o,ho,hc,n,hd⟩:=pl.isList
  exact⟨its,"list",o,n,.inl rfl,ho,hc,hd,intsAre_of r'⟩
 ·obtain⟨its,r',pl,hz⟩:=I.tuple hq
  obtain⟨o,ho,hc,n,hd⟩:=pl
  exact⟨its,"tuple",o,n,.inr rfl,ho,hc,hd,intsAre_of r'⟩
theorem ba1 (I:Inv X pins σ H s){h1:Heap}{out:Array Value}(kp:∀ b o',s.heap.get? b=some o'->h1.get? b=some o')(hi:M7 out.toList zs)(hz:zs.length<=1000) :
  H h1.objs.size=none/\Inv X pins σ (upd H h1.objs.size (.lst (zs.map V.int))) { s with heap:=al1 (h1.push (F7 "list" vs.toArray 0)) h1.objs.size vs out }:=by
 have I1:Inv X pins σ H { s with heap:=h1,toks:=s.toks }:=I.kept kp
 refine⟨I1.hok.fresh (c5 _),?_⟩
 have hoL:(h1.push (F7 "list" vs.toArray 0)).get? h1.objs.size=some (F7 "list" vs.toArray 0):=m7 _ rfl
 obtain⟨e,he⟩:=sortedHeap_at (out:=out) hoL
 refine I1.laid (t':=s.toks) (fun b o q=>?_) (c5 _) ⟨by rw[a6,C6];omega,out.toList,e,aa8 hi,by rw[Y6];exact he⟩
 have hb:b<h1.objs.size:=j4 q
 rw[sortedHeap_old (m8 hb) (by rw[bF8];exact G4 hb)]
 exact a7 _ q
theorem ay6 {p:Addr}{b:Bool}(I:Inv X pins σ H s)(hq:SqL X.K H p (ns.map V.int)\/SqT X.K H p (ns.map V.int))(h64:ns.length<64)
  (h:∀ (s':Shared) (D:Addr) (zs:List Int),H D=none->zs.Perm ns->Ordered b zs->Inv X pins σ (upd H D (.lst (zs.map V.int))) s'->Q (.ref D) s') :
  p9 (p7 X.prog X.w) A (call (.builtin "sorted") [.ref p] [(Str.ofString "reverse",.bool b)]) Q E s:=by
 obtain⟨vs,T,o,c,hT,ho,hc,hd,hI⟩:=bI6 I hq
 have hlen:=hI.length
 refine bO9 cc8 bS4 bS5 (args_sorted_rev _ _) ?_
 unfold Builtin.«sorted»
 refine a8 (m:=checkCount "sorted" 1 1 _) (j9 ?_)
 refine a8 (wpAny_collect_seq p hT ho hc hd (fun h1 kp=>?_) (by rw[d8,C6];omega))
 rw[bO2]
 refine a8 (W1 ?_ (by rw[C6];omega))
 have hoL:(h1.push (F7 "list" vs.toArray 0)).get? h1.objs.size=some (F7 "list" vs.toArray 0):=m7 _ rfl
 refine a8 (M4 (cc9 bt3 (s:={ s with heap:=h1.push (F7 "list" vs.toArray 0) }) ⟨_,hoL,rfl⟩ bn5 (list_sort_tree_rev (s:={ s with heap:=h1.push (F7 "list" vs.toArray 0) }) hoL hI (by omega) fun out ns' a1 a2 a3=>⟨_,rfl,?_⟩) (args_list_sort_rev _ _)))
 obtain⟨e1,e2⟩:=ba1 (vs:=vs) I kp a1 (by rw[a2.length_eq];omega)
 exact j9 ⟨_,rfl,h _ _ ns' e1 a2 a3 e2⟩
def bT8 (K:W.Frag)(tr:TA):TE:=fun σ H Q=>tr σ H fun vs H1=>∃ (p:Addr) (ns:List Int),vs=[.ref p]/\(SqL K H1 p (ns.map V.int)\/SqT K H1 p (ns.map V.int))/\ns.length<64 /\
 ∀ (l:Addr) (zs:List Int),H1 l=none->zs.Perm ns->zs.Pairwise (·≥·)->Q (.ref l) (upd H1 l (.lst (zs.map V.int)))
theorem bx6 {np bpos kpos:Pos}{tr:TA}(K:W.Frag)(hK:X.K=K)(hg:Gl X "sorted")(hm:X.mg "sorted"=none)(ha:PA X [e] tr)
  (hs:Z9 pos (A6 [e] X.env)=(false,eval e X.env)::Z9 pos (A6 [] X.env):=by rfl)
  (hpl:(Z9 pos (A6 [e] X.env)).any (·.1)=false:=by rfl) :
  PE X (.Call (.Name "sorted" np) [e] [⟨some "reverse",.Constant (.bool true) j bpos,kpos⟩] pos) (bT8 K tr):=by
 subst hK
 intro pins s σ H Q I h
 refine V9 (aa1 I hg hm (show R1 "sorted"=some (.builtin "sorted") from rfl) ?_ (by decide) (by decide))
 refine callWith_kw (thn (ha pos pins s σ H _ I h) fun us s1 ⟨vs,H1,I1,r1,q1⟩=>?_) hs hpl rfl rfl
 obtain⟨p,ns,rfl,hq,h64,q⟩:=q1
 have hk:PK X [⟨some "reverse",.Constant (.bool true) j bpos,kpos⟩] (bf6 (tC (.bl true)) bI2):=bh9 bQ7 bx3
 refine thn (hk pos pins s1 σ H1 (fun zs H2=>zs=[.bl true]/\H2=H1) I1 ⟨rfl,rfl⟩) fun ws s2 ⟨zs,H2,I2,r2,ez,eH⟩=>?_
 subst ez eH
 obtain⟨w,rfl,rw⟩:=vals1 r2
 obtain⟨u,rfl,ru⟩:=vals1 r1
 cases rw
 cases ru
 exact ay6 (b:=true) I2 hq h64 fun s' D zs a1 a2 a3 I'=>⟨.ref D,_,I',rfl,q D zs a1 a2 a3⟩
theorem au8 {ip tp:Addr}{ys:Array Value}{x:Value}(hi:s.heap.IsTupleIter ip tp i)(ht:s.heap.IsTuple tp ys)(hx:ys[i]?=some x)
  (q:∀ h',h'.IsTupleIter ip tp (i+1)->Heap.SameBut ip s.heap h'->Q x { s with heap:=h' }):p9 (p7 prog w) A (Builtin.SmallTypes.nextOf (.ref ip)) Q E s:=by
 obtain⟨u,hu,cu,du⟩:=id hi
 obtain⟨v,hv,_,nv,dv⟩:=ht
 unfold Builtin.SmallTypes.nextOf
 refine a8 (bH2 (name:=Str.ofString "__next__") hi.typeIs F.slot_tuple_iterator_next (aY7 F.slot_tuple_iterator_next hi.typeIs F.entry_tuple_iterator_next ?_ (F.args_tuple_iterator_next_1 _)))
 show p9 _ _ (field (.ref ip) 0 >>= _) _ _ s;refine a8 (bn7 hu du (x:=.ref tp) rfl ?_)
 show p9 _ _ (if (Value.ref tp == Value.none)=true then _ else _) _ _ s;rw[if_neg (show ¬ ((Value.ref tp == Value.none)=true) from j5)]
 show p9 _ _ (field (.ref ip) 1 >>= _) _ _ s;refine a8 (bn7 hu du (x:=.int i 0) rfl ?_)
 show p9 _ _ (seqItems? (.ref tp) >>= _) _ _ s;refine a8 (aD9 hv dv ?_)
 simp only[j2,hx]
 refine a8 (wpAny_setField hu du (by simp) (j9 ⟨x,rfl,j9 (q _ ?_ (Heap.SameBut.update ..))⟩))
 exact⟨_,ao8 _ hu (Obj.isFreed_of_fields (Obj.data_mapFields du _)),(Obj.cls_mapFields ..).trans cu,by rw[Obj.data_mapFields du];simp[au3]⟩
theorem aA6 {ip tp:Addr}{ys:Array Value}(hh:A.handled=none)(hi:s.heap.IsTupleIter ip tp i)(ht:s.heap.IsTuple tp ys)(hx:ys[i]?=none)
  (q:∀ h' e,Heap.ExtBut ip s.heap h'->(∃ o,h'.get? e=some o/\o.cls=.type "StopIteration")->E (.ref e) { s with heap:=h' }):p9 (p7 prog w) A (Builtin.SmallTypes.nextOf (.ref ip)) Q E s:=by
 obtain⟨u,hu,cu,du⟩:=id hi
 obtain⟨v,hv,_,nv,dv⟩:=ht
 unfold Builtin.SmallTypes.nextOf
 refine a8 (bH2 (name:=Str.ofString "__next__") hi.typeIs F.slot_tuple_iterator_next (aY7 F.slot_tuple_iterator_next hi.typeIs F.entry_tuple_iterator_next ?_ (F.args_tuple_iterator_next_1 _)))
 show p9 _ _ (field (.ref ip) 0 >>= _) _ _ s;refine a8 (bn7 hu du (x:=.ref tp) rfl ?_)
 show p9 _ _ (if (Value.ref tp == Value.none)=true then _ else _) _ _ s;rw[if_neg (show ¬ ((Value.ref tp == Value.none)=true) from j5)]
 show p9 _ _ (field (.ref ip) 1 >>= _) _ _ s;refine a8 (bn7 hu du (x:=.int i 0) rfl ?_)
 show p9 _ _ (seqItems? (.ref tp) >>= _) _ _ s;refine a8 (aD9 hv dv ?_)
 simp only[j2,hx]
 refine a8 (bF6 (a8 (wpAny_setField hu du (by simp) ?_)))
 show p9 _ _ (newExc (.type "StopIteration") [] >>= _) _ _ _;refine a8 ?_;simp only[newExc,newTuple]
 refine a8 (aP6 ?_ (by size_fits));refine a8 (m:=firstArgMember _ _) (cd0 (a:=Value.none) (by first | rfl | (simp only[firstArgMember];rfl)) ?_)
 refine aP6 ?_ (by size_fits);simp only[raiseNew]
 refine a8 (wpAny_handled ?_);first | rw[show A.in1.handled=none from hh] | rw[hh]
 refine a8 (j9 (wpAny_throw ?_));exact q _ _ (((Heap.SameBut.update ..).extBut.push _).push _) ⟨_,m7 _ rfl,rfl⟩
theorem aH7 (hh:A.handled=none)(ip tp:Addr)(hne:tp≠ip)(ys:Array Value):Draws prog w A ip [ip,tp] ys.size (fun i v=>ys[i]?=some v) (fun i h=>h.IsTupleIter ip tp i/\h.IsTuple tp ys) where
 live:=fun _ _ z=>let ⟨o,ho,_⟩:=z.1;⟨o,ho⟩
 frame:=fun _ _ _ z k=>⟨z.1.at fun o e=>k ip (by simp) o e,z.2.at fun o e=>k tp (by simp) o e⟩
 item:=fun i s Q E hi z q=>au8 z.1 z.2 (x:=ys[i]) (by simp[hi]) fun h' a b=>q _ h' s.toks (by simp[hi]) ⟨a,z.2.extBut b.extBut hne⟩ b
 done:=fun s Q E z q=>aA6 hh z.1 z.2 (by simp) q
open AutoSeq1 (wpAny_loadPart') in
set_option maxRecDepth 100000 in
theorem aB0 (tp:Addr)(ys:Array Value)(n:Nat)(dd:Option Addr)(ss:Array (Option Value)) :
  Meets (Builtin.«enumerate.__new__» ⟨[.type "enumerate",.ref tp],[]⟩) (fun _ R s=>s.heap.get? tp=some { cls:=.type "tuple",dict:=dd,data:=.seq ys n,slots:=ss } /\
   R (.ok (.ret (.ref (s.heap.push { cls:=.type "tuple_iterator",data:=.fields #[.ref tp,.int 0 0] }).objs.size)))
    { s with heap:=(s.heap.push { cls:=.type "tuple_iterator",data:=.fields #[.ref tp,.int 0 0] }).push { cls:=.type "enumerate",data:=.fields #[.none,.bool false,.ref s.heap.objs.size,au3 0,.none,.none] } }) :=
 .of_wp fun prog w A R s h=>by
  obtain⟨hp,g,d,tk,os⟩:=s;obtain⟨hl,h⟩:=h
  have hsub:=sub_enumerate
  have hT:Heap.IsTuple (Shared.heap ⟨hp,g,d,tk,os⟩) tp ys:=⟨_,hl,rfl,n,rfl⟩
  wp_walk using wpAny_loadPart' hl
  refine wpAny_stack_any fun st=>j9 ?_
  split
  ·rename_i c _ _ _ _ _
   cases (c == Value.type "enumerate")
   ·wp_walk using wpAny_loadPart' hl,ai0 hT;exact⟨_,rfl,h⟩
   ·wp_walk using wpAny_loadPart' hl,ai0 hT;exact⟨_,rfl,h⟩
  ·wp_walk using wpAny_loadPart' hl,ai0 hT;exact⟨_,rfl,h⟩
theorem aF1 {tp:Addr}{ys:Array Value}(hT:s.heap.IsTuple tp ys)
  (q:∀ h',IsEnum h' (s.heap.objs.size+1) s.heap.objs.size 0 .none->h'.IsTupleIter s.heap.objs.size tp 0->h'.objs.size=s.heap.objs.size+2->(∀ b o,s.heap.get? b=some o->h'.get? b=some o)->Q (.ref (s.heap.objs.size+1)) { s with heap:=h' }) :
  p9 (p7 prog w) A (call (.type "enumerate") [.ref tp]) Q E s:=by
 obtain⟨⟨c,dd,dt,ss⟩,hl,hc,n,hd⟩:=hT
 replace hc:c=.type "tuple":=hc
 replace hd:dt=.seq ys n:=hd
 subst hc hd
 refine callType_new F.called_enumerate (by decide) (F.typeCall_enumerate_1 _) (F.newCall_enumerate_1 _) (fun obj=>F.args_object_init_2 obj _) F.entry_enumerate_new (aB0 tp ys n dd ss) ⟨hl,?_⟩
 have hz:(s.heap.push { cls:=.type "tuple_iterator",data:=.fields #[.ref tp,.int 0 0] }).objs.size=s.heap.objs.size+1:=O8 ..
 show _/\_
 rw[hz]
 have he:IsEnum ((s.heap.push { cls:=.type "tuple_iterator",data:=.fields #[.ref tp,.int 0 0] }).push { cls:=.type "enumerate",data:=.fields #[.none,.bool false,.ref s.heap.objs.size,au3 0,.none,.none] }) (s.heap.objs.size+1) s.heap.objs.size 0 .none:=by
  have:=m7 (s.heap.push { cls:=.type "tuple_iterator",data:=.fields #[.ref tp,.int 0 0] }) (o:={ cls:=.type "enumerate",data:=.fields #[.none,.bool false,.ref s.heap.objs.size,au3 0,.none,.none] }) rfl
  rw[hz]at this;exact this
 exact⟨⟨_,he,rfl⟩,q _ he ⟨_,a7 _ (m7 _ rfl),rfl,rfl⟩ (by rw[O8,hz]) fun b o x=>a7 _ (a7 _ x)⟩
def Itm (K:W.Frag)(a:Addr):It:=
 ⟨fun i H=>∃ xs x,SqT K H a xs/\xs[i]?=some x,fun i H x H'=>∃ t v,H t=none/\x=.ref t/\(∀ xs,SqT K H a xs->xs[i]?=some v)/\H'=upd H t (.tup [.int i,v]),fun i H=>∃ xs,SqT K H a xs/\xs.length=i⟩
def bZ1 (K:W.Frag)(ta:TA):TI:=fun σ H R=>ta σ H fun vs H1=>∃ a,vs=[.ref a]/\(∃ xs,SqT K H1 a xs)/\R (Itm K a) H1
theorem aZ5 {K:W.Frag}{elts:List Expr}{x1:Nat}(a ip e:Addr)(hne:e≠ip):Turn P w K (.Tuple elts x1 pos) (Itm K a) [e,ip] e (fun i h=>(∃ old,IsEnum h e ip (i:Int) old)/\h.IsTupleIter ip a i) where
 mem:=by simp
 obj:=fun i h st b hb=>by
  obtain⟨⟨old,he⟩,o,ho,hc,hd⟩:=st
  rcases d3.mp hb with rfl | hb
  ·exact⟨_,he,fun v z=>by cases z⟩
  ·obtain rfl:b=ip:=by simpa using hb
   exact⟨o,ho,fun v z=>by rw[hd]at z;cases z⟩
 keep:=fun i h h' st k=>⟨let ⟨old,he⟩:=st.1;⟨old,k e (by simp) _ he⟩,st.2.at fun o q=>k ip (by simp) o q⟩
 item:=by
  intro X hP hw hK hc i pins s σ H E I hf st hg
  subst hP hw hK
  obtain⟨xs,x,hq,hx⟩:=hg
  obtain⟨⟨old,he⟩,hit⟩:=st
  obtain⟨its,rv,p,hz⟩:=I.tuple hq
  obtain⟨u,hu,ru⟩:=rv.get hx
  obtain⟨f0,f1,f2,f3,f4,f5⟩:=hf e (by simp)
  obtain⟨g0,g1,g2,g3,g4,g5⟩:=hf ip (by simp)
  have pT:s.heap.IsTuple a its.toArray:=p
  have nai:a≠ip:=fun z=>by
   obtain⟨o1,h1,c1,_⟩:=id pT
   obtain⟨o2,h2,c2,_⟩:=id hit
   rw[z,h2]at h1;cases h1;rw[c2]at c1;injection c1 with c1;exact absurd c1 (by decide)
  have nae:a≠e:=fun z=>by
   obtain⟨o1,h1,c1,_⟩:=id pT
   rw[z,show s.heap.get? e=_ from he]at h1;cases h1;injection c1 with c1;exact absurd c1 (by decide)
  have ui:its.toArray[i]?=some u:=by simpa using hu
  have hlt':i<its.toArray.size:=by
   rcases E3 i its.toArray.size with h | h
   ·exact h
   ·rw[Array.getElem?_eq_none h]at ui;cases ui
  refine wpAny_pyNext_enum_itemD (aH7 (A:=X.A.in1) (I.ok.hd hc) ip a nai its.toArray) he ⟨hit,pT⟩ hlt' hne (by simp[hne,Ne.symm nae]) fun v h1 tk hv heo st1 ht1 hz1 hk1=>?_
  have ev:v=u:=by have:=hv.symm.trans ui;cases this;rfl
  subst ev
  have hit1:=st1.1
  refine⟨_,rfl,?_⟩
  refine bs9 heo fun h2 he2 hs2=>?_
  have hlt:e<s.heap.objs.size:=j4 he
  have hs2':Heap.SameBut e h1 h2:=hs2
  have ht2:h2.get? s.heap.objs.size=some { cls:=.type "tuple",data:=.seq #[.int i tk,v] }:=(hs2'.2 _ (Y0 hlt)).trans ht1
  have kp:∀ b o,b≠e->b≠ip->s.heap.get? b=some o->h2.get? b=some o:=fun b o h1' h2' q=>(hs2'.2 b h1').trans (hk1 b o h1' h2' q)
  have hT:H s.heap.objs.size=none:=I.hok.fresh (c5 _)
  have nH:∀ b,H b≠none->b≠e/\b≠ip:=fun b hb=>⟨fun z=>hb (z ▸ f0),fun z=>hb (z ▸ g0)⟩
  have keepH:∀ b o,H b=some o->upd H s.heap.objs.size (.tup [.int i,x]) b=some o:=fun b o q=>by rw[p6 (t4 q hT)];exact q
  have hok2:HOk X.prog X.w (upd H s.heap.objs.size (.tup [.int i,x])) h2:=fun b o eb=>by
   by_cases hb:b=s.heap.objs.size
   ·subst hb
    rw[b7]at eb
    cases eb
    exact⟨by show 2<=f6;decide,[.int i tk,v],.cons ⟨_,rfl⟩ (.cons ru .nil),⟨_,ht2,rfl,_,rfl⟩⟩
   ·rw[p6 hb]at eb
    refine(I.hok b o eb).stay (fun c v hcc q=>kp c v ?_ ?_ q) (fun c q=>keepH c _ q) fun c ys q=>keepH c _ q
    ·rcases hcc with z | z
     ·exact(nH c (by rw[z,eb];simp)).1
     ·exact(nH c (by rw[z];simp)).1
    ·rcases hcc with z | z
     ·exact(nH c (by rw[z,eb];simp)).2
     ·exact(nH c (by rw[z];simp)).2
  have I2:Inv X pins σ (upd H s.heap.objs.size (.tup [.int i,x])) { s with heap:=h2,toks:=tk+1 }:=by
   refine I.step (g':=s.gens) (d':=s.drawn) (t':=tk+1) (ch:=[e,ip]) (fun b hb=>?_) (fun b o _ _ hcc q _=>kp b o (fun z=>hcc (by simp[z])) (fun z=>hcc (by simp[z])) q) (fun b o _ _ hcc q _=>⟨o.slots,kp b o (fun z=>hcc (by simp[z])) (fun z=>hcc (by simp[z])) q⟩) (fun b o _ q n=>?_)
    (fun b o hcc q=>⟨o,kp b o (fun z=>hcc (by simp[z])) (fun z=>hcc (by simp[z])) q⟩) (fun b ys q=>keepH b _ q) (fun b o v q=>keepH b _ q) (fun b ps q=>⟨#[],by rw[keepH b _ q];simp⟩) (fun m hm=>?_) hok2 I.bare
   ·rcases d3.mp hb with rfl | hb
    ·exact⟨f3,f1,f4,f5⟩
    ·obtain rfl:b=ip:=by simpa using hb
     exact⟨g3,g1,g4,g5⟩
   ·rw[p6 (m8 (j4 q))]
    exact n
   ·obtain⟨o,es,ep,ho,r⟩:=hm
    exact⟨o,es,ep,kp _ o (Ne.symm f1) (Ne.symm g1) ho,r⟩
  have hilt:ip<s.heap.objs.size:=by
   obtain⟨o,ho,_⟩:=id hit
   exact j4 ho
  refine⟨.ref s.heap.objs.size,_,I2,rfl,⟨s.heap.objs.size,x,hT,rfl,fun ys hy=>by rw[I.tuple_inj hy hq];exact hx,rfl⟩,⟨⟨v,?_⟩,?_⟩,fun b hb=>?_⟩
  ·have:=he2
   rw[show ((i:Int)+1)=(((i+1:Nat):Int)) by simp]at this
   exact this
  ·exact hit1.at fun o q=>(hs2'.2 ip (Ne.symm hne)).trans q
  ·rcases d3.mp hb with rfl | hb
   ·rw[p6 (m8 hlt)];exact f0
   ·obtain rfl:b=ip:=by simpa using hb
    rw[p6 (m8 hilt)]
    exact g0
 done:=by
  intro X hP hw hK hc i pins s σ H E I hf st hg
  subst hP hw hK
  obtain⟨xs,hq,hx⟩:=hg
  obtain⟨⟨old,he⟩,hit⟩:=st
  obtain⟨its,rv,p,hz⟩:=I.tuple hq
  obtain⟨g0,g1,g2,g3,g4,g5⟩:=hf ip (by simp)
  have hl:=rv.length
  have pT:s.heap.IsTuple a its.toArray:=p
  have nai:a≠ip:=fun z=>by
   obtain⟨o1,h1,c1,_⟩:=id pT
   obtain⟨o2,h2,c2,_⟩:=id hit
   rw[z,h2]at h1;cases h1;rw[c2]at c1;injection c1 with c1;exact absurd c1 (by decide)
  have ei:i=its.toArray.size:=by rw[d8];omega
  refine wpAny_pyNext_enum_endD (aH7 (A:=X.A.in1) (I.ok.hd hc) ip a nai its.toArray) he ⟨by rw[<- ei];exact hit,pT⟩ fun h' eb=>⟨rfl,I.turned (t':=s.toks) (fun b o hb q=>eb b o hb q) g0 g1 g3 g4 g5⟩
 self:=fun _ _ _ _ _ st h=>let ⟨⟨old,he⟩,_⟩:=st;al3 he h
theorem aS4 {a:Expr}{ta:TA}{elts:List Expr}{x1:Nat}{tpos p:Pos}(hg:Gl X "enumerate")(hm:X.mg "enumerate"=none)(ha:PA X [a] ta)(hv:R1 "enumerate"=some (.type "enumerate"):=by rfl)(hs:A6 [a] X.env=[(false,eval a X.env)]:=by rfl) :
  PI X (.Tuple elts x1 tpos) (.Call (.Name "enumerate" p) [a] [] pos) (bZ1 X.K ta):=by
 intro pins s σ H R I h
 refine Call_ (aa1 I hg hm hv (PyProof.Rows.callWith_type1 (thn (ha pos pins s σ H _ I h) fun us s1 ⟨vs,H1,I1,r1,q1⟩=>?_) hs rfl))
 obtain⟨b,e,⟨xs,hq⟩,q⟩:=q1
 subst e
 obtain⟨u,rfl,rx⟩:=vals1 r1
 cases rx
 obtain⟨its,rv,pl,hz⟩:=I1.tuple hq
 refine aF1 (show s1.heap.IsTuple b its.toArray from pl) fun h' he hit hsz kp=>?_
 refine al3 he ?_
 have hne:s1.heap.objs.size+1≠s1.heap.objs.size:=Nat.succ_ne_self _
 refine⟨s1.heap.objs.size+1,[s1.heap.objs.size+1,s1.heap.objs.size],_,_,H1,rfl,I1.kept (t':=s1.toks) kp,aZ5 b s1.heap.objs.size (s1.heap.objs.size+1) hne,⟨⟨_,he⟩,hit⟩,fun c hc=>?_,q⟩
 rcases d3.mp hc with rfl | hc
 ·exact I1.fpOk (W8 _) (I1.hok.fresh (W8 _))
 ·obtain rfl:c=s1.heap.objs.size:=by simpa using hc
  exact I1.fpOk (c5 _) (I1.hok.fresh (c5 _))
theorem bs0 (hc:X.calm=true):X8 X (.builtin "sum") (fun xs H Q=>∃ (p:Addr) (ns:List Int),xs=[.ref p]/\SqT X.K H p (ns.map V.int)/\Q (.int ns.sum) H):=by
 intro pins s σ H xs us Q I r h
 obtain⟨p,ns,rfl,hq,q⟩:=h
 obtain⟨u,rfl,rx⟩:=vals1 r
 cases rx
 obtain⟨its,r',pl,hz⟩:=I.tuple hq
 have hi:M7 its ns:=intsAre_of r'
 obtain⟨ys,e⟩:=hi.allInts.items
 refine PySem.W.ktm_sumG (xs:=ys) (I.ok.hd hc) (by rw[<- e];exact pl) fun h' tk t' hk=>⟨.int ns.sum,H,I.kept (t':=tk) hk,⟨t',?_⟩,q⟩
 have e2:numsOf (intItems ys).toList=ns:=by rw[<- e];exact hi.numsOf
 rw[nums_intItems]at e2
 rw[preSum_eq,i8 (by simp),e2]
end L2
namespace L2
open PySem PySem.Spec PyProof.Rows
theorem br8 {elt iter:Expr} {ifs:List Expr} {ipos:Pos} {wi:TI} {g:TG} {tt:TT} {use:Option (Value->Sem Unit)} {R:Value->Shared->Prop} {Q:VK}
  (hc:X.calm=true) (hi:PI X tg iter wi) (hclos:aP5 scope X.env=pure cl) (hkind:scope.kind=.function)
  (hnames:∀ y∈scope.names,y.2=.local->scope.names.lookup y.1=some .local) (hcl:aD5 X.env cl) (hfr:av1 scope.names cl=true) (hlk:bE8 X N' lk scope cl)
  (hg:∀ s3 H3 fp,PG (F1 X scope cl N' s3 H3 fp fun _ _=>False) tg g) (ht:∀ s3 H3 fp,PTs (F1 X scope cl N' s3 H3 fp fun _ _=>False) ifs tt) (he:∀ s3 H3 fp,PE (F1 X scope cl N' s3 H3 fp fun _ _=>False) elt te)
  (hs:∀ x,al0 iter X.env x=pure x) (I:Inv X pins σ H s) (h:bu8 wi lk g tt te σ H Q)
  (hend : ∀ (C D : Addr) (s' : Shared) (H' : Hp), Inv X pins σ H' s' -> Q (.ref D) H' -> H' C = none -> C ≠ X.env.locals -> X.s₀.heap.objs.size <= C -> (∀ x c, X.env.cells.lookup x = some c -> c ≠ C) -> (∀ p ∈ X.pn ++ pins, p.1 ≠ C) -> (∃ m, s'.heap.Ns C m) ->
   bH0 (p7 X.prog X.w) X.A X.xe use R (.ref D) C (.ok .next) s') :
  p9 (p7 X.prog X.w) X.A (comprehension (.ListComp elt [⟨tg,iter,ifs,0⟩] scope pos) scope X.env ipos (newList []) false (eval iter X.env) use) R X.xe s:=by
 have hcellN:∀ y∈scope.names,y.2≠.cell:=fun y hy=>by
  unfold av1 at hfr
  rw[S5]at hfr
  have:=hfr y hy
  rw[x6]at this
  simpa using this.1
 refine bF9 (use:=use) rfl hs hclos hkind hnames (thn (hi pins s σ H _ I h) fun v s1 h1=>thn h1 fun itv s2 h2=>?_)
 obtain⟨it,fp,tn,J,H2,e,I2,T,st2,f2,q⟩:=h2
 subst e
 refine W1 ?_ (o5 _)
 have hD:H2 s2.heap.objs.size=none:=I2.hok.fresh (c5 _)
 have I3:=I2.lnew (ys:=[]) (its:=[]) (t':=s2.toks) .nil (o5 _)
 obtain⟨W,⟨m0,w0⟩,turn⟩:=q s2.heap.objs.size hD
 have fpl:∀ b∈fp,b<s2.heap.objs.size:=fun b hb=>by
  obtain⟨o,ho,_⟩:=T.obj 0 s2.heap st2 b hb
  exact j4 ho
 refine ay0 hcellN (by intro y hy;cases hy) (fun h1 hns1 hsb1=>?_) hkind
 dsimp only at hns1 hsb1 ⊢
 have e3:s2.heap.push { cls:=.type "list",dict:=none,data:=.seq ([]:List Value).toArray }=s2.heap.push { cls:=.type "list",data:=.seq ([]:List Value).toArray }:=rfl
 generalize hh3:s2.heap.push { cls:=.type "list",dict:=none,data:=.seq ([]:List Value).toArray }=h3 at *
 have I3':Inv X pins σ (upd H2 s2.heap.objs.size (.lst [])) { s2 with heap:=h3,toks:=s2.toks }:=I3
 have size3:h3.objs.size=s2.heap.objs.size+1:=by rw[<- hh3,O8]
 have f3:∀ b∈fp,R4 X pins (upd H2 s2.heap.objs.size (.lst [])) b:=fun b hb=>by
  obtain⟨f0,fr⟩:=f2 b hb
  exact⟨by rw[p6 (m8 (fpl b hb))];exact f0,fr⟩
 have up:∀ b u,h3.get? b=some u->h1.get? b=some u:=fun b u eb=>by
  rw[hsb1.2 b (m8 (j4 eb))]
  exact a7 _ eb
 have I4:Inv (F1 X scope cl N' { s2 with heap:=h3,toks:=s2.toks } (upd H2 s2.heap.objs.size (.lst [])) fp fun _ _=>False) [] (ad8 lk σ) (upd H2 s2.heap.objs.size (.lst [])) { s2 with heap:=h1,toks:=s2.toks+([]:List (Str × Value)).length }:=
  aC6 (s3:={ s2 with heap:=h3,toks:=s2.toks }) I3' f3 hkind hcl hfr hlk hns1 up fun b hb=>by show b<h3.objs.size;rw[size3];exact G4 (fpl b hb)
 have st4:tn 0 h1:=T.keep 0 s2.heap h1 st2 fun b hb o eb=>up b o (by rw[<- hh3];exact a7 _ eb)
 have hCs:h3.objs.size=(R7 scope cl h3.objs.size X.env).locals:=rfl
 have stat:∀ {H':Hp},(∀ b∈fp,H' b=none)->∀ b∈fp,R4 (F1 X scope cl N' { s2 with heap:=h3,toks:=s2.toks } (upd H2 s2.heap.objs.size (.lst [])) fp fun _ _=>False) [] H' b:=fun {H'} hn b hb=>by
  obtain⟨f0,f1,f2',f3',f4,f5⟩:=f3 b hb
  refine⟨hn b hb,?_,fun z=>?_,.inl hb,fun x c ex=>f4 x c (hcl.get ex),fun p hp=>nomatch hp⟩
  ·show b≠h3.objs.size
   rw[size3]
   exact m8 (G4 (fpl b hb))
  ·rcases d3.mp (I3'.stkSub b z) with q | q
   ·exact f1 q
   ·exact f2' q
 have fin:∀ (s':Shared) (σ':St) (H':Hp),Inv (F1 X scope cl N' { s2 with heap:=h3,toks:=s2.toks } (upd H2 s2.heap.objs.size (.lst [])) fp fun _ _=>False) [] σ' H' s'->Q (.ref s2.heap.objs.size) H' ->
   bH0 (p7 X.prog X.w) X.A X.xe use R (.ref s2.heap.objs.size) h3.objs.size (.ok .next) s':=fun s' σ' H' I' q'=>by
  obtain⟨m,hm,_⟩:=id I'.loc
  have I5:Inv X pins σ H' s':=I3'.call' (ch:=fp) I'.os I'.base I'.hok I'.bare fun b hb=>by
   obtain⟨f0,f1,f2',f3',f4,f5⟩:=f3 b hb
   exact⟨f3',f1,f4,f5⟩
  exact hend h3.objs.size s2.heap.objs.size s' H' I5 q' I'.free (Y0 I3'.lt) I3'.sz (fun x c ex z=>by
   obtain⟨v',q2⟩:=I3'.cell x c ex
   exact absurd q2.lt (by rw[z];exact G5 _)) (fun p hp z=>absurd (j4 (I3'.pin p hp).1) (by rw[z];exact G5 _)) ⟨m,hm⟩
 have loop:∀ s5:Shared,s5={ s2 with heap:=h1,toks:=s2.toks+([]:List (Str × Value)).length } ->
   aP4 (p7 X.prog X.w) X.A (.compLoop (.ListComp elt [⟨tg,iter,ifs,0⟩] scope pos) 0 (.ref it) (.ref s2.heap.objs.size) (R7 scope cl h3.objs.size X.env)) (bH0 (p7 X.prog X.w) X.A X.xe use R (.ref s2.heap.objs.size) h3.objs.size) s5:=by
  rintro s5 rfl
  refine codeAny_loop rfl (fun n s'=>∃ i xs σ' H',Inv (F1 X scope cl N' { s2 with heap:=h3,toks:=s2.toks } (upd H2 s2.heap.objs.size (.lst [])) fp fun _ _=>False) [] σ' H' s'/\tn i s'.heap/\(∀ b∈fp,H' b=none)/\W i n xs σ' H')
   (fun n s6 hI=>?_) m0 ⟨0,[],ad8 lk σ,_,I4,st4,fun b hb=>(f3 b hb).1,w0⟩
  obtain⟨i,xs,σ6,H6,I6,st6,fr6,w6⟩:=hI
  show p9 _ X.A ((compTurn (.ListComp elt [⟨tg,iter,ifs,0⟩] scope pos) 0 (.ref it) (.ref s2.heap.objs.size) (R7 scope cl h3.objs.size X.env)).onRaise (fun x=>do noteFrame x (R7 scope cl h3.objs.size X.env);theTreesLotGoes x)) _ _ s6
  refine wpAny_noted ?_
  rw[compTurn_list]
  refine a8 (aI9 (a8 ?_))
  obtain⟨hD6,hw⟩:=turn i n xs σ6 H6 w6
  rcases hw with⟨stop,qn⟩ | ⟨go,hlen,step⟩
  ·refine thn (T.done (F1 X scope cl N' { s2 with heap:=h3,toks:=s2.toks } (upd H2 s2.heap.objs.size (.lst [])) fp fun _ _=>False) rfl rfl rfl hc i [] s6 σ6 H6 _ I6 (stat fr6) st6 stop) fun r s7 ⟨hr,I7⟩=>?_
   subst hr
   exact j9 (fin s7 σ6 H6 I7 qn)
  ·refine thn (T.item (F1 X scope cl N' { s2 with heap:=h3,toks:=s2.toks } (upd H2 s2.heap.objs.size (.lst [])) fp fun _ _=>False) rfl rfl rfl hc i [] s6 σ6 H6 _ I6 (stat fr6) st6 go) fun r s7 ⟨u,hr,h7⟩=>?_
   subst hr
   refine a8 (thn h7 fun _ s8 ⟨x,H8,I8,r8,y8,st8,fr8⟩=>?_)
   have I8':=I8.pinned (stat fr8) (T.obj _ _ st8)
   refine a8 (E6 (hg _ _ _ _ s8 σ6 H8 x u _ I8' r8 (step x H8 y8)) (fun _ s9 ⟨σ9,H9,I9,q9⟩=>?_) (fun _ _ z=>False.elim z))
   refine a8 (E6 (ht _ _ _ _ s9 σ9 H9 _ I9 q9) (fun ok s10 ⟨H10,I10,q10⟩=>?_) (fun _ _ z=>False.elim z))
   have bS2:∀ {σ':St} {H':Hp} {ys:List V} {s':Shared},Inv (F1 X scope cl N' { s2 with heap:=h3,toks:=s2.toks } (upd H2 s2.heap.objs.size (.lst [])) fp fun _ _=>False) ([]++al5 fp s8.heap) σ' H' s'->(∃ m',m'<n/\W (i+1) m' ys σ' H') ->
     ∃ m',m'<n/\∃ i xs σ' H',Inv (F1 X scope cl N' { s2 with heap:=h3,toks:=s2.toks } (upd H2 s2.heap.objs.size (.lst [])) fp fun _ _=>False) [] σ' H' s'/\tn i s'.heap/\(∀ b∈fp,H' b=none)/\W i m' xs σ' H':=fun {σ' H' ys s'} I' ⟨m',hm,w'⟩=>by
    refine⟨m',hm,i+1,ys,σ',H',I'.unpinned,T.keep _ _ _ st8 fun b hb o eb=>(I'.pin (b,o) (k9 _ (k9 _ (Q5 hb eb)))).1,fun b hb=>?_,w'⟩
    obtain⟨o,eb,_⟩:=T.obj _ _ st8 b hb
    exact(I'.pin (b,o) (k9 _ (k9 _ (Q5 hb eb)))).2.1
   cases ok with
   | false =>
    have q10':∃ m',m'<n/\W (i+1) m' xs σ9 H10:=by simpa using q10
    exact j9 ⟨rfl,bS2 I10 q10'⟩
   | true =>
    rw[if_pos rfl]at q10
    refine a8 (a8 (E6 (he _ _ _ _ s10 σ9 H10 _ I10 q10) (fun y s11 ⟨v11,H11,I11,r11,hD11,q11⟩=>?_) (fun _ _ z=>False.elim z)))
    refine a8 (E6 (ab4 (X:=F1 X scope cl N' { s2 with heap:=h3,toks:=s2.toks } (upd H2 s2.heap.objs.size (.lst [])) fp fun _ _=>False) _ s11 σ9 H11 (.ref s2.heap.objs.size) [v11] (.ref s2.heap.objs.size) [y] (fun _ H'=>∃ m',m'<n/\W (i+1) m' (xs++[v11]) σ9 H') I11 rfl (.cons r11 .nil) ⟨s2.heap.objs.size,xs,v11,rfl,rfl,hD11,hlen,q11⟩) (fun _ s12 ⟨_,H12,I12,_,q12⟩=>?_) (fun _ _ z=>False.elim z))
    exact j9 (j9 ⟨rfl,bS2 I12 q12⟩)
 exact bO8 (loop _ rfl) (T.self X.A 0 _ _ _ st4 (loop _ rfl))
def cd4 (i:Nat)(t:TE):TS:=fun D σ H=>t σ H fun v H1=>D.nx (σ.set i (some v)) H1
theorem aK7 {y:Str}{py:Pos}{elt iter:Expr}{ifs:List Expr}{spos:Pos}{wi:TI}{g:TG}{tt:TT}
  (hN:X.N.Nodup)(hy:X.N[i]?=some y)(hyl:X.env.scope.names.lookup y=some .local)
  (hsw:bS1 (.ListComp elt [⟨tg,iter,ifs,0⟩] scope pos) (some (.Name y py)) spos.line X.env=pure true)
  (hc:X.calm=true)(hi:PI X tg iter wi)(hclos:aP5 scope X.env=pure cl)(hkind:scope.kind=.function)
  (hnames:∀ y∈scope.names,y.2=.local->scope.names.lookup y.1=some .local)(hcl:aD5 X.env cl)(hfr:av1 scope.names cl=true)(hlk:bE8 X N' lk scope cl)
  (hg:∀ s3 H3 fp,PG (F1 X scope cl N' s3 H3 fp fun _ _=>False) tg g)(ht:∀ s3 H3 fp,PTs (F1 X scope cl N' s3 H3 fp fun _ _=>False) ifs tt)(he:∀ s3 H3 fp,PE (F1 X scope cl N' s3 H3 fp fun _ _=>False) elt te)
  (hs:∀ x,al0 iter X.env x=pure x:=by intro _;rfl):PS X (.Assign [.Name y py] (.ListComp elt [⟨tg,iter,ifs,0⟩] scope pos) spos) (cd4 i (bu8 wi lk g tt te)):=by
 intro pins s σ H D I h
 rw[exec_Assign_Name_used _ _ _ _ hsw]
 refine a8 (aI9 (a8 ?_))
 show p9 _ X.A (do let _ <- comprehension (.ListComp elt [⟨tg,iter,ifs,0⟩] scope pos) scope X.env _ (newList []) false (eval iter X.env) (some (assign (.Name y py) X.env))) _ _ s
 refine a8 (thn (br8 (use:=some (assign (.Name y py) X.env)) (R:=fun _ s'=>SP X pins D .next s') hc hi hclos hkind hnames hcl hfr hlk hg ht he hs I h
  fun C Dd s' H' I' q' hC hCL hCs hCc hCp ⟨m,hm⟩=>?_) fun _ s' hq=>j9 (j9 hq))
 show p9 _ X.A (assign (.Name y py) X.env (.ref Dd)) _ _ s'
 refine wpAny_assign_Name (aF9 (v:=.ref Dd) I' hN hy (.inl hyl) rfl (fun s2 I2 ⟨a,hsb,ha⟩=>?_) (.inr hyl))
 have hCa:C≠a:=by
  rcases ha with z | z
  ·rw[z];exact hCL
  ·exact(hCc y a z).symm
 refine⟨m,hm.sameBut hsb hCa,fun h' hs'=>?_⟩
 obtain⟨h0,g0,d0,t0,o0⟩:=s2
 exact⟨_,H',I2.turned (t':=t0) (it:=C) (fun b o hb eb=>(hs'.2 b hb).trans eb) hC hCL (.inr hCs) hCc hCp,q'⟩
end L2
namespace Grf
def S:Nat->(Nat->Int)->Int
 | 0,_=>0
 | n+1,f=>S n f+f n
theorem u9 {f g:Nat->Int}:∀ {n:Nat},(∀ i,i<n->f i=g i)->S n f=S n g
 | 0,_=>rfl
 | n+1,h=>by
  show S n f+f n=S n g+g n
  rw[u9 fun i hi=>h i (by omega),h n (by omega)]
theorem as2 {f g:Nat->Int}:∀ {n:Nat},(∀ i,i<n->f i<=g i)->S n f<=S n g
 | 0,_=>K8 _
 | n+1,h=>by
  have h1:=as2 (n:=n) fun i hi=>h i (by omega)
  have h2:=h n (by omega)
  show S n f+f n<=S n g+g n
  omega
theorem U8 (f g:Nat->Int):∀ n:Nat,S n (fun i=>f i+g i)=S n f+S n g
 | 0=>rfl
 | n+1=>by
  show S n (fun i=>f i+g i)+(f n+g n)=S n f+f n+(S n g+g n)
  rw[U8 f g n]
  omega
theorem S8 (f g:Nat->Int):∀ n:Nat,S n (fun i=>f i - g i)=S n f - S n g
 | 0=>rfl
 | n+1=>by
  show S n (fun i=>f i - g i)+(f n - g n)=S n f+f n - (S n g+g n)
  rw[S8 f g n]
  omega
theorem O6:∀ n:Nat,S n (fun _=>0)=0
 | 0=>rfl
 | n+1=>by
  show S n (fun _=>0)+0=0
  rw[O6 n];rfl
theorem ae1 (c:Int):∀ n:Nat,S n (fun _=>c)=(n:Int)*c
 | 0=>by simp[S]
 | n+1=>by
  show S n (fun _=>c)+c=((n+1:Nat):Int)*c
  rw[ae1 c n,show ((n+1:Nat):Int)=(n:Int)+1 by omega,Int.add_mul,bR8]
theorem ao5 (c:Int)(f:Nat->Int):∀ n:Nat,S n (fun i=>c*f i)=c*S n f
 | 0=>by simp[S]
 | n+1=>by
  show S n (fun i=>c*f i)+c*f n=c*(S n f+f n)
  rw[ao5 c f n,Int.mul_add]
theorem O7 {f:Nat->Int}(h:∀ i,i<n->0<=f i):0<=S n f:=by
 have:=as2 (f:=fun _=>0) (g:=f) (n:=n) h
 rw[O6]at this
 exact this
theorem bE3 (f:Nat->Nat->Int)(m:Nat):∀ n:Nat,S n (fun i=>S m (fun j=>f i j))=S m (fun j=>S n (fun i=>f i j))
 | 0=>(O6 m).symm
 | n+1=>by
  show S n (fun i=>S m (fun j=>f i j))+S m (fun j=>f n j)=S m (fun j=>S n (fun i=>f i j)+f n j)
  rw[bE3 f m n,<- U8]
theorem ah2 (c:Int)(h:j<n):S n (fun i=>if i=j then c else 0)=c:=by
 induction n with
 | zero=>omega
 | succ n ih =>
  show S n (fun i=>if i=j then c else 0)+(if n=j then c else 0)=c
  by_cases e:n=j
  ·rw[if_pos e,u9 (g:=fun _=>0) fun i hi=>if_neg (by omega),O6];omega
  ·rw[if_neg e,ih (by omega)];omega
theorem Q6 {f g:Nat->Int}(h:j<n)(hf:∀ i,i<n->i≠j->f i=g i):S n f=S n g+(f j - g j):=by
 have:S n f=S n (fun i=>g i+(if i=j then f j - g j else 0)):=u9 fun i hi=>by
  by_cases e:i=j
  ·rw[if_pos e,e];omega
  ·rw[if_neg e,hf i hi e];omega
 rw[this,U8,ah2 _ h]
theorem ak1 {f:Nat->Int}(h:j<n)(hf:∀ i,i<n->0<=f i):f j<=S n f:=by
 have h1:=Q6 (f:=f) (g:=fun i=>if i=j then 0 else f i) h (fun i _ e=>by rw[if_neg e])
 have h2:0<=S n (fun i=>if i=j then 0 else f i):=O7 fun i hi=>by
  by_cases e:i=j
  ·rw[if_pos e];exact K8 _
  ·rw[if_neg e];exact hf i hi
 rw[if_pos rfl]at h1
 omega
theorem bE5 {f g:Nat->Int}(h:S n f<S n g):∃ i,i<n/\f i<g i:=by
 induction n with
 | zero=>exact absurd h (aE0 _)
 | succ n ih =>
  by_cases e:f n<g n
  ·exact⟨n,by omega,e⟩
  ·have h':S n f+f n<S n g+g n:=h
   obtain⟨i,hi,h2⟩:=ih (by omega)
   exact⟨i,by omega,h2⟩
def b2 (b:Bool):Int:=if b then 1 else 0
theorem U7:b2 true=1:=rfl
theorem P2:b2 false=0:=rfl
theorem B1 (b:Bool):0<=b2 b:=by cases b<;>decide
theorem aI5 (b:Bool):b2 b<=1:=by cases b<;>decide
structure Gph (g:Nat->Nat->Bool):Prop where
 sym:∀ i j,g i j=g j i
 irr:∀ i,g i i=false
def deg (n:Nat)(g:Nat->Nat->Bool)(i:Nat):Int:=S n fun j=>b2 (g i j)
def O1 (g:Nat->Nat->Bool)(a b:Nat)(v:Bool):Nat->Nat->Bool:=fun i j=>if (i=a/\j=b)\/(i=b/\j=a) then v else g i j
theorem J2 {a b:Nat}{v:Bool}(h:Gph g)(hab:a≠b):Gph (O1 g a b v) where
 sym:=fun i j=>by
  unfold O1
  by_cases e:(i=a/\j=b)\/(i=b/\j=a)
  ·rw[if_pos e,if_pos (by omega)]
  ·rw[if_neg e,if_neg (by omega)];exact h.sym i j
 irr:=fun i=>by
  unfold O1
  rw[if_neg (by omega)];exact h.irr i
theorem L4 {a b:Nat}{v:Bool}(e:¬ ((i=a/\j=b)\/(i=b/\j=a))):O1 g a b v i j=g i j:=if_neg e
theorem am8 {a b:Nat}{v:Bool}:O1 g a b v a b=v:=if_pos (.inl ⟨rfl,rfl⟩)
theorem O3 {a b:Nat}{v:Bool}(h:Gph g)(hab:a≠b)(ha:a<n)(hb:b<n)(i:Nat):deg n (O1 g a b v) i=deg n g i+(if i=a\/i=b then b2 v - b2 (g a b) else 0):=by
 unfold deg
 by_cases e1:i=a
 ·subst e1
  rw[if_pos (.inl rfl),Q6 (g:=fun j=>b2 (g i j)) hb (fun j _ hj=>by show b2 _=_;rw[L4 (by omega)])]
  show _+(b2 (O1 g i b v i b) - _)=_
  rw[am8]
 ·by_cases e2:i=b
  ·subst e2
   rw[if_pos (.inr rfl),Q6 (g:=fun j=>b2 (g i j)) ha (fun j _ hj=>by show b2 _=_;rw[L4 (by omega)])]
   show _+(b2 (O1 g a i v i a) - _)=_
   have:O1 g a i v i a=v:=if_pos (.inr ⟨rfl,rfl⟩)
   rw[this,h.sym i a]
  ·rw[if_neg (by omega),u9 (g:=fun j=>b2 (g i j)) fun j _=>by show b2 _=_;rw[L4 (by omega)]]
   omega
end Grf
namespace Grf
theorem ax2 {x y:Nat}(h:Gph g)(hy:y<n)(hxy:x≠y):S n (fun z=>if z=x\/z=y then 0 else b2 (g x z))=deg n g x - b2 (g x y):=by
 unfold deg
 rw[Q6 (f:=fun z=>if z=x\/z=y then 0 else b2 (g x z)) (g:=fun z=>b2 (g x z)) hy (fun i _ hi=>?_)]
 ·show _+((if y=x\/y=y then (0:Int) else _) - _)=_
  rw[if_pos (.inr rfl)];omega
 ·show (if i=x\/i=y then (0:Int) else _)=_
  by_cases e:i=x
  ·rw[if_pos (.inl e),e,h.irr];rfl
  ·rw[if_neg (by omega)]
theorem ci0 {x y:Nat}(h:Gph g)(hx:x<n)(hy:y<n)(hxy:x≠y)(hd:deg n g y<deg n g x):∃ z,z<n/\z≠x/\z≠y/\g x z=true/\g y z=false:=by
 have h1:=ax2 h hy hxy
 have h2:=ax2 h hx (Ne.symm hxy)
 have h3:S n (fun z=>if z=y\/z=x then 0 else b2 (g y z))<S n (fun z=>if z=x\/z=y then 0 else b2 (g x z)):=by
  rw[h1,h2,h.sym y x];omega
 obtain⟨z,hz,hlt⟩:=bE5 h3
 by_cases e:z=x\/z=y
 ·rw[if_pos (show z=y\/z=x by omega),if_pos e]at hlt
  exact absurd hlt (aE0 _)
 ·rw[if_neg (show ¬ (z=y\/z=x) by omega),if_neg e]at hlt
  refine⟨z,hz,by omega,by omega,?_⟩
  cases h4:g x z<;>cases h5:g y z<;>rw[h4,h5]at hlt<;>simp_all [b2]
theorem find3 {x y v:Nat}(h:Gph g)(hx:x<n)(hy:y<n)(hv:v<n)(hxy:x≠y)(hxv:x≠v)(hyv:y≠v)(hd:deg n g y<=deg n g x)(h1:g y v=true)(h2:g x v=false) :
  ∃ z,z<n/\z≠x/\z≠y/\z≠v/\g x z=true/\g y z=false:=by
 have e1:=ax2 h hy hxy
 have e2:=ax2 h hx (Ne.symm hxy)
 have f1:=Q6 (f:=fun z=>if z=v then 0 else (if z=x\/z=y then 0 else b2 (g x z))) (g:=fun z=>if z=x\/z=y then 0 else b2 (g x z)) hv (fun i _ hi=>by show (if i=v then (0:Int) else _)=_;rw[if_neg hi])
 have f2:=Q6 (f:=fun z=>if z=v then 0 else (if z=y\/z=x then 0 else b2 (g y z))) (g:=fun z=>if z=y\/z=x then 0 else b2 (g y z)) hv (fun i _ hi=>by show (if i=v then (0:Int) else _)=_;rw[if_neg hi])
 have g1:(if v=v then (0:Int) else (if v=x\/v=y then 0 else b2 (g x v))) - (if v=x\/v=y then 0 else b2 (g x v))=0:=by
  rw[if_pos rfl,if_neg (by omega),h2];rfl
 have g2:(if v=v then (0:Int) else (if v=y\/v=x then 0 else b2 (g y v))) - (if v=y\/v=x then 0 else b2 (g y v)) = -1:=by
  rw[if_pos rfl,if_neg (by omega),h1];rfl
 rw[g1,e1]at f1
 rw[g2,e2,h.sym y x]at f2
 have h3:S n (fun z=>if z=v then 0 else (if z=y\/z=x then 0 else b2 (g y z)))<S n (fun z=>if z=v then 0 else (if z=x\/z=y then 0 else b2 (g x z))):=by
  rw[f1,f2];omega
 obtain⟨z,hz,hlt⟩:=bE5 h3
 by_cases ev:z=v
 ·rw[if_pos ev,if_pos ev]at hlt
  exact absurd hlt (aE0 _)
 ·rw[if_neg ev,if_neg ev]at hlt
  by_cases e:z=x\/z=y
  ·rw[if_pos (show z=y\/z=x by omega),if_pos e]at hlt
   exact absurd hlt (aE0 _)
  ·rw[if_neg (show ¬ (z=y\/z=x) by omega),if_neg e]at hlt
   refine⟨z,hz,by omega,by omega,ev,?_⟩
   cases h4:g x z<;>cases h5:g y z<;>rw[h4,h5]at hlt<;>simp_all [b2]
def al8 (g:Nat->Nat->Bool)(a b c d:Nat):Nat->Nat->Bool:=O1 (O1 (O1 (O1 g a b false) c d false) a d true) c b true
structure Ex (g:Nat->Nat->Bool) (a b c d:Nat):Prop where
 ab:a≠b
 ac:a≠c
 ad:a≠d
 bc:b≠c
 bd:b≠d
 cd:c≠d
 t1:g a b=true
 t2:g c d=true
 n1:g a d=false
 n2:g c b=false
theorem aW3 {a b c d:Nat}(h:Gph g)(x:Ex g a b c d):Gph (al8 g a b c d):=
 J2 (J2 (J2 (J2 h x.ab) x.cd) x.ad) (Ne.symm x.bc)
theorem aW4 {a b c d:Nat}(h:Gph g)(x:Ex g a b c d)(ha:a<n)(hb:b<n)(hc:c<n)(hd:d<n)(i:Nat):deg n (al8 g a b c d) i=deg n g i:=by
 obtain⟨ab,ac,ad,bc,bd,cd,t1,t2,n1,n2⟩:=x
 unfold al8
 have h1:=J2 (v:=false) h ab
 have h2:=J2 (v:=false) h1 cd
 have h3:=J2 (v:=true) h2 ad
 rw[O3 h3 (Ne.symm bc) hc hb,O3 h2 ad ha hd,O3 h1 cd hc hd,O3 h ab ha hb]
 have v1:O1 g a b false c d=true:=by rw[L4 (by omega)];exact t2
 have v2:O1 (O1 g a b false) c d false a d=false:=by rw[L4 (by omega),L4 (by omega)];exact n1
 have v3:O1 (O1 (O1 g a b false) c d false) a d true c b=false:=by rw[L4 (by omega),L4 (by omega),L4 (by omega)];exact n2
 rw[t1,v1,v2,v3,U7,P2]
 by_cases ea:i=a
 ·subst ea
  rw[if_pos (.inl rfl),if_neg (by omega),if_pos (.inl rfl),if_neg (by omega)];omega
 ·by_cases eb:i=b
  ·subst eb
   rw[if_pos (.inr rfl),if_neg (by omega),if_neg (by omega),if_pos (.inr rfl)];omega
  ·by_cases ec:i=c
   ·subst ec
    rw[if_neg (by omega),if_pos (.inl rfl),if_neg (by omega),if_pos (.inl rfl)];omega
   ·by_cases ed:i=d
    ·subst ed
     rw[if_neg (by omega),if_pos (.inr rfl),if_pos (.inr rfl),if_neg (by omega)];omega
    ·rw[if_neg (by omega),if_neg (by omega),if_neg (by omega),if_neg (by omega)];omega
theorem ag7 {a b c d:Nat}(x:Ex g a b c d)(j:Nat):al8 g a b c d a j=if j=b then false else if j=d then true else g a j:=by
 obtain⟨ab,ac,ad,bc,bd,cd,t1,t2,n1,n2⟩:=x
 unfold al8
 rw[L4 (by omega)]
 by_cases e:j=d
 ·subst e
  rw[am8,if_neg (by omega),if_pos rfl]
 ·rw[L4 (by omega),L4 (by omega),if_neg e]
  by_cases e2:j=b
  ·subst e2
   rw[am8,if_pos rfl]
  ·rw[L4 (by omega),if_neg e2]
theorem ch7 {v:Nat}{N:Nat->Bool}(hv:v<n)(hNv:N v=false):∀ (m:Nat) (g:Nat->Nat->Bool),Gph g->S n (fun j=>b2 (N j))=deg n g v ->
  (∀ x y,x<n->y<n->N x=true->N y=false->y≠v->deg n g y<=deg n g x)->S n (fun j=>b2 (N j && !g v j))=(m:Int) ->
  ∃ g',Gph g'/\(∀ i,i<n->deg n g' i=deg n g i)/\∀ j,j<n->g' v j=N j:=by
 intro m
 induction m with
 | zero =>
  intro g h hs hd hm
  refine⟨g,h,fun _ _=>rfl,fun j hj=>?_⟩
  have all:∀ j,j<n->N j=true->g v j=true:=fun j hj hN=>by
   have:=ak1 (f:=fun j=>b2 (N j && !g v j)) hj (fun i _=>B1 _)
   rw[hm]at this
   cases hg:g v j with
   | true=>rfl
   | false =>
    have e:b2 (N j && !g v j)=1:=by rw[hN,hg];rfl
    have t:b2 (N j && !g v j)<=0:=this
    omega
  have dif:S n (fun j=>b2 (g v j) - b2 (N j))=0:=by rw[S8];unfold deg at hs;omega
  have pos:∀ i,i<n->0<=b2 (g v i) - b2 (N i):=fun i hi=>by
   cases hN:N i with
   | true=>rw[all i hi hN];decide
   | false=>have:=B1 (g v i);rw[P2];omega
  have:=ak1 (f:=fun j=>b2 (g v j) - b2 (N j)) hj pos
  rw[dif]at this
  have p:=pos j hj
  cases hN:N j with
  | true=>exact all j hj hN
  | false =>
   cases hg:g v j with
   | false=>rfl
   | true =>
    have t:b2 (g v j) - b2 (N j)<=0:=this
    rw[hN,hg,U7,P2]at t
    omega
 | succ m ih =>
  intro g h hs hd hm
  obtain⟨x,hx,hlt⟩:∃ x,x<n/\(fun _=>(0:Int)) x<b2 (N x && !g v x):=bE5 (f:=fun _=>0) (g:=fun j=>b2 (N j && !g v j)) (by rw[O6,hm];omega)
  have hNx:N x=true/\g v x=false:=by
   cases h1:N x<;>cases h2:g v x<;>rw[h1,h2]at hlt<;>simp_all [b2]
  obtain⟨y,hy,hlt2⟩:∃ y,y<n/\b2 (N y)<b2 (g v y):=by
   by_cases hc:∃ y,y<n/\b2 (N y)<b2 (g v y)
   ·exact hc
   ·have pos:∀ i,i<n->0<=b2 (N i) - b2 (g v i):=fun i hi=>by
     have:¬ b2 (N i)<b2 (g v i):=fun z=>hc ⟨i,hi,z⟩
     omega
    have t:=ak1 (f:=fun j=>b2 (N j) - b2 (g v j)) hx pos
    have e:S n (fun j=>b2 (N j) - b2 (g v j))=0:=by rw[S8];unfold deg at hs;omega
    rw[e,show b2 (N x) - b2 (g v x)=1 by rw[hNx.1,hNx.2];rfl]at t
    omega
  have hNy:N y=false/\g v y=true:=by
   cases h1:N y<;>cases h2:g v y<;>rw[h1,h2]at hlt2<;>simp_all [b2]
  have xv:x≠v:=fun e=>by rw[e,hNv]at hNx;exact absurd hNx.1 (by decide)
  have yv:y≠v:=fun e=>by rw[e,h.irr]at hNy;exact absurd hNy.2 (by decide)
  have xy:x≠y:=fun e=>by rw[e,hNy.1]at hNx;exact absurd hNx.1 (by decide)
  obtain⟨z,hz,zx,zy,zv,h1,h2⟩:=find3 h hx hy hv xy xv yv (hd x y hx hy hNx.1 hNy.1 yv) (by rw[h.sym];exact hNy.2) (by rw[h.sym];exact hNx.2)
  have ex:Ex g v y z x:=⟨Ne.symm yv,Ne.symm zv,Ne.symm xv,Ne.symm zy,Ne.symm xy,zx,hNy.2,by rw[h.sym];exact h1,hNx.2,by rw[h.sym];exact h2⟩
  have dg:=aW4 h ex hv hy hz hx
  obtain⟨g',k1,k2,k3⟩:=ih (al8 g v y z x) (aW3 h ex) (by rw[dg];exact hs) (fun a b ha hb n1 n2 n3=>by rw[dg,dg];exact hd a b ha hb n1 n2 n3) (by
   have:=Q6 (f:=fun j=>b2 (N j && !al8 g v y z x v j)) (g:=fun j=>b2 (N j && !g v j)) hx (fun j _ hj=>by
    show b2 (N j && !al8 g v y z x v j)=_
    rw[ag7 ex]
    by_cases e:j=y
    ·rw[if_pos e,e,hNy.1];rfl
    ·rw[if_neg e,if_neg hj])
   rw[this,hm]
   have e1:al8 g v y z x v x=true:=by rw[ag7 ex,if_neg xy,if_pos rfl]
   show _+(b2 (N x && !al8 g v y z x v x) - b2 (N x && !g v x))=_
   rw[e1,hNx.1,hNx.2]
   show ((m+1:Nat):Int)+(0 - 1)=_
   omega)
  exact⟨g',k1,fun i hi=>by rw[k2 i hi,dg],k3⟩
end Grf
namespace Grf
def cnt (n:Nat)(a:Nat->Bool):Int:=S n fun i=>b2 (a i)
def sm (n:Nat)(a:Nat->Bool)(d:Nat->Int):Int:=S n fun i=>if a i=true then d i else 0
def put (a:Nat->Bool)(j:Nat)(v:Bool):Nat->Bool:=fun i=>if i=j then v else a i
theorem ac6 {a:Nat->Bool}{v:Bool}:put a j v j=v:=if_pos rfl
theorem Q4 {a:Nat->Bool}{v:Bool}(h:i≠j):put a j v i=a i:=if_neg h
theorem Q3 {a:Nat->Bool}{v:Bool}(h:j<n):cnt n (put a j v)=cnt n a+(b2 v - b2 (a j)):=by
 unfold cnt
 rw[Q6 (g:=fun i=>b2 (a i)) h (fun i _ hi=>by show b2 (put a j v i)=_;rw[Q4 hi])]
 show _+(b2 (put a j v j) - _)=_
 rw[ac6]
theorem V3 {a:Nat->Bool}{v:Bool}(h:j<n):sm n (put a j v) d=sm n a d+((if v=true then d j else 0) - (if a j=true then d j else 0)):=by
 unfold sm
 rw[Q6 (g:=fun i=>if a i=true then d i else 0) h (fun i _ hi=>by show (if put a j v i=true then d i else 0)=_;rw[Q4 hi])]
 show _+((if put a j v j=true then d j else 0) - _)=_
 rw[ac6]
theorem ad6 (n:Nat)(a:Nat->Bool):0<=cnt n a:=O7 fun i _=>B1 _
theorem ax3 {a b:Nat->Bool}(h:∀ i,a i=true->b i=false):cnt n a+cnt n b<=n:=by
 unfold cnt
 rw[<- U8]
 have:=as2 (f:=fun i=>b2 (a i)+b2 (b i)) (g:=fun _=>1) (n:=n) (fun i _=>by
  show b2 (a i)+b2 (b i)<=1
  cases ha:a i with
  | true=>rw[h i ha];decide
  | false=>have:=aI5 (b i);rw[P2];omega)
 rw[ae1]at this
 omega
theorem aM8 {a b:Nat->Bool}(h:∀ i,a i=true->b i=false)(hj:j<n)(ha:a j=false)(hb:b j=false):cnt n a+cnt n b+1<=n:=by
 have:=ax3 (n:=n) (a:=put a j true) (b:=b) (fun i hi=>by
  by_cases e:i=j
  ·rw[e];exact hb
  ·rw[Q4 e]at hi;exact h i hi)
 rw[Q3 hj,ha,U7,P2]at this
 omega
theorem bC8 {a:Nat->Bool}(h:∀ i,i<n->a i=false):cnt n a=0:=by
 unfold cnt
 rw[u9 (g:=fun _=>0) fun i hi=>by rw[h i hi];rfl]
 exact O6 n
theorem av7 {a:Nat->Bool}(h:∀ i,i<n->a i=false):sm n a d=0:=by
 unfold sm
 rw[u9 (g:=fun _=>0) fun i hi=>by rw[h i hi];rfl]
 exact O6 n
theorem bv7 {a:Nat->Bool}(hd:∀ i,i<n->0<=d i)(hj:j<n)(ha:a j=true):d j<=sm n a d:=by
 have:=ak1 (f:=fun i=>if a i=true then d i else 0) hj (fun i hi=>by
  cases a i with
  | true=>exact hd i hi
  | false=>exact K8 _)
 have e:(if a j=true then d j else 0)=d j:=if_pos ha
 unfold sm
 show d j<=_
 rw[<- e]
 exact this
theorem aG1 {a:Nat->Bool}(hd:∀ i,i<n->0<=d i):0<=sm n a d:=O7 fun i hi=>by
 cases a i with
 | true=>exact hd i hi
 | false=>exact K8 _
theorem bU5 {a:Nat->Bool}(hd:∀ i,i<n->0<=d i)(hi:i<n)(hj:j<n)(hij:i≠j)(h1:a i=true)(h2:a j=true):d i+d j<=sm n a d:=by
 have e:=V3 (d:=d) (a:=a) (v:=false) hi
 rw[h1,if_pos rfl,if_neg (by decide)]at e
 have:=bv7 (a:=put a i false) hd hj (by rw[Q4 (Ne.symm hij)];exact h2)
 omega
theorem ce4 {a:Nat->Bool}{m:Int}(h:∀ i,i<n->a i=true->d i<=m):sm n a d<=cnt n a*m:=by
 have e:cnt n a*m=S n (fun i=>m*b2 (a i)):=by rw[ao5,aO8];rfl
 rw[e]
 refine as2 fun i hi=>?_
 cases ha:a i with
 | true=>rw[if_pos rfl,U7,N7];exact h i hi ha
 | false=>rw[if_neg (by decide),P2,ap3];exact K8 _
theorem ce5 {a:Nat->Bool}{m:Int}(h:∀ i,i<n->a i=true->d i=m):sm n a d=cnt n a*m:=by
 have e:cnt n a*m=S n (fun i=>m*b2 (a i)):=by rw[ao5,aO8];rfl
 rw[e]
 refine u9 fun i hi=>?_
 cases ha:a i with
 | true=>rw[if_pos rfl,U7,N7];exact h i hi ha
 | false=>rw[if_neg (by decide),P2,ap3]
theorem ax4 {a:Nat->Bool}(h:cnt n a≠0):∃ i,i<n/\a i=true:=by
 by_cases hc:∃ i,i<n/\a i=true
 ·exact hc
 ·exact absurd (bC8 fun i hi=>by
   cases ha:a i with
   | false=>rfl
   | true=>exact absurd ⟨i,hi,ha⟩ hc) h
theorem cover {a b:Nat->Bool}(h:∀ i,a i=true->b i=false)(hc:cnt n a+cnt n b=n):sm n a d+sm n b d=S n d:=by
 unfold sm
 rw[<- U8]
 refine u9 fun i hi=>?_
 cases ha:a i with
 | true=>rw[h i ha,if_pos rfl,if_neg (by decide)];omega
 | false =>
  cases hb:b i with
  | true=>rw[if_neg (by decide),if_pos rfl];omega
  | false=>have:=aM8 h hi ha hb;omega
def ae5 (n:Nat)(d:Nat->Int):Prop:=∀ a b:Nat->Bool,(∀ i,a i=true->b i=false)->sm n a d<=cnt n a*((n:Int) - 1 - cnt n b)+sm n b d
theorem bk7 (k:Int):∃ q,k*(k - 1)=2*q:=by
 rcases Int.emod_two_eq k with h | h
 ·exact⟨(k / 2)*(k - 1),by
   have:k=2*(k / 2):=by omega
   rw[<- Int.mul_assoc,<- this]⟩
 ·exact⟨k*((k - 1) / 2),by
   have:k - 1=2*((k - 1) / 2):=by omega
   rw[cc0,<- this]⟩
theorem bC3 {a b:Nat->Bool}(h:∀ i,a i=true->b i=false)(x y:Nat):∀ i,put a x false i=true->put b y false i=false:=fun i hi=>by
 by_cases e:i=x
 ·rw[e,ac6]at hi;cases hi
 ·rw[Q4 e]at hi
  by_cases e2:i=y
  ·rw[e2,ac6]
  ·rw[Q4 e2];exact h i hi
theorem bz9 {t u:Nat}(K:ae5 n d)(hd:∀ i,i<n->0<=d i)(ev:∃ q,S n d=2*q)(ht:t<n)(hu:u<n)(htu:t≠u)(hup:0<d u)(hmax:∀ i,i<n->d i<=d t)(hmin:∀ i,i<n->0<d i->d u<=d i) :
  ae5 n (fun i=>d i - (if i=t then 1 else 0) - (if i=u then 1 else 0)):=by
 intro a b hab
 have hdt:d u<=d t:=hmax u hu
 have lower:∀ c:Nat->Bool,sm n c (fun i=>d i - (if i=t then 1 else 0) - (if i=u then 1 else 0))=sm n c d - b2 (c t) - b2 (c u):=fun c=>by
  have e:sm n c (fun i=>d i - (if i=t then 1 else 0) - (if i=u then 1 else 0))=S n (fun i=>(if c i=true then d i else 0) - (if i=t then b2 (c t) else 0) - (if i=u then b2 (c u) else 0)):=u9 fun i hi=>by
   show (if c i=true then (d i - (if i=t then 1 else 0) - (if i=u then 1 else 0)) else 0)=_
   by_cases e1:i=t
   ·subst e1
    rw[if_pos rfl,if_pos rfl,if_neg htu,if_neg htu]
    cases c i with
    | true=>rfl
    | false=>rfl
   ·rw[if_neg e1,if_neg e1]
    by_cases e2:i=u
    ·subst e2
     rw[if_pos rfl,if_pos rfl]
     cases c i with
     | true=>rfl
     | false=>rfl
    ·rw[if_neg e2,if_neg e2]
     cases c i with
     | true=>rw[if_pos rfl,if_pos rfl]
     | false=>rw[if_neg (by decide),if_neg (by decide)];omega
  rw[e,S8,S8,ah2 _ ht,ah2 _ hu]
  rfl
 rw[lower a,lower b]
 have K0:=K a b hab
 have ka:=ad6 n a
 have kb:=ad6 n b
 have kr:=ax3 (n:=n) hab
 have sb:=aG1 (a:=b) hd
 have ba:=fun x=>B1 (a x)
 have ab:=fun x=>aI5 (a x)
 generalize hk:cnt n a=k at *
 generalize hl:cnt n b=l at *
 have pq:k*((n:Int) - 1 - l)=k*(n:Int) - k - k*l:=by rw[Int.mul_sub,Int.mul_sub,N7]
 have rem:∀ s,s<n->a s=true->b t=true->sm n a d+((n:Int) - k - l)+d t - d s<=k*((n:Int) - 1 - l)+sm n b d:=fun s hs has hbt=>by
  have:=K (put a s false) (put b t false) (bC3 hab s t)
  rw[V3 hs,V3 ht,Q3 hs,Q3 ht,has,hbt,hk,hl]at this
  simp only[if_true,U7,P2,l6,if_false]at this
  have e:(k+(0 - 1))*((n:Int) - 1 - (l+(0 - 1)))=k*((n:Int) - 1 - l)+k - (n:Int)+l:=by grind
  rw[e]at this
  omega
 have mov:b t=true->a t=false->sm n a d+d t<=(k+1)*((n:Int) - l)+sm n b d - d t:=fun hbt hat=>by
  have dj:∀ i,put a t true i=true->put b t false i=false:=fun i hi=>by
   by_cases e:i=t
   ·rw[e,ac6]
   ·rw[Q4 e]at hi;rw[Q4 e];exact hab i hi
  have:=K (put a t true) (put b t false) dj
  rw[V3 ht,V3 ht,Q3 ht,Q3 ht,hat,hbt,hk,hl]at this
  simp only[if_true,U7,P2,l6,if_false]at this
  have e:(k+(1 - 0))*((n:Int) - 1 - (l+(0 - 1)))=(k+1)*((n:Int) - l):=by grind
  rw[e]at this
  omega
 have nota:∀ i,b i=true->a i=false:=fun i hi=>by
  cases h:a i with
  | false=>rfl
  | true=>rw[hab i h]at hi;cases hi
 have empty:k=0->sm n a d=0:=fun hk0=>av7 fun i hi=>by
  cases h:a i with
  | false=>rfl
  | true =>
   have:=ak1 (f:=fun i=>b2 (a i)) hi (fun i _=>B1 _)
   have e:b2 (a i)=1:=by rw[h];rfl
   unfold cnt at hk
   have t:b2 (a i)<=S n (fun i=>b2 (a i)):=this
   omega
 cases hbt:b t with
 | false =>
  cases hbu:b u with
  | false=>have h1:=ba t;have h2:=ba u;rw[P2];omega
  | true =>
   rw[U7,P2]
   cases hat:a t with
   | true=>have h2:=ba u;rw[U7];omega
   | false =>
    rw[nota u hbu,P2]
    have dub:=bv7 hd hu hbu
    have out:=aM8 hab ht hat hbt
    rw[hk,hl]at out
    by_cases c1:k+1<=d u
    ·have:=K a (put b u false) (fun i hi=>by
      by_cases e:i=u
      ·rw[e,ac6]
      ·rw[Q4 e];exact hab i hi)
     rw[V3 hu,Q3 hu,hbu,hk,hl]at this
     simp only[if_true,U7,P2,l6,if_false]at this
     have e:k*((n:Int) - 1 - (l+(0 - 1)))=k*((n:Int) - 1 - l)+k:=by grind
     rw[e]at this
     omega
    ·by_cases c2:(n:Int) - l<=d t
     ·have:=K (put a t true) b (fun i hi=>by
       by_cases e:i=t
       ·rw[e];exact hbt
       ·rw[Q4 e]at hi;exact hab i hi)
      rw[V3 ht,Q3 ht,hat,hk,hl]at this
      simp only[if_true,U7,P2,l6,if_false]at this
      have e:(k+(1 - 0))*((n:Int) - 1 - l)=k*((n:Int) - 1 - l)+((n:Int) - 1 - l):=by grind
      rw[e]at this
      omega
     ·have h1:=ce4 (a:=a) (d:=d) (m:=(n:Int) - 1 - l) (n:=n) (fun i hi _=>by have:=hmax i hi;omega)
      rw[hk]at h1
      omega
 | true =>
  have hat:=nota t hbt
  rw[hat,U7,P2]
  cases hbu:b u with
  | false =>
   rw[P2]
   cases hau:a u with
   | true=>rw[U7];omega
   | false =>
    rw[P2]
    have out:=aM8 hab hu hau hbu
    rw[hk,hl]at out
    by_cases k0:k=0
    ·have h1:=empty k0
     have h2:=bv7 hd ht hbt
     rw[h1,k0,bG2]
     omega
    ·obtain⟨s,hs,has⟩:=ax4 (n:=n) (a:=a) (by rw[hk];exact k0)
     have h1:=rem s hs has hbt
     have h2:=hmax s hs
     omega
  | true =>
   rw[nota u hbu,U7,P2]
   have two:=bU5 hd ht hu htu hbt hbu
   by_cases k0:k=0
   ·have h1:=empty k0
    rw[h1,k0,bG2]
    omega
   ·-- slack even where there is no place besides
    have par:(n:Int) - k - l=0->sm n a d<k*((n:Int) - 1 - l)+sm n b d->sm n a d+2<=k*((n:Int) - 1 - l)+sm n b d:=fun r0 hlt=>by
     obtain⟨q,hq⟩:=ev
     have cv:=cover (d:=d) hab (by rw[hk,hl];omega)
     obtain⟨q2,hq2⟩:=bk7 k
     have e:k*((n:Int) - 1 - l)=k*(k - 1):=by rw[show (n:Int) - 1 - l=k - 1 by omega]
     rw[e]at hlt ⊢
     omega
    by_cases hex:∃ s,s<n/\a s=true/\d s<d t
    ·obtain⟨s,hs,has,hlt⟩:=hex
     have h1:=rem s hs has hbt
     by_cases r0:(n:Int) - k - l=0
     ·have:=par r0 (by omega);omega
     ·omega
    ·have all:∀ i,i<n->a i=true->d i=d t:=fun i hi hai=>by
      have h1:=hmax i hi
      have h2:¬ d i<d t:=fun z=>hex ⟨i,hi,hai,z⟩
      omega
     obtain⟨s,hs,has⟩:=ax4 (n:=n) (a:=a) (by rw[hk];exact k0)
     have h1:=rem s hs has hbt
     have h2:=all s hs has
     have mv:=mov hbt hat
     have sa:=ce5 (a:=a) (d:=d) (n:=n) all
     rw[hk]at sa
     generalize d t=m at *
     by_cases r2:2<=(n:Int) - k - l
     ·omega
     ·by_cases r1:(n:Int) - k - l=1
      ·have e1:(n:Int) - 1 - l=k:=by omega
       have e2:(n:Int) - l=k+1:=by omega
       rw[e1]
       rw[e2,sa]at mv
       rw[sa]
       have x1:(k+1)*(k+1)=k*k+2*k+1:=by grind
       rw[x1]at mv
       by_cases c1:m<=k
       ·have:=aP0 c1 ka
        omega
       ·by_cases c2:m=k+1
        ·rw[c2,Int.mul_add,N7];omega
        ·omega
      ·have r0:(n:Int) - k - l=0:=by omega
       have e1:(n:Int) - 1 - l=k - 1:=by omega
       have e2:(n:Int) - l=k:=by omega
       have pr:=par r0
       rw[e1]at pr ⊢
       rw[e2,sa]at mv
       rw[sa]at pr ⊢
       have x1:(k+1)*k=k*k+k:=by grind
       have x2:k*(k - 1)=k*k - k:=by grind
       rw[x1]at mv
       rw[x2]at pr ⊢
       by_cases c1:m<=k - 1
       ·have:=aP0 c1 ka
        rw[x2]at this
        omega
       ·by_cases c2:m=k
        ·subst c2
         have:=pr (by omega)
         omega
        ·omega
end Grf
namespace Grf
theorem be0 {p:Nat->Prop}{f:Nat->Int}:∀ {n:Nat},(∃ i,i<n/\p i)->∃ u,u<n/\p u/\∀ i,i<n->p i->f u<=f i:=by
 intro n
 induction n with
 | zero=>rintro⟨i,h,_⟩;omega
 | succ n ih =>
  rintro⟨i,hi,pi⟩
  by_cases h:∃ i,i<n/\p i
  ·obtain⟨u,hu,pu,hm⟩:=ih h
   by_cases c:p n/\f n<f u
   ·refine⟨n,by omega,c.1,fun j hj pj=>?_⟩
    by_cases e:j=n
    ·rw[e];exact K8 _
    ·have:=hm j (by omega) pj;have:=c.2;omega
   ·refine⟨u,by omega,pu,fun j hj pj=>?_⟩
    by_cases e:j=n
    ·subst e
     have:¬ f j<f u:=fun z=>c ⟨pj,z⟩
     omega
    ·exact hm j (by omega) pj
  ·have e:i=n:=by
    by_cases e:i=n
    ·exact e
    ·exact absurd ⟨i,by omega,pi⟩ h
   subst e
   refine⟨i,by omega,pi,fun j hj pj=>?_⟩
   by_cases e:j=i
   ·rw[e];exact K8 _
   ·exact absurd ⟨j,by omega,pj⟩ h
theorem ca4 {p:Nat->Prop}{f:Nat->Int}(h:∃ i,i<n/\p i):∃ u,u<n/\p u/\∀ i,i<n->p i->f i<=f u:=by
 obtain⟨u,h1,h2,h3⟩:=be0 (f:=fun i=>-f i) h
 exact⟨u,h1,h2,fun i hi pi=>by have:=h3 i hi pi;omega⟩
theorem aV1:∀ (m n:Nat) (d:Nat->Int),(∀ i,i<n->0<=d i)->ae5 n d->S n d=2*(m:Int)->∃ g,Gph g/\∀ i,i<n->deg n g i=d i:=by
 intro m
 induction m with
 | zero =>
  intro n d hd K hs
  refine⟨fun _ _=>false,⟨fun _ _=>rfl,fun _=>rfl⟩,fun i hi=>?_⟩
  have h1:=ak1 hi hd
  have h2:=hd i hi
  have h3:deg n (fun _ _=>false) i=0:=O6 n
  rw[h3]
  have:S n d=0:=by rw[hs];rfl
  omega
 | succ m ih =>
  intro n d hd K hs
  have hpos:∃ i,i<n/\0<d i:=by
   have:=bE5 (f:=fun _=>0) (g:=d) (n:=n) (by rw[O6,hs];omega)
   exact this
  obtain⟨t,ht,htp,hmax0⟩:=ca4 (p:=fun i=>0<d i) (f:=d) hpos
  have hmax:∀ i,i<n->d i<=d t:=fun i hi=>by
   by_cases c:0<d i
   ·exact hmax0 i hi c
   ·omega
  have cb:cnt n (fun i=>decide (i≠t/\d i<=0))+cnt n (fun i=>decide (i≠t/\0<d i))+1=n:=by
   unfold cnt
   have e:=ah2 (n:=n) (j:=t) 1 ht
   rw[<- U8]
   have:S n (fun i=>(b2 (decide (i≠t/\d i<=0))+b2 (decide (i≠t/\0<d i)))+(if i=t then 1 else 0))=(n:Int)*1:=by
    rw[<- ae1]
    refine u9 fun i hi=>?_
    by_cases e1:i=t
    ·subst e1;simp[b2]
    ·by_cases c:0<d i
     ·have c':¬ d i<=0:=by omega
      simp[b2,e1,c,c']
     ·have c':d i<=0:=by omega
      simp[b2,e1,c,c']
   rw[U8,e]at this
   show S n (fun i=>b2 (decide (i≠t/\d i<=0))+b2 (decide (i≠t/\0<d i)))+1=_
   omega
  have ca:cnt n (fun i=>decide (i=t))=1:=by
   unfold cnt
   rw[u9 (g:=fun i=>if i=t then 1 else 0) fun i _=>by by_cases e:i=t<;>simp[b2,e]]
   exact ah2 1 ht
  have sa:sm n (fun i=>decide (i=t)) d=d t:=by
   unfold sm
   rw[u9 (g:=fun i=>if i=t then d t else 0) fun i _=>by by_cases e:i=t<;>simp[e]]
   exact ah2 _ ht
  have sb:sm n (fun i=>decide (i≠t/\d i<=0)) d=0:=by
   unfold sm
   rw[u9 (g:=fun _=>0) fun i hi=>by
    by_cases e:i≠t/\d i<=0
    ·have:=hd i hi
     rw[if_pos (decide_eq_true e)]
     have:=e.2
     omega
    ·rw[if_neg (show ¬ decide (i≠t/\d i<=0)=true by rw[decide_eq_false e];decide)]]
   exact O6 n
  have kt:=K (fun i=>decide (i=t)) (fun i=>decide (i≠t/\d i<=0)) (fun i hi=>by
   have:i=t:=of_decide_eq_true hi
   exact decide_eq_false fun z=>z.1 this)
  rw[ca,sa,sb,bR8]at kt
  have hoth:∃ i,i<n/\(i≠t/\0<d i):=by
   obtain⟨i,hi,h⟩:=ax4 (n:=n) (a:=fun i=>decide (i≠t/\0<d i)) (by omega)
   exact⟨i,hi,of_decide_eq_true h⟩
  obtain⟨u,hu,⟨hut,hup⟩,hmin0⟩:=be0 (p:=fun i=>i≠t/\0<d i) (f:=d) hoth
  have hmin:∀ i,i<n->0<d i->d u<=d i:=fun i hi hp=>by
   by_cases e:i=t
   ·rw[e];exact hmax u hu
   ·exact hmin0 i hi ⟨e,hp⟩
  have htu:t≠u:=Ne.symm hut
  have K':=bz9 K hd ⟨_,hs⟩ ht hu htu hup hmax hmin
  obtain⟨g,hg,dg⟩:=ih n _ (fun i hi=>by
   show 0<=d i - (if i=t then 1 else 0) - (if i=u then 1 else 0)
   by_cases e1:i=t
   ·subst e1;rw[if_pos rfl,if_neg htu];omega
   ·by_cases e2:i=u
    ·subst e2;rw[if_neg e1,if_pos rfl];omega
    ·rw[if_neg e1,if_neg e2];have:=hd i hi;omega) K' (by
   rw[S8,S8,ah2 _ ht,ah2 _ hu,hs];omega)
  cases hgu:g t u with
  | false =>
   refine⟨O1 g t u true,J2 hg htu,fun i hi=>?_⟩
   rw[O3 hg htu ht hu,dg i hi,hgu,U7,P2]
   show d i - (if i=t then 1 else 0) - (if i=u then 1 else 0)+_=_
   by_cases e1:i=t
   ·subst e1;rw[if_pos rfl,if_neg htu,if_pos (.inl rfl)];omega
   ·by_cases e2:i=u
    ·subst e2;rw[if_neg e1,if_pos rfl,if_pos (.inr rfl)];omega
    ·rw[if_neg e1,if_neg e2,if_neg (by omega)];omega
  | true =>
   obtain⟨s,hs1,hst,hsp,hgs⟩:∃ s,s<n/\s≠t/\0<d s/\g t s=false:=by
    by_cases hc:∃ s,s<n/\s≠t/\0<d s/\g t s=false
    ·exact hc
    ·have le:cnt n (fun i=>decide (i≠t/\0<d i))<=deg n g t:=as2 fun i hi=>by
      show b2 (decide (i≠t/\0<d i))<=b2 (g t i)
      by_cases e:i≠t/\0<d i
      ·have:g t i=true:=by
        cases h:g t i with
        | true=>rfl
        | false=>exact absurd ⟨i,hi,e.1,e.2,h⟩ hc
       rw[this,decide_eq_true e];exact K8 _
      ·rw[decide_eq_false e];exact B1 _
     have dt:=dg t ht
     have dt':deg n g t=d t - 1 - 0:=by
      rw[dt]
      show d t - (if t=t then 1 else 0) - (if t=u then 1 else 0)=_
      rw[if_pos rfl,if_neg htu]
     omega
   have su:s≠u:=fun e=>by rw[e,hgu]at hgs;cases hgs
   have ds:deg n g s=d s:=by
    rw[dg s hs1]
    show d s - (if s=t then 1 else 0) - (if s=u then 1 else 0)=_
    rw[if_neg hst,if_neg su];omega
   have du:deg n g u=d u - 1:=by
    rw[dg u hu]
    show d u - (if u=t then 1 else 0) - (if u=u then 1 else 0)=_
    rw[if_neg hut,if_pos rfl];omega
   obtain⟨z,hz,zs,zu,h1,h2⟩:=ci0 hg hs1 hu su (by have:=hmin s hs1 hsp;omega)
   have zt:z≠t:=fun e=>by rw[e,hg.sym,hgs]at h1;cases h1
   have g1:=J2 (v:=false) hg (Ne.symm zs)
   have g2:=J2 (v:=true) g1 (Ne.symm hst)
   refine⟨O1 (O1 (O1 g s z false) t s true) u z true,J2 g2 (Ne.symm zu),fun i hi=>?_⟩
   rw[O3 g2 (Ne.symm zu) hu hz,O3 g1 (Ne.symm hst) ht hs1,O3 hg (Ne.symm zs) hs1 hz,dg i hi]
   have v1:O1 g s z false t s=false:=by rw[L4 (by omega)];exact hgs
   have v2:O1 (O1 g s z false) t s true u z=false:=by rw[L4 (by omega),L4 (by omega)];exact h2
   rw[h1,v1,v2,U7,P2]
   show d i - (if i=t then 1 else 0) - (if i=u then 1 else 0)+_+_+_=_
   by_cases e1:i=t
   ·subst e1;rw[if_pos rfl,if_neg htu,if_neg (by omega),if_pos (.inl rfl),if_neg (by omega)];omega
   ·by_cases e2:i=u
    ·subst e2;rw[if_neg e1,if_pos rfl,if_neg (by omega),if_neg (by omega),if_pos (.inl rfl)];omega
    ·rw[if_neg e1,if_neg e2]
     by_cases e3:i=s
     ·subst e3;rw[if_pos (.inl rfl),if_pos (.inr rfl),if_neg (by omega)];omega
     ·by_cases e4:i=z
      ·subst e4;rw[if_pos (.inr rfl),if_neg (by omega),if_pos (.inr rfl)];omega
      ·rw[if_neg (by omega),if_neg (by omega),if_neg (by omega)];omega
theorem aB3 (hg:Gph g)(dg:∀ i,i<n->deg n g i=d i):ae5 n d:=by
 intro a b hab
 have e1:sm n a d=S n (fun i=>S n (fun j=>if a i=true then (if b j=true then b2 (g i j) else 0) else 0))+S n (fun i=>S n (fun j=>if a i=true then (if b j=true then 0 else b2 (g i j)) else 0)):=by
  rw[<- U8]
  refine u9 fun i hi=>?_
  rw[<- U8]
  cases a i with
  | true =>
   rw[if_pos rfl,<- dg i hi]
   refine u9 fun j _=>?_
   cases b j with
   | true=>simp
   | false=>simp
  | false =>
   rw[if_neg (by decide),u9 (g:=fun _=>0) fun j _=>by simp,O6]
 have e2:S n (fun i=>S n (fun j=>if a i=true then (if b j=true then b2 (g i j) else 0) else 0))<=sm n b d:=by
  rw[bE3]
  refine as2 fun j hj=>?_
  cases hb:b j with
  | true =>
   rw[if_pos rfl,<- dg j hj]
   refine as2 fun i _=>?_
   show (if a i=true then (if true=true then b2 (g i j) else 0) else 0)<=b2 (g j i)
   rw[if_pos rfl,hg.sym j i]
   cases a i with
   | true=>rw[if_pos rfl];exact K8 _
   | false=>rw[if_neg (by decide)];exact B1 _
  | false =>
   rw[if_neg (by decide)]
   have:S n (fun i=>if a i=true then (if false=true then b2 (g i j) else 0) else 0)=0:=by
    rw[u9 (g:=fun _=>0) fun i _=>by simp]
    exact O6 n
   rw[this]
   exact K8 _
 have e3:S n (fun i=>S n (fun j=>if a i=true then (if b j=true then 0 else b2 (g i j)) else 0))<=cnt n a*((n:Int) - 1 - cnt n b):=by
  have:cnt n a*((n:Int) - 1 - cnt n b)=S n (fun i=>((n:Int) - 1 - cnt n b)*b2 (a i)):=by rw[ao5,aO8];rfl
  rw[this]
  refine as2 fun i hi=>?_
  cases ha:a i with
  | true =>
   rw[U7,N7]
   have hbi:=hab i ha
   have t:S n (fun j=>if true=true then (if b j=true then 0 else b2 (g i j)) else 0)<=S n (fun j=>(1 - b2 (b j)) - (if j=i then 1 else 0)):=as2 fun j hj=>by
    show (if true=true then (if b j=true then 0 else b2 (g i j)) else 0)<=_
    rw[if_pos rfl]
    by_cases e:j=i
    ·subst e
     rw[hbi,if_neg (by decide),hg.irr,if_pos rfl];decide
    ·rw[if_neg e]
     cases b j with
     | true=>rw[if_pos rfl];decide
     | false=>rw[if_neg (by decide)];have:=aI5 (g i j);rw[P2];omega
   rw[S8,S8,ah2 _ hi,ae1,N7]at t
   unfold cnt
   omega
  | false =>
   rw[P2,ap3,u9 (g:=fun _=>0) fun j _=>by simp,O6]
   exact K8 _
 omega
end Grf
namespace Grf
def mnf (r x:Int):Int:=if r<x then r else x
theorem bL1 (r x:Int):mnf r x<=x:=by unfold mnf;split<;>omega
theorem bL0 (r x:Int):mnf r x<=r:=by unfold mnf;split<;>omega
theorem bz3 {r x y:Int}(h:x<=y):mnf r x<=mnf r y:=by unfold mnf;split<;>split<;>omega
def roomF (n:Nat)(d:Nat->Int)(A:Nat->Bool):Int:=cnt n A*(cnt n A - 1)+S n (fun i=>if A i=true then 0 else mnf (cnt n A) (d i)) - sm n A d
def Top (n:Nat)(d:Nat->Int)(A:Nat->Bool):Prop:=∀ i j,i<n->j<n->A i=true->A j=false->d j<=d i
theorem bu3 {A a:Nat->Bool}{φ:Int->Int}(hφ:∀ x y,x<=y->φ x<=φ y)(ht:Top n d A)(hc:cnt n a=cnt n A):sm n a (fun i=>φ (d i))<=sm n A (fun i=>φ (d i)):=by
 by_cases h0:cnt n A=0
 ·have za:∀ i,i<n->a i=false:=fun i hi=>by
   cases h:a i with
   | false=>rfl
   | true =>
    have:=ak1 (f:=fun i=>b2 (a i)) hi (fun i _=>B1 _)
    have e:b2 (a i)=1:=by rw[h];rfl
    have t:b2 (a i)<=cnt n a:=this
    omega
  have zA:∀ i,i<n->A i=false:=fun i hi=>by
   cases h:A i with
   | false=>rfl
   | true =>
    have:=ak1 (f:=fun i=>b2 (A i)) hi (fun i _=>B1 _)
    have e:b2 (A i)=1:=by rw[h];rfl
    have t:b2 (A i)<=cnt n A:=this
    omega
  rw[av7 za,av7 zA]
  exact K8 _
 ·obtain⟨m,hm,hAm,hmin⟩:=be0 (p:=fun i=>A i=true) (f:=d) (ax4 h0)
  have key:S n (fun i=>(if a i=true then φ (d i) else 0) - (if A i=true then φ (d i) else 0))<=S n (fun i=>φ (d m)*b2 (a i) - φ (d m)*b2 (A i)):=as2 fun i hi=>by
   cases ha:a i with
   | true =>
    cases hA:A i with
    | true=>rw[if_pos rfl];omega
    | false =>
     rw[if_pos rfl,if_neg (by decide),U7,P2,N7,ap3]
     have:=hφ _ _ (ht m i hm hi hAm hA)
     omega
   | false =>
    cases hA:A i with
    | true =>
     rw[if_pos rfl,if_neg (by decide),U7,P2,N7,ap3]
     have:=hφ _ _ (hmin i hi hA)
     omega
    | false=>rw[if_neg (by decide)];omega
  rw[S8,S8,ao5,ao5]at key
  have e:φ (d m)*S n (fun i=>b2 (a i))=φ (d m)*S n (fun i=>b2 (A i)):=by
   show φ (d m)*cnt n a=φ (d m)*cnt n A
   rw[hc]
  show S n (fun i=>if a i=true then φ (d i) else 0)<=S n (fun i=>if A i=true then φ (d i) else 0)
  omega
theorem bc0 (hd:∀ i,i<n->0<=d i)(h:∀ r:Nat,1<=r->r<=n->∃ A,cnt n A=r/\Top n d A/\0<=roomF n d A):ae5 n d:=by
 intro a b hab
 have k0:=ad6 n a
 have kr:=ax3 (n:=n) hab
 have kb:=ad6 n b
 by_cases hz:cnt n a=0
 ·have za:∀ i,i<n->a i=false:=fun i hi=>by
   cases h:a i with
   | false=>rfl
   | true =>
    have:=ak1 (f:=fun i=>b2 (a i)) hi (fun i _=>B1 _)
    have e:b2 (a i)=1:=by rw[h];rfl
    have t:b2 (a i)<=cnt n a:=this
    omega
  have:=aG1 (a:=b) hd
  rw[av7 za,hz,bG2]
  omega
 ·obtain⟨A,hc,ht,r1⟩:=h (cnt n a).toNat (by omega) (by omega)
  have hcA:cnt n A=cnt n a:=by omega
  have r2:=bu3 (φ:=fun x=>x+mnf (cnt n a) x) (fun x y hxy=>by have:=bz3 (r:=cnt n a) hxy;omega) ht hcA.symm
  have sp:∀ c:Nat->Bool,sm n c (fun i=>d i+mnf (cnt n a) (d i))=sm n c d+S n (fun i=>mnf (cnt n a) (d i)) - S n (fun i=>if c i=true then 0 else mnf (cnt n a) (d i)):=fun c=>by
   unfold sm
   rw[<- U8,<- S8]
   refine u9 fun i _=>?_
   show (if c i=true then d i+mnf (cnt n a) (d i) else 0)=(if c i=true then d i else 0)+mnf (cnt n a) (d i) - (if c i=true then 0 else mnf (cnt n a) (d i))
   cases c i with
   | true=>rw[if_pos rfl,if_pos rfl,if_pos rfl];omega
   | false=>rw[if_neg (by decide),if_neg (by decide),if_neg (by decide)];omega
  rw[sp a,sp A]at r2
  unfold roomF at r1
  rw[hcA]at r1
  have low:S n (fun i=>if a i=true then 0 else mnf (cnt n a) (d i))<=sm n b d+cnt n a*((n:Int) - cnt n a - cnt n b):=by
   have e:cnt n a*((n:Int) - cnt n a - cnt n b)=S n (fun i=>cnt n a*(1 - b2 (a i) - b2 (b i))):=by
    rw[ao5,S8,S8,ae1,N7];rfl
   rw[e]
   unfold sm
   rw[<- U8]
   refine as2 fun i hi=>?_
   cases ha:a i with
   | true =>
    have hb:=hab i ha
    rw[if_pos rfl,hb,if_neg (by decide),U7,P2]
    simp
   | false =>
    rw[if_neg (by decide),P2]
    cases b i with
    | true =>
     rw[if_pos rfl,U7]
     have:=bL1 (cnt n a) (d i)
     simp
     exact this
    | false =>
     rw[if_neg (by decide),P2]
     have:=bL0 (cnt n a) (d i)
     simp
     exact this
  have x:cnt n a*((n:Int) - 1 - cnt n b)=cnt n a*(cnt n a - 1)+cnt n a*((n:Int) - cnt n a - cnt n b):=by grind
  rw[x]
  omega
theorem ba6 (K:ae5 n d)(A:Nat->Bool):0<=roomF n d A:=by
 have k:=K A (fun i=>!A i && decide (d i<cnt n A)) (fun i hi=>by simp[hi])
 have e:S n (fun i=>if A i=true then 0 else mnf (cnt n A) (d i))=sm n (fun i=>!A i && decide (d i<cnt n A)) d+cnt n A*((n:Int) - cnt n A - cnt n (fun i=>!A i && decide (d i<cnt n A))):=by
  have e1:cnt n A*((n:Int) - cnt n A - cnt n (fun i=>!A i && decide (d i<cnt n A)))=S n (fun i=>cnt n A*(1 - b2 (A i) - b2 (!A i && decide (d i<cnt n A)))):=by
   rw[ao5,S8,S8,ae1,N7];rfl
  rw[e1]
  unfold sm
  rw[<- U8]
  refine u9 fun i hi=>?_
  show (if A i=true then 0 else mnf (cnt n A) (d i))=(if (!A i && decide (d i<cnt n A))=true then d i else 0)+cnt n A*(1 - b2 (A i) - b2 (!A i && decide (d i<cnt n A)))
  cases hA:A i with
  | true=>simp[b2]
  | false =>
   generalize cnt n A=r
   by_cases c:d i<r
   ·rw[decide_eq_true c]
    simp[b2,mnf]
    omega
   ·rw[decide_eq_false c]
    simp[b2,mnf]
    omega
 unfold roomF
 rw[e]
 have x:cnt n A*((n:Int) - 1 - cnt n (fun i=>!A i && decide (d i<cnt n A)))=cnt n A*(cnt n A - 1)+cnt n A*((n:Int) - cnt n A - cnt n (fun i=>!A i && decide (d i<cnt n A))):=by grind
 rw[x]at k
 omega
theorem aW8 (hg:Gph g):∀ n:Nat,∃ q,S n (deg n g)=2*q:=by
 intro n
 induction n with
 | zero=>exact⟨0,rfl⟩
 | succ n ih =>
  obtain⟨q,hq⟩:=ih
  refine⟨q+S n (fun i=>b2 (g i n)),?_⟩
  show S n (deg (n+1) g)+deg (n+1) g n=_
  have e1:S n (deg (n+1) g)=S n (deg n g)+S n (fun i=>b2 (g i n)):=by rw[<- U8];rfl
  have e2:deg (n+1) g n=S n (fun i=>b2 (g i n)):=by
   show S n (fun j=>b2 (g n j))+b2 (g n n)=_
   rw[hg.irr,P2,u9 (g:=fun i=>b2 (g i n)) fun i _=>by rw[hg.sym]]
   omega
  rw[e1,e2,hq]
  omega
end Grf
namespace Web
def mn (r x:Int):Int:=if r<x then r else x
theorem aJ8:∀ a b:List Int,(a++b).sum=a.sum+b.sum
 | [],b=>by simp
 | x::a,b=>by rw[aO2,u7,u7,aJ8 a b,Int.add_assoc]
theorem am5:∀ a:List Int,a.reverse.sum=a.sum
 | []=>rfl
 | x::a=>by rw[List.reverse_cons,aJ8,am5 a,u7,u7,ae8];omega
def up2 (ns:List Int):List Int:=PySem.W.sortI ns
theorem av6 (ns:List Int):(up2 ns).length=ns.length:=(PySem.W.sortI_perm ns).length_eq
theorem bk6 (hp:zs.Perm ns)(hs:zs.Pairwise (·≥·)):zs=(up2 ns).reverse:=by
 have h:zs.reverse=up2 ns:=PySem.W.eq_sortI ((Q7 zs).trans hp) (by rw[X9];exact hs)
 rw[<- h,List.reverse_reverse]
def part (m:Nat)(r:Int)(g:List Int):Int:=((g.take m).map (mn r)).sum - (g.drop m).sum
def as9 (ns:List Int)(r:Nat):Int:=(r:Int)*((r:Int) - 1)+part (ns.length - r) r (up2 ns)
theorem ba7 {r:Nat}(e:zs=(up2 ns).reverse):(r:Int)*((r:Int) - 1)+((zs.drop r).map (mn r)).sum - (zs.take r).sum=as9 ns r:=by
 unfold as9 part
 rw[e,ca9,cb0,cc1,am5,am5,av6]
 omega
end Web
namespace Web
inductive Wl where
 | below (p:Nat) | odd | wall (r:Nat) | free
 deriving DecidableEq
def AllP (ns:List Int):Prop:=∀ (j:Nat) (x:Int),ns[j]?=some x->0<=x
def S1 (ns:List Int):Wl->Prop
 | .below p=>(∃ x,ns[p]?=some x/\x<0)/\∀ (j:Nat) (x:Int),j<p->ns[j]?=some x->0<=x
 | .odd=>AllP ns/\ns.sum % 2=1
 | .wall r=>AllP ns/\¬ ns.sum % 2=1/\1<=r/\r<=ns.length/\as9 ns r<0/\∀ k,1<=k->k<r->0<=as9 ns k
 | .free=>AllP ns/\¬ ns.sum % 2=1/\∀ k,1<=k->k<=ns.length->0<=as9 ns k
end Web
namespace Web
open L2
def rng (n:Nat):List Int:=(L8 0 n).map fun k:Nat=>(k:Int)
theorem N3 {x:Int}:x∈rng n↔0<=x/\x<n:=by
 unfold rng
 constructor
 ·intro h
  obtain⟨k,hk,rfl⟩:=k8.mp h
  have:=ah7.mp hk
  omega
 ·intro h
  exact k8.mpr ⟨x.toNat,ah7.mpr ⟨by omega,by omega⟩,by omega⟩
theorem Y8 (n:Nat):(rng n).length=n:=by unfold rng;rw[a6,D9]
theorem P1 (n:Nat):(rng n).Nodup:=by
 unfold rng
 refine List.Pairwise.map _ (fun a b h=>?_) (List.nodup_range' (step:=1) (by decide))
 intro e
 exact h (by omega)
def rest (zs:List Int)(p:Int):List Int:=zs.filter fun x=>decide (x≠p)
theorem an0 {p x:Int}:x∈rest zs p↔x∈zs/\x≠p:=by unfold rest;rw[u4,decide_eq_true_iff]
theorem az6 {p:Int}(hp:zs.Perm (rng n))(h0:0<=p)(h1:p<n):(rest zs p).length=n - 1:=by
 have nd:zs.Nodup:=hp.nodup_iff.mpr (P1 n)
 have hm:p∈zs:=hp.mem_iff.mpr (N3.mpr ⟨h0,h1⟩)
 have e:rest zs p=zs.erase p:=by
  unfold rest
  rw[nd.erase_eq_filter]
  congr 1
  funext x
  by_cases h:x=p<;>simp[h]
 rw[e,bm5 hm,hp.length_eq,Y8]
def X5 (ns es:List Int)(i:Nat):Int:=if (i:Int)∈es then ns.getD i 0 - 1 else ns.getD i 0
def O2 (ns:List Int)(p:Nat)(es:List Int):List Int:=((n8 ns.length).filter fun i=>decide (i≠p)).map (X5 ns es)
open Grf (S b2 Gph deg cnt sm Top roomF)
theorem bm3 (f:Nat->Int):∀ n:Nat,S n f=((n8 n).map f).sum
 | 0=>rfl
 | n+1=>by
  rw[E4,i9,aJ8,<- bm3 f n]
  show S n f+f n=_+(f n+0)
  omega
theorem map_getD (φ:Int->Int)(xs:List Int):(n8 xs.length).map (fun i=>φ (xs.getD i 0))=xs.map φ:=by
 refine J9 fun i=>?_
 rw[q8,q8]
 rcases E3 i xs.length with h | h
 ·rw[N6 h,i6 h]
  show some (φ (xs.getD i 0))=some (φ xs[i])
  rw[c9,i6 h]
  rfl
 ·rw[n9 h,n9 (by rw[C1];exact h)]
  rfl
theorem bE6 (φ:Int->Int)(xs:List Int):S xs.length (fun i=>φ (xs.getD i 0))=(xs.map φ).sum:=by rw[bm3,map_getD]
theorem bE4 (xs:List Int):S xs.length (fun i=>xs.getD i 0)=xs.sum:=by
 have:=bE6 (fun x=>x) xs
 rw[aI8]at this
 exact this
theorem be3 {f:Nat->Int}:∀ {L:List Int},L.Nodup->(∀ z∈L,0<=z/\z<n)->S n (fun i=>if (i:Int)∈L then f i else 0)=(L.map fun z=>f z.toNat).sum
 | [],_,_=>by
  rw[Grf.u9 (g:=fun _=>0) fun i _=>by simp]
  exact Grf.O6 n
 | z::L,nd,h=>by
  obtain⟨h1,h2⟩:=C7.mp nd
  obtain⟨z0,z1⟩:=h z b9
  rw[i7,u7,<- be3 h2 fun y hy=>h y (b8 _ hy)]
  rw[Grf.Q6 (j:=z.toNat) (f:=fun i=>if (i:Int)∈z::L then f i else 0) (g:=fun i=>if (i:Int)∈L then f i else 0) (by omega) (fun i _ hi=>by
   show (if (i:Int)∈z::L then f i else 0)=if (i:Int)∈L then f i else 0
   by_cases e:(i:Int)∈L
   ·rw[if_pos e,if_pos (b8 _ e)]
   ·rw[if_neg e,if_neg (fun c=>by
     rcases d3.mp c with c | c
     ·exact hi (by omega)
     ·exact e c)])]
  show _+((if ((z.toNat:Nat):Int)∈z::L then f z.toNat else 0) - (if ((z.toNat:Nat):Int)∈L then f z.toNat else 0))=_
  have ez:((z.toNat:Nat):Int)=z:=by omega
  rw[ez,if_pos b9,if_neg h1]
  omega
theorem bI9 (ns:List Int):(rng ns.length).map (fun z=>ns.getD z.toNat 0)=ns:=by
 unfold rng
 rw[C2,<- bG3]
 have:=map_getD (fun x=>x) ns
 rw[aI8]at this
 exact this
theorem bb4 (hp:zs.Perm (rng ns.length))(hs:zs.Pairwise (ole ns)):zs.map (fun z=>ns.getD z.toNat 0)=(up2 ns).reverse:=by
 refine bk6 ?_ ?_
 ·have:=hp.map (fun z:Int=>ns.getD z.toNat 0)
  rw[bI9]at this
  exact this
 ·refine List.Pairwise.map _ (fun a b h=>?_) hs
  have:=Z2.mp h
  show ns.getD b.toNat 0<=ns.getD a.toNat 0
  omega
theorem aG7 (hp:zs.Perm (rng ns.length))(hs:zs.Pairwise (ole ns)){r:Nat}(hr:r<=ns.length) :
  cnt ns.length (fun i=>decide ((i:Int)∈zs.take r))=r/\Top ns.length (fun i=>ns.getD i 0) (fun i=>decide ((i:Int)∈zs.take r))/\roomF ns.length (fun i=>ns.getD i 0) (fun i=>decide ((i:Int)∈zs.take r))=as9 ns r:=by
 have nd:zs.Nodup:=hp.nodup_iff.mpr (P1 _)
 have hzl:zs.length=ns.length:=by rw[hp.length_eq,Y8]
 have hin:∀ z∈zs,0<=z/\z<(ns.length:Int):=fun z hz=>N3.mp (hp.mem_iff.mp hz)
 have ndA:(zs.take r).Nodup:=nd.sublist (F9 r zs)
 have ndB:(zs.drop r).Nodup:=nd.sublist (ah6 r zs)
 have inA:∀ z∈zs.take r,0<=z/\z<(ns.length:Int):=fun z hz=>hin z (A5 hz)
 have inB:∀ z∈zs.drop r,0<=z/\z<(ns.length:Int):=fun z hz=>hin z (R5 hz)
 have app:=nd
 rw[<- x9 r zs]at app
 have cross:=(ah8.mp app).2.2
 have mem_or:∀ i:Nat,i<ns.length->(i:Int)∈zs.take r\/(i:Int)∈zs.drop r:=fun i hi=>by
  have:(i:Int)∈zs:=hp.mem_iff.mpr (N3.mpr ⟨by omega,by omega⟩)
  rw[<- x9 r zs]at this
  exact k7.mp this
 have hc:cnt ns.length (fun i=>decide ((i:Int)∈zs.take r))=r:=by
  have:=be3 (n:=ns.length) (f:=fun _=>1) ndA inA
  have e:cnt ns.length (fun i=>decide ((i:Int)∈zs.take r))=S ns.length (fun i=>if (i:Int)∈zs.take r then 1 else 0):=Grf.u9 fun i _=>by
   by_cases c:(i:Int)∈zs.take r
   ·rw[if_pos c];simp[b2,c]
   ·rw[if_neg c];simp[b2,c]
  rw[e,this]
  have l:(zs.take r).length=r:=by rw[n6];omega
  have:∀ L:List Int,(L.map fun _=>(1:Int)).sum=L.length:=fun L=>by
   induction L with
   | nil=>rfl
   | cons a L ih=>rw[i7,u7,ih,a9];omega
  rw[this,l]
 refine⟨hc,fun i j hi hj h1 h2=>?_,?_⟩
 ·have a1:(i:Int)∈zs.take r:=of_decide_eq_true h1
  have a2:(j:Int)∈zs.drop r:=(mem_or j hj).resolve_left (of_decide_eq_false h2)
  have pw:=hs
  rw[<- x9 r zs]at pw
  have:=Z2.mp ((o7.mp pw).2.2 _ a1 _ a2)
  rw[j2,j2]at this
  show ns.getD j 0<=ns.getD i 0
  omega
 ·have of:=bb4 hp hs
  have rm:=ba7 (ns:=ns) (r:=r) of
  unfold roomF
  rw[hc,<- rm,<- bs6,<- bs7,C2]
  have s1:sm ns.length (fun i=>decide ((i:Int)∈zs.take r)) (fun i=>ns.getD i 0)=((zs.take r).map fun z=>ns.getD z.toNat 0).sum:=by
   rw[<- be3 (n:=ns.length) (f:=fun i=>ns.getD i 0) ndA inA]
   refine Grf.u9 fun i _=>?_
   show (if decide ((i:Int)∈zs.take r)=true then ns.getD i 0 else 0)=_
   by_cases c:(i:Int)∈zs.take r
   ·rw[if_pos c,decide_eq_true c,if_pos rfl]
   ·rw[if_neg c,decide_eq_false c,if_neg (by decide)]
  have s2:S ns.length (fun i=>if decide ((i:Int)∈zs.take r)=true then 0 else Grf.mnf r (ns.getD i 0))=((zs.drop r).map (mn r ∘ fun z=>ns.getD z.toNat 0)).sum:=by
   have:=be3 (n:=ns.length) (f:=fun i=>mn r (ns.getD i 0)) ndB inB
   show _=((zs.drop r).map fun z=>mn r (ns.getD z.toNat 0)).sum
   rw[<- this]
   refine Grf.u9 fun i hi=>?_
   by_cases c:(i:Int)∈zs.take r
   ·rw[decide_eq_true c,if_pos rfl,if_neg (fun z=>cross _ c _ z rfl)]
   ·rw[decide_eq_false c,if_neg (by decide),if_pos ((mem_or i hi).resolve_left c)]
    rfl
  rw[s1,s2]
theorem aq7 (ns:List Int):∃ zs:List Int,zs.Perm (rng ns.length)/\zs.Pairwise (ole ns):=by
 let le:Int->Int->Bool:=fun x y=>decide (ns.getD y.toNat 0<ns.getD x.toNat 0\/(ns.getD x.toNat 0=ns.getD y.toNat 0/\x<=y))
 refine⟨(rng ns.length).mergeSort le,List.mergeSort_perm _ _,?_⟩
 have:=List.pairwise_mergeSort (le:=le) (fun a b c h1 h2=>?_) (fun a b=>?_) (rng ns.length)
 ·exact this.imp fun h=>Z2.mpr (of_decide_eq_true h)
 ·have g1:=of_decide_eq_true h1
  have g2:=of_decide_eq_true h2
  exact decide_eq_true (by omega)
 ·rw[Bool.or_eq_true]
  by_cases h:ns.getD b.toNat 0<ns.getD a.toNat 0\/(ns.getD a.toNat 0=ns.getD b.toNat 0/\a<=b)
  ·exact .inl (decide_eq_true h)
  ·exact .inr (decide_eq_true (by omega))
def Gr (ns:List Int):Prop:=∃ g,Gph g/\∀ i,i<ns.length->deg ns.length g i=ns.getD i 0
theorem X6 (h:AllP ns)(hi:i<ns.length):0<=ns.getD i 0:=by
 rw[c9,i6 hi]
 exact h i _ (i6 hi)
theorem ao1 (h:S1 ns .free):Gr ns:=by
 obtain⟨h1,h2,h3⟩:=h
 obtain⟨zs,hp,hs⟩:=aq7 ns
 have hd:∀ i,i<ns.length->0<=ns.getD i 0:=fun i hi=>X6 h1 hi
 have K:=Grf.bc0 (d:=fun i=>ns.getD i 0) hd fun r r1 r2=>by
  obtain⟨a1,a2,a3⟩:=aG7 hp hs r2
  exact⟨_,a1,a2,by rw[a3];exact h3 r r1 r2⟩
 have s0:0<=ns.sum:=by rw[<- bE4];exact Grf.O7 hd
 obtain⟨g,hg,dg⟩:=Grf.aV1 (ns.sum / 2).toNat ns.length (fun i=>ns.getD i 0) hd K (by rw[bE4];omega)
 exact⟨g,hg,dg⟩
theorem al7 (h:Gr ns):AllP ns:=by
 obtain⟨g,hg,dg⟩:=h
 intro j x hx
 have hj:j<ns.length:=by
  rcases E3 j ns.length with h | h
  ·exact h
  ·rw[n9 h]at hx;cases hx
 have:=dg j hj
 rw[c9,hx]at this
 have e:deg ns.length g j=x:=this
 rw[<- e]
 exact Grf.O7 fun i _=>Grf.B1 _
theorem aw7 (h:Gr ns):S1 ns .free:=by
 have pos:=al7 h
 obtain⟨g,hg,dg⟩:=h
 refine⟨pos,?_,fun k k1 k2=>?_⟩
 ·obtain⟨q,hq⟩:=Grf.aW8 hg ns.length
  rw[Grf.u9 (g:=fun i=>ns.getD i 0) fun i hi=>dg i hi,bE4]at hq
  omega
 ·obtain⟨zs,hp,hs⟩:=aq7 ns
  obtain⟨_,_,a3⟩:=aG7 hp hs k2
  rw[<- a3]
  exact Grf.ba6 (Grf.aB3 hg dg) _
end Web
namespace Web
open L2
open Grf (S b2 Gph deg O1)
def gW (ks:List (List Int))(i j:Nat):Bool:=decide ([(i:Int),(j:Int)]∈ks) || decide ([(j:Int),(i:Int)]∈ks)
theorem bM4 {a b:Nat}:gW ([(a:Int),(b:Int)]::ks)=O1 (gW ks) a b true:=by
 funext i j
 unfold gW O1
 have e1:([(i:Int),(j:Int)]=[(a:Int),(b:Int)])↔(i=a/\j=b):=by
  constructor
  ·intro h;injection h with h1 h2;injection h2 with h2;omega
  ·rintro⟨rfl,rfl⟩;rfl
 have e2:([(j:Int),(i:Int)]=[(a:Int),(b:Int)])↔(i=b/\j=a):=by
  constructor
  ·intro h;injection h with h1 h2;injection h2 with h2;omega
  ·rintro⟨rfl,rfl⟩;rfl
 by_cases c:(i=a/\j=b)\/(i=b/\j=a)
 ·rw[if_pos c]
  rcases c with c | c
  ·simp[e1.mpr c]
  ·simp[e2.mpr c]
 ·rw[if_neg c]
  have c1:¬ [(i:Int),(j:Int)]=[(a:Int),(b:Int)]:=fun z=>c (.inl (e1.mp z))
  have c2:¬ [(j:Int),(i:Int)]=[(a:Int),(b:Int)]:=fun z=>c (.inr (e2.mp z))
  simp only[d3,c1,c2,false_or]
theorem bd5 (h:∀ k∈ks,Up n k):Gph (gW ks) where
 sym:=fun i j=>by unfold gW;rw[Bool.or_comm]
 irr:=fun i=>by
  have:¬ [(i:Int),(i:Int)]∈ks:=fun z=>by
   obtain⟨a,b,h1,h2,e⟩:=h _ z
   injection e with e1 e2
   injection e2 with e2
   omega
  unfold gW
  rw[decide_eq_false this];rfl
theorem aM4:∀ {ks:List (List Int)},ks.Nodup->(∀ k∈ks,Up n k)->∀ i,deg n (gW ks) i=(N2 ks i:Int)
 | [],_,_,i=>by
  have:deg n (gW []) i=S n (fun _=>0):=Grf.u9 fun j _=>by simp[gW,b2]
  rw[this,Grf.O6]
  rfl
 | k::ks,nd,h,i=>by
  obtain⟨n1,n2⟩:=C7.mp nd
  obtain⟨a,b,h1,h2,e⟩:=h k b9
  subst e
  have hk:∀ k∈ks,Up n k:=fun k hk=>h k (b8 _ hk)
  have hf:gW ks a b=false:=by
   have:¬ [(b:Int),(a:Int)]∈ks:=fun z=>by
    obtain⟨x,y,u1,u2,e⟩:=hk _ z
    injection e with e1 e2
    injection e2 with e2
    omega
   unfold gW
   rw[decide_eq_false n1,decide_eq_false this];rfl
  rw[bM4,Grf.O3 (bd5 hk) (by omega) (by omega) h2,aM4 n2 hk i,hf]
  have ec:N2 ([(a:Int),(b:Int)]::ks) i=N2 ks i+(if i=a\/i=b then 1 else 0):=by
   show av3 _ _=av3 _ _+_
   rw[ak8]
   congr 1
   have:decide ((i:Int)∈[(a:Int),(b:Int)])=decide (i=a\/i=b):=by
    congr 1
    rw[d3,j6]
    exact propext ⟨fun z=>by omega,fun z=>by omega⟩
   rw[this]
   by_cases c:i=a\/i=b
   ·rw[decide_eq_true c,if_pos rfl,if_pos c]
   ·rw[decide_eq_false c,if_neg (by decide),if_neg c]
  rw[ec]
  by_cases c:i=a\/i=b
  ·rw[if_pos c,if_pos c];simp[b2]
  ·rw[if_neg c,if_neg c];simp
theorem aQ3 (h:i<n):(tal n ks).getD i 0=(N2 ks i:Int):=by
 rw[c9,U3 h];rfl
theorem bt7 (nd:ks.Nodup)(h:∀ k∈ks,Up n k):Gr (tal n ks):=by
 refine⟨gW ks,bd5 h,fun i hi=>?_⟩
 rw[P0]at hi ⊢
 rw[aM4 nd h,aQ3 hi]
theorem aw4 (h1:i<j)(h2:j<n):[(i:Int),(j:Int)]∈C5 n:=by
 unfold C5
 refine cb9.mpr ⟨i,u6.mpr (by omega),?_⟩
 unfold W2
 exact k8.mpr ⟨j - (i+1),u6.mpr (by omega),by
  rw[show ((j - (i+1):Nat):Int)=(j:Int) - ((i:Int)+1) by omega]
  rw[show (i:Int)+1+((j:Int) - ((i:Int)+1))=(j:Int) by omega]⟩
end Web
namespace Web
open L2
open Grf (S b2 Gph deg cnt sm Top roomF)
def sk (p i:Nat):Nat:=if i<p then i else i+1
theorem bP9 (p i:Nat):sk p i≠p:=by unfold sk;split<;>omega
theorem bv8 (h:i<n - 1)(hp:p<n):sk p i<n:=by unfold sk;split<;>omega
theorem aN7 (f:Nat->Int):∀ {n:Nat},p<n->S n f=S (n - 1) (fun j=>f (sk p j))+f p
 | n+1,h=>by
  show S n f+f n=S n (fun j=>f (sk p j))+f p
  by_cases e:p=n
  ·subst e
   rw[Grf.u9 (g:=fun j=>f (sk p j)) fun i hi=>by show f i=f (sk p i);unfold sk;rw[if_pos hi]]
  ·have hp:p<n:=by omega
   rw[aN7 f hp]
   obtain⟨m,rfl⟩:∃ m,n=m+1:=⟨n - 1,by omega⟩
   have e1:sk p m=m+1:=by unfold sk;rw[if_neg (by omega)]
   show S m (fun j=>f (sk p j))+f p+f (m+1)=S m (fun j=>f (sk p j))+f (sk p m)+f p
   rw[e1]
   omega
theorem Z7:∀ {n:Nat},p<n->(n8 n).filter (fun i=>decide (i≠p))=(n8 (n - 1)).map (sk p)
 | n+1,h=>by
  rw[E4,B4,af4]
  by_cases e:p=n
  ·subst e
   have e1:[p].filter (fun i=>decide (i≠p))=[]:=by simp
   rw[e1,B3,av4.mpr fun a ha=>decide_eq_true (by have:=u6.mp ha;omega)]
   conv=>lhs;rw[<- List.map_id (n8 p)]
   exact o8 fun a ha=>by
    show a=sk p a
    unfold sk;rw[if_pos (u6.mp ha)]
  ·have hp:p<n:=by omega
   have e1:[n].filter (fun i=>decide (i≠p))=[n]:=by
    rw[cc2,if_pos (decide_eq_true (Ne.symm e))];rfl
   rw[e1,Z7 hp]
   obtain⟨m,rfl⟩:∃ m,n=m+1:=⟨n - 1,by omega⟩
   have e2:sk p m=m+1:=by unfold sk;rw[if_neg (by omega)]
   rw[af4,E4 (n:=m),i9,List.map_singleton,e2]
theorem aU2 {es:List Int}(h:p<ns.length):O2 ns p es=(n8 (ns.length - 1)).map fun i=>X5 ns es (sk p i):=by
 unfold O2
 rw[Z7 h,C2]
 rfl
theorem ab5 {es:List Int}(h:p<ns.length):(O2 ns p es).length=ns.length - 1:=by rw[aU2 h,a6,C1]
theorem ar0 {es:List Int}(h:p<ns.length)(hi:i<ns.length - 1):(O2 ns p es).getD i 0=X5 ns es (sk p i):=by
 rw[aU2 h,c9,q8,N6 hi]
 rfl
theorem aB8 (h:Gr ns)(hi:i<ns.length):ns.getD i 0<ns.length:=by
 obtain⟨g,hg,hd⟩:=h
 rw[<- hd i hi]
 unfold deg
 rw[aN7 (p:=i) _ hi,hg.irr]
 have h1:S (ns.length - 1) (fun j=>b2 (g i (sk i j)))<=S (ns.length - 1) (fun _=>1):=Grf.as2 fun j _=>Grf.aI5 _
 rw[Grf.ae1]at h1
 have:b2 false=0:=rfl
 omega
theorem bM3 {es:List Int} (h:Gr ns) (hp:p<ns.length) (nd:es.Nodup) (he:∀ z∈es,0<=z/\z<ns.length/\z≠p) (hl:(es.length:Int)=ns.getD p 0)
  (ht:∀ x∈es,∀ y:Nat,y<ns.length->(y:Int)∉es->y≠p->ns.getD y 0<=ns.getD x.toNat 0):Gr (O2 ns p es):=by
 obtain⟨g,hg,hd⟩:=h
 have hs:S ns.length (fun j=>b2 (decide ((j:Int)∈es)))=(es.length:Int):=by
  rw[Grf.u9 (g:=fun i=>if (i:Int)∈es then 1 else 0) fun i _=>by
   by_cases e:(i:Int)∈es
   ·rw[decide_eq_true e,if_pos e];rfl
   ·rw[decide_eq_false e,if_neg e];rfl]
  rw[be3 (f:=fun _=>1) nd fun z hz=>⟨(he z hz).1,(he z hz).2.1⟩]
  clear he hl ht nd
  induction es with
  | nil=>rfl
  | cons a es ih=>rw[i7,u7,ih,a9];omega
 have hNp:decide ((p:Int)∈es)=false:=decide_eq_false fun m=>(he _ m).2.2 rfl
 have hm:0<=S ns.length (fun j=>b2 (decide ((j:Int)∈es) && !g p j)):=Grf.O7 fun i _=>Grf.B1 _
 obtain⟨g',k1,k2,k3⟩:=Grf.ch7 (N:=fun j=>decide ((j:Int)∈es)) hp hNp (S ns.length (fun j=>b2 (decide ((j:Int)∈es) && !g p j))).toNat g hg (by rw[hs,hl,hd p hp])
  (fun x y hx hy hNx hNy hyp => by
   rw[hd x hx,hd y hy]
   have:=ht x (of_decide_eq_true hNx) y hy (of_decide_eq_false hNy) hyp
   rw[j2]at this
   exact this) (by omega)
 refine⟨fun i j=>g' (sk p i) (sk p j),⟨fun i j=>k1.sym _ _,fun i=>k1.irr _⟩,fun i hi=>?_⟩
 rw[ab5 hp]at hi ⊢
 rw[ar0 hp hi]
 have hsk:=bv8 (p:=p) hi hp
 have e1:=k2 _ hsk
 rw[hd _ hsk]at e1
 have e2:deg ns.length g' (sk p i)=S (ns.length - 1) (fun j=>b2 (g' (sk p i) (sk p j)))+b2 (g' (sk p i) p):=aN7 (p:=p) _ hp
 rw[e2,k1.sym (sk p i) p,k3 _ hsk]at e1
 show S (ns.length - 1) (fun j=>b2 (g' (sk p i) (sk p j)))=_
 generalize S (ns.length - 1) (fun j=>b2 (g' (sk p i) (sk p j)))=q at e1
 unfold X5
 by_cases e:((sk p i:Nat):Int)∈es
 ·rw[decide_eq_true e]at e1
  rw[if_pos e]
  have:b2 true=1:=rfl
  omega
 ·rw[decide_eq_false e]at e1
  rw[if_neg e]
  have:b2 false=0:=rfl
  omega
theorem bB4 (h:Gr ns)(hp:p<ns.length)(hz:zs.Perm (rng ns.length))(hs:zs.Pairwise (ole ns)):Gr (O2 ns p ((rest zs p).take (ns.getD p 0).toNat)):=by
 have nz:(rest zs p).Nodup:=(hz.nodup_iff.mpr (P1 ns.length)).filter _
 have srt:(rest zs p).Pairwise (ole ns):=hs.filter _
 have h1:=aB8 h hp
 have h0:=X6 (al7 h) hp
 have hl:=az6 hz (p:=p) (by omega) (by omega)
 refine bM3 h hp (nz.sublist (F9 _ _)) (fun z m=>?_) ?_ (fun x hx y hy hny hyp=>?_)
 ·obtain⟨m1,m2⟩:=an0.mp (A5 m)
  obtain⟨c0,c1⟩:=N3.mp (hz.mem_iff.mp m1)
  exact⟨c0,c1,m2⟩
 ·rw[n6]
  omega
 ·have hyr:(y:Int)∈rest zs p:=an0.mpr ⟨hz.mem_iff.mpr (N3.mpr ⟨by omega,by omega⟩),by omega⟩
  have e:=x9 (ns.getD p 0).toNat (rest zs p)
  rw[<- e]at hyr srt
  rcases k7.mp hyr with m | m
  ·exact absurd m hny
  ·have:=(o7.mp srt).2.2 x hx y m
   rcases Z2.mp this with t | t
   ·rw[j2]at t;omega
   ·rw[j2]at t;omega
end Web
namespace Grf
theorem bc8 {v q:Nat}{N:Nat->Bool}(hv:v<n)(hNv:N v=false):∀ (m:Nat) (g:Nat->Nat->Bool),Gph g->S n (fun j=>b2 (N j))=deg n g v->N q=g v q ->
  (∀ x y,x<n->y<n->N x=true->N y=false->y≠v->x≠q->y≠q->deg n g y<=deg n g x)->S n (fun j=>b2 (N j && !g v j))=(m:Int) ->
  ∃ g',Gph g'/\(∀ i,i<n->deg n g' i=deg n g i)/\∀ j,j<n->g' v j=N j:=by
 intro m
 induction m with
 | zero =>
  intro g h hs _ hd hm
  refine⟨g,h,fun _ _=>rfl,fun j hj=>?_⟩
  have all:∀ j,j<n->N j=true->g v j=true:=fun j hj hN=>by
   have:=ak1 (f:=fun j=>b2 (N j && !g v j)) hj (fun i _=>B1 _)
   rw[hm]at this
   cases hg:g v j with
   | true=>rfl
   | false =>
    have e:b2 (N j && !g v j)=1:=by rw[hN,hg];rfl
    have t:b2 (N j && !g v j)<=0:=this
    omega
  have dif:S n (fun j=>b2 (g v j) - b2 (N j))=0:=by rw[S8];unfold deg at hs;omega
  have pos:∀ i,i<n->0<=b2 (g v i) - b2 (N i):=fun i hi=>by
   cases hN:N i with
   | true=>rw[all i hi hN];decide
   | false=>have:=B1 (g v i);rw[P2];omega
  have:=ak1 (f:=fun j=>b2 (g v j) - b2 (N j)) hj pos
  rw[dif]at this
  have p:=pos j hj
  cases hN:N j with
  | true=>exact all j hj hN
  | false =>
   cases hg:g v j with
   | false=>rfl
   | true =>
    have t:b2 (g v j) - b2 (N j)<=0:=this
    rw[hN,hg,U7,P2]at t
    omega
 | succ m ih =>
  intro g h hs hq hd hm
  obtain⟨x,hx,hlt⟩:∃ x,x<n/\(fun _=>(0:Int)) x<b2 (N x && !g v x):=bE5 (f:=fun _=>0) (g:=fun j=>b2 (N j && !g v j)) (by rw[O6,hm];omega)
  have hNx:N x=true/\g v x=false:=by
   cases h1:N x<;>cases h2:g v x<;>rw[h1,h2]at hlt<;>simp_all [b2]
  obtain⟨y,hy,hlt2⟩:∃ y,y<n/\b2 (N y)<b2 (g v y):=by
   by_cases hc:∃ y,y<n/\b2 (N y)<b2 (g v y)
   ·exact hc
   ·have pos:∀ i,i<n->0<=b2 (N i) - b2 (g v i):=fun i hi=>by
     have:¬ b2 (N i)<b2 (g v i):=fun z=>hc ⟨i,hi,z⟩
     omega
    have t:=ak1 (f:=fun j=>b2 (N j) - b2 (g v j)) hx pos
    have e:S n (fun j=>b2 (N j) - b2 (g v j))=0:=by rw[S8];unfold deg at hs;omega
    rw[e,show b2 (N x) - b2 (g v x)=1 by rw[hNx.1,hNx.2];rfl]at t
    omega
  have hNy:N y=false/\g v y=true:=by
   cases h1:N y<;>cases h2:g v y<;>rw[h1,h2]at hlt2<;>simp_all [b2]
  have xv:x≠v:=fun e=>by rw[e,hNv]at hNx;exact absurd hNx.1 (by decide)
  have yv:y≠v:=fun e=>by rw[e,h.irr]at hNy;exact absurd hNy.2 (by decide)
  have xy:x≠y:=fun e=>by rw[e,hNy.1]at hNx;exact absurd hNx.1 (by decide)
  have xq:x≠q:=fun e=>by rw[e,hq]at hNx;rw[hNx.1]at hNx;exact absurd hNx.2 (by decide)
  have yq:y≠q:=fun e=>by rw[e,hq]at hNy;rw[hNy.1]at hNy;exact absurd hNy.2 (by decide)
  obtain⟨z,hz,zx,zy,zv,h1,h2⟩:=find3 h hx hy hv xy xv yv (hd x y hx hy hNx.1 hNy.1 yv xq yq) (by rw[h.sym];exact hNy.2) (by rw[h.sym];exact hNx.2)
  have ex:Ex g v y z x:=⟨Ne.symm yv,Ne.symm zv,Ne.symm xv,Ne.symm zy,Ne.symm xy,zx,hNy.2,by rw[h.sym];exact h1,hNx.2,by rw[h.sym];exact h2⟩
  have dg:=aW4 h ex hv hy hz hx
  obtain⟨g',k1,k2,k3⟩:=ih (al8 g v y z x) (aW3 h ex) (by rw[dg];exact hs) (by rw[ag7 ex,if_neg (Ne.symm yq),if_neg (Ne.symm xq)];exact hq) (fun a b ha hb n1 n2 n3 n4 n5=>by rw[dg,dg];exact hd a b ha hb n1 n2 n3 n4 n5) (by
   have:=Q6 (f:=fun j=>b2 (N j && !al8 g v y z x v j)) (g:=fun j=>b2 (N j && !g v j)) hx (fun j _ hj=>by
    show b2 (N j && !al8 g v y z x v j)=_
    rw[ag7 ex]
    by_cases e:j=y
    ·rw[if_pos e,e,hNy.1];rfl
    ·rw[if_neg e,if_neg hj])
   rw[this,hm]
   have e1:al8 g v y z x v x=true:=by rw[ag7 ex,if_neg xy,if_pos rfl]
   show _+(b2 (N x && !al8 g v y z x v x) - b2 (N x && !g v x))=_
   rw[e1,hNx.1,hNx.2]
   show ((m+1:Nat):Int)+(0 - 1)=_
   omega)
  exact⟨g',k1,fun i hi=>by rw[k2 i hi,dg],k3⟩
theorem aK1 {t:Nat}{e:Nat->Int}{c:Nat->Bool}{u:Int}(ht:t<n)(h:∀ i,i<n->e i=d i+(if i=t then u else 0)):sm n c e=sm n c d+u*b2 (c t):=by
 unfold sm
 rw[Q6 (f:=fun i=>if c i=true then e i else 0) (g:=fun i=>if c i=true then d i else 0) ht fun i hi hne=>by
  show (if c i=true then e i else 0)=if c i=true then d i else 0
  rw[h i hi,if_neg hne,aO9]]
 show S n (fun i=>if c i=true then d i else 0)+((if c t=true then e t else 0) - (if c t=true then d t else 0))=_
 rw[h t ht,if_pos rfl]
 cases c t with
 | true=>rw[if_pos rfl,if_pos rfl,U7];omega
 | false=>rw[if_neg (by decide),if_neg (by decide),P2];omega
theorem bL7 {x y:Nat}{g h r:Nat->Int}(Kg:ae5 n g)(Kh:ae5 n h)(hj:j<n)(hx:x<n)(hy:y<n)(hxy:x≠y)(hjy:j≠y)(hjx:j≠x)
  (hr1:∀ i,i<n->r i=g i+(if i=j then 1 else 0)+(if i=x then -1 else 0))(hr2:∀ i,i<n->r i=h i+(if i=j then -1 else 0)+(if i=y then 1 else 0))
  (hd:h y+1<=g x)(ev:∃ q,S n r=2*q):ae5 n r:=by
 intro a b hab
 have sg:∀ c,sm n c r=sm n c g+b2 (c j) - b2 (c x):=fun c=>by
  have e1:=aK1 (c:=c) (d:=g) (e:=fun i=>g i+(if i=j then 1 else 0)) (u:=1) hj fun i _=>rfl
  have e2:=aK1 (c:=c) (d:=fun i=>g i+(if i=j then 1 else 0)) (e:=r) (u:=-1) hx hr1
  omega
 have sh:∀ c,sm n c r=sm n c h - b2 (c j)+b2 (c y):=fun c=>by
  have e1:=aK1 (c:=c) (d:=h) (e:=fun i=>h i+(if i=j then -1 else 0)) (u:=-1) hj fun i _=>rfl
  have e2:=aK1 (c:=c) (d:=fun i=>h i+(if i=j then -1 else 0)) (e:=r) (u:=1) hy hr2
  omega
 apply Classical.byContradiction
 intro hn
 have k1:=Kg a b hab
 have k2:=Kh a b hab
 have ga:=sg a
 have gb:=sg b
 have ha:=sh a
 have hb:=sh b
 have B:∀ c:Bool,0<=b2 c/\b2 c<=1:=fun c=>⟨B1 c,aI5 c⟩
 have b1:=B (a j);have b2':=B (a x);have b3:=B (a y);have b4:=B (b j);have b5:=B (b x);have b6:=B (b y)
 generalize hP:cnt n a*((n:Int) - 1 - cnt n b)=PP at *
 have tr:∀ c:Bool,b2 c=1->c=true:=fun c h=>by cases c with | true=>rfl | false=>exact absurd h (by decide)
 have hbx:b x=true:=tr _ (by omega)
 have hay:a y=true:=tr _ (by omega)
 have hax:a x=false:=by
  cases e:a x with
  | false=>rfl
  | true=>rw[hab x e]at hbx;exact absurd hbx (by decide)
 have hby:b y=false:=hab y hay
 have Fg:sm n a g - sm n b g=PP:=by omega
 have Fh:sm n a h - sm n b h=PP:=by omega
 have Fr:sm n a r - sm n b r=PP+1:=by omega
 have kt:=ax3 (n:=n) hab
 generalize hp:cnt n a=p at *
 generalize hl:cnt n b=l at *
 have m1:2*g x<=p+((n:Int) - 1 - l)+1:=by
  have dj:∀ i,put a x true i=true->put b x false i=false:=fun i hi=>by
   by_cases e:i=x
   ·rw[e,ac6]
   ·rw[Q4 e]at hi;rw[Q4 e];exact hab i hi
  have:=Kg (put a x true) (put b x false) dj
  rw[V3 hx,V3 hx,Q3 hx,Q3 hx,hax,hbx,hp,hl]at this
  simp only[if_true,U7,P2,l6,if_false]at this
  have e:(p+(1 - 0))*((n:Int) - 1 - (l+(0 - 1)))=p*((n:Int) - 1 - l)+p+((n:Int) - 1 - l)+1:=by grind
  rw[e]at this
  omega
 have m2:p+((n:Int) - 1 - l) - 1<=2*h y:=by
  have dj:∀ i,put a y false i=true->put b y true i=false:=fun i hi=>by
   by_cases e:i=y
   ·rw[e,ac6]at hi;cases hi
   ·rw[Q4 e]at hi;rw[Q4 e];exact hab i hi
  have:=Kh (put a y false) (put b y true) dj
  rw[V3 hy,V3 hy,Q3 hy,Q3 hy,hay,hby,hp,hl]at this
  simp only[if_true,U7,P2,l6,if_false]at this
  have e:(p+(0 - 1))*((n:Int) - 1 - (l+(1 - 0)))=p*((n:Int) - 1 - l) - p - ((n:Int) - 1 - l)+1:=by grind
  rw[e]at this
  omega
 have m3:(n:Int) - 1 - l<=h y:=by
  have dj:∀ i,put a y false i=true->b i=false:=fun i hi=>by
   by_cases e:i=y
   ·rw[e,ac6]at hi;cases hi
   ·rw[Q4 e]at hi;exact hab i hi
  have:=Kh (put a y false) b dj
  rw[V3 hy,Q3 hy,hay,hp,hl]at this
  simp only[if_true,U7,P2,l6,if_false]at this
  have e:(p+(0 - 1))*((n:Int) - 1 - l)=p*((n:Int) - 1 - l) - ((n:Int) - 1 - l):=by grind
  rw[e]at this
  omega
 have hpl:p+l=n:=by omega
 have hcv:=cover (n:=n) (a:=a) (b:=b) (d:=r) hab (by rw[hp,hl];exact hpl)
 obtain⟨q,hq⟩:=ev
 obtain⟨q2,hq2⟩:=bk7 p
 have e3:p*((n:Int) - 1 - l)=p*(p - 1):=by rw[show (n:Int) - 1 - l=p - 1 by omega]
 rw[e3]at hP
 omega
end Grf
namespace Web
open L2
open Grf (S b2 Gph deg cnt sm ae5)
def iso (g:Nat->Nat->Bool)(p:Nat):Nat->Nat->Bool:=fun u v=>g u v && decide (u≠p) && decide (v≠p)
theorem bj6 (h:Gph g)(p:Nat):Gph (iso g p):=⟨fun i j=>by unfold iso;rw[h.sym i j];cases g j i<;>simp[Bool.and_comm],fun i=>by unfold iso;rw[h.irr];rfl⟩
theorem bj7 (h:Gph g)(hp:p<n)(v:Nat):deg n (iso g p) v=if v=p then 0 else deg n g v - b2 (g p v):=by
 unfold deg
 by_cases e:v=p
 ·rw[if_pos e]
  refine Eq.trans (Grf.u9 (g:=fun _=>0) fun j _=>?_) (Grf.O6 n)
  show b2 (g v j && decide (v≠p) && decide (j≠p))=0
  rw[decide_eq_false (show ¬ v≠p from fun z=>z e),Bool.and_false];rfl
 ·rw[if_neg e,Grf.Q6 (f:=fun j=>b2 (iso g p v j)) (g:=fun j=>b2 (g v j)) hp fun j _ hj=>by
   show b2 (g v j && decide (v≠p) && decide (j≠p))=b2 (g v j)
   rw[decide_eq_true e,decide_eq_true hj,Bool.and_true,Bool.and_true]]
  show _+(b2 (g v p && decide (v≠p) && decide (p≠p)) - b2 (g v p))=_
  rw[decide_eq_false (show ¬ p≠p from fun z=>z rfl),Bool.and_false,h.sym v p]
  have:b2 false=0:=rfl
  omega
theorem bR2 {es:List Int}(nd:es.Nodup)(he:∀ z∈es,0<=z/\z<n):S n (fun j=>b2 (decide ((j:Int)∈es)))=(es.length:Int):=by
 rw[Grf.u9 (g:=fun i=>if (i:Int)∈es then 1 else 0) fun i _=>by
  by_cases e:(i:Int)∈es
  ·rw[decide_eq_true e,if_pos e];rfl
  ·rw[decide_eq_false e,if_neg e];rfl]
 rw[be3 (f:=fun _=>1) nd he]
 clear he nd
 induction es with
 | nil=>rfl
 | cons a es ih=>rw[i7,u7,ih,a9];omega
theorem aV3 (hi:i<ns.length) (hj:j<ns.length) (hij:i≠j) {h:Nat->Nat->Bool} (hg:Gph g) (dg:∀ v,v<ns.length->deg ns.length g v=ns.getD v 0)
  (hh:Gph h) (dh:∀ v,v<ns.length->deg ns.length h v=ns.getD v 0+(if v=i then 1 else 0)+(if v=j then 1 else 0)) :
  ∃ f,Gph f/\(∀ v,v<ns.length->deg ns.length f v=ns.getD v 0)/\f i j=false:=by
 cases hgij:g i j with
 | false=>exact⟨g,hg,dg,hgij⟩
 | true =>
 cases hhij:h i j with
 | true =>
  refine⟨Grf.O1 h i j false,Grf.J2 hh hij,fun v hv=>?_,Grf.am8⟩
  rw[Grf.O3 hh hij hi hj,dh v hv,hhij]
  have e1:b2 false=0:=rfl
  have e2:b2 true=1:=rfl
  by_cases c1:v=i
  ·rw[if_pos (show v=i\/v=j from .inl c1),if_pos c1,if_neg (show ¬ v=j by omega)];omega
  ·by_cases c2:v=j
   ·rw[if_pos (show v=i\/v=j from .inr c2),if_neg c1,if_pos c2];omega
   ·rw[if_neg (show ¬ (v=i\/v=j) from fun z=>z.elim c1 c2),if_neg c1,if_neg c2];omega
 | false =>
 generalize hn:ns.length=n at *
 obtain⟨zs,hz,hs⟩:=aq7 ns
 rw[hn]at hz
 have hLm:∀ z:Int,z∈zs.filter (fun z=>decide (z≠(i:Int)/\z≠(j:Int)))↔(0<=z/\z<n)/\z≠i/\z≠j:=fun z=>by
  rw[u4,hz.mem_iff,N3]
  simp
 have hLn:(zs.filter (fun z=>decide (z≠(i:Int)/\z≠(j:Int)))).Nodup:=(hz.nodup_iff.mpr (P1 n)).filter _
 have hLs:(zs.filter (fun z=>decide (z≠(i:Int)/\z≠(j:Int)))).Pairwise (ole ns):=hs.filter _
 generalize zs.filter (fun z=>decide (z≠(i:Int)/\z≠(j:Int)))=L at hLm hLn hLs
 have B:∀ c:Bool,0<=b2 c/\b2 c<=1:=fun c=>⟨Grf.B1 c,Grf.aI5 c⟩
 have d1:1<=ns.getD i 0:=by
  rw[<- dg i hi]
  have:=Grf.ak1 (f:=fun v=>b2 (g i v)) hj fun v _=>Grf.B1 _
  rw[hgij]at this
  exact this
 obtain⟨k,hk⟩:∃ k:Nat,ns.getD i 0=(k:Int)+1:=⟨(ns.getD i 0 - 1).toNat,by omega⟩
 have hLl:k+2<=L.length:=by
  have a1:deg n h i<=S n (fun v=>b2 (decide ((v:Int)∈L))):=Grf.as2 fun v hv=>by
   cases e:h i v with
   | false=>exact(B _).1
   | true =>
    rw[decide_eq_true ((hLm v).mpr ⟨⟨by omega,by omega⟩,fun z=>?_,fun z=>?_⟩)]
    ·exact K8 _
    ·rw[show v=i by omega,hh.irr]at e;cases e
    ·rw[show v=j by omega,hhij]at e;cases e
  rw[bR2 hLn fun z hz=>((hLm z).mp hz).1,dh i hi,if_pos rfl,if_neg hij,hk]at a1
  omega
 have hx':k<L.length:=by omega
 have hy':k+1<L.length:=by omega
 have mL:∀ (a:Nat) (ha:a<L.length),∃ v:Nat,L[a]=(v:Int)/\v<n/\v≠i/\v≠j:=fun a ha=>by
  obtain⟨⟨c1,c2⟩,c3,c4⟩:=(hLm _).mp (aO6 ha)
  exact⟨L[a].toNat,by omega,by omega,by omega,by omega⟩
 obtain⟨x,ex,hx,hxi,hxj⟩:=mL k hx'
 obtain⟨y,ey,hy,hyi,hyj⟩:=mL (k+1) hy'
 have inL:∀ v,v<n->v≠i->v≠j->(v:Int)∈L:=fun v h1 h2 h3=>(hLm v).mpr ⟨⟨by omega,by omega⟩,by omega,by omega⟩
 have tk1:∀ v:Nat,((v:Int)∈L.take (k+1))↔((v:Int)∈L.take k\/v=x):=fun v=>by
  rw[o6,i6 hx']
  show (v:Int)∈L.take k++[L[k]]↔_
  rw[k7,j6,ex]
  exact or_congr Iff.rfl ⟨fun z=>by omega,fun z=>by omega⟩
 have tk2:∀ v:Nat,((v:Int)∈L.take (k+2))↔((v:Int)∈L.take (k+1)\/v=y):=fun v=>by
  rw[o6,i6 hy']
  show (v:Int)∈L.take (k+1)++[L[k+1]]↔_
  rw[k7,j6,ey]
  exact or_congr Iff.rfl ⟨fun z=>by omega,fun z=>by omega⟩
 have notk:∀ (a b:Nat) (hb:b<L.length),a<=b->L[b]∉L.take a:=fun a b hb hab hm=>by
  obtain⟨c,hc,e⟩:=List.mem_iff_getElem.mp hm
  rw[n6]at hc
  rw[List.getElem_take]at e
  have e2:L[c]?=L[b]?:=by rw[i6 (show c<L.length by omega),i6 hb,e]
  have e3:c=b:=(cb1 (show c<L.length by omega) hLn).mp e2
  have:c<a:=by omega
  omega
 have x1:(x:Int)∉L.take k:=by rw[<- ex];exact notk k k hx' (c5 _)
 have y1:(y:Int)∉L.take (k+1):=by rw[<- ey];exact notk (k+1) (k+1) hy' (c5 _)
 have nij:∀ a:Nat,(i:Int)∉L.take a/\(j:Int)∉L.take a:=fun a=>⟨fun m=>((hLm _).mp (A5 m)).2.1 rfl,fun m=>((hLm _).mp (A5 m)).2.2 rfl⟩
 have topL:∀ (a:Nat) (u v:Nat),(u:Int)∈L.take a->v<n->v≠i->v≠j->(v:Int)∉L.take a->ns.getD v 0<=ns.getD u 0:=fun a u v hu hv h1 h2 hnv=>by
  have e:=x9 a L
  have hvL:=inL v hv h1 h2
  rw[<- e]at hvL hLs
  rcases k7.mp hvL with m | m
  ·exact absurd m hnv
  ·have:=(o7.mp hLs).2.2 _ hu _ m
   rcases Z2.mp this with t | t<;>rw[j2,j2]at t<;>omega
 have lenT:∀ a:Nat,a<=L.length->S n (fun v=>b2 (decide ((v:Int)∈L.take a)))=(a:Int):=fun a ha=>by
  rw[bR2 (hLn.sublist (F9 _ _)) fun z hz=>((hLm z).mp (A5 hz)).1,n6,aY5 ha]
 obtain⟨h1,hh1,dh1,rh1⟩:=Grf.bc8 (N:=fun v=>decide ((v:Int)∈L.take (k+2))) (q:=j) hi (decide_eq_false (nij _).1) (S n (fun v=>b2 (decide ((v:Int)∈L.take (k+2)) && !h i v))).toNat h hh (by rw[lenT _ hLl,dh i hi,if_pos rfl,if_neg hij,hk];omega) (by rw[hhij];exact decide_eq_false (nij _).2)
  (fun u v hu hv n1 n2 n3 n4 n5 => by
   have ui:u≠i:=fun z=>by rw[z]at n1;exact(nij _).1 (of_decide_eq_true n1)
   rw[dh u hu,dh v hv,if_neg ui,if_neg n4,if_neg n3,if_neg n5]
   have:=topL (k+2) u v (of_decide_eq_true n1) hv n3 n5 (of_decide_eq_false n2)
   omega) (by rw[T6 (Grf.O7 fun v _=>Grf.B1 _)])
 obtain⟨g1,hg1,dg1,rg1⟩:=Grf.bc8 (N:=fun v=>decide ((v:Int)∈L.take k) || decide (v=j)) (q:=j) hi (by rw[decide_eq_false (nij _).1,decide_eq_false hij];rfl) (S n (fun v=>b2 ((decide ((v:Int)∈L.take k) || decide (v=j)) && !g i v))).toNat g hg (by
   rw[Grf.Q6 (f:=fun v=>b2 (decide ((v:Int)∈L.take k) || decide (v=j))) (g:=fun v=>b2 (decide ((v:Int)∈L.take k))) hj fun v _ hv=>by
    show b2 (decide ((v:Int)∈L.take k) || decide (v=j))=_
    rw[decide_eq_false hv,aa4]]
   rw[lenT k (by omega),dg i hi,hk,decide_eq_false (nij k).2,decide_eq_true rfl]
   rfl) (by rw[hgij,decide_eq_true rfl,Bool.or_true])
  (fun u v hu hv n1 n2 n3 n4 n5 => by
   rw[decide_eq_false n4,aa4]at n1
   rw[decide_eq_false n5,aa4]at n2
   rw[dg u hu,dg v hv]
   exact topL k u v (of_decide_eq_true n1) hv n3 n5 (of_decide_eq_false n2)) (by rw[T6 (Grf.O7 fun v _=>Grf.B1 _)])
 have ig:=bj6 hg1 i
 have ih:=bj6 hh1 i
 have kg:=Grf.aB3 (d:=deg n (iso g1 i)) ig fun _ _=>rfl
 have kh:=Grf.aB3 (d:=deg n (iso h1 i)) ih fun _ _=>rfl
 have vg:∀ v,v<n->deg n (iso g1 i) v=if v=i then 0 else ns.getD v 0 - b2 (decide ((v:Int)∈L.take k) || decide (v=j)):=fun v hv=>by
  rw[bj7 hg1 hi,dg1 v hv,dg v hv,rg1 v hv]
 have vh:∀ v,v<n->deg n (iso h1 i) v=if v=i then 0 else ns.getD v 0+(if v=j then 1 else 0) - b2 (decide ((v:Int)∈L.take (k+2))):=fun v hv=>by
  rw[bj7 hh1 hi,dh1 v hv,dh v hv,rh1 v hv]
  by_cases e:v=i
  ·rw[if_pos e,if_pos e]
  ·rw[if_neg e,if_neg e,if_neg e,aO9]
 have T1:b2 true=1:=rfl
 have T0:b2 false=0:=rfl
 have xy:x≠y:=fun z=>y1 ((tk1 y).mpr (.inr z.symm))
 have hr1:∀ v,v<n->(if v=i then 0 else ns.getD v 0 - b2 (decide ((v:Int)∈L.take (k+1))))=deg n (iso g1 i) v+(if v=j then 1 else 0)+(if v=x then -1 else 0):=fun v hv=>by
  rw[vg v hv]
  by_cases e:v=i
  ·rw[if_pos e,if_pos e,if_neg (by omega),if_neg (by omega)];rfl
  ·rw[if_neg e,if_neg e]
   by_cases e2:v=j
   ·rw[if_pos e2,if_neg (by omega),e2,decide_eq_false (nij _).2,decide_eq_false (nij k).2,decide_eq_true rfl,aD7];omega
   ·rw[if_neg e2,decide_eq_false e2,aa4]
    by_cases e3:v=x
    ·rw[if_pos e3,e3,decide_eq_true ((tk1 x).mpr (.inr rfl)),decide_eq_false x1];omega
    ·rw[if_neg e3]
     have:decide ((v:Int)∈L.take (k+1))=decide ((v:Int)∈L.take k):=decide_eq_decide.mpr ((tk1 v).trans ⟨fun z=>z.resolve_right e3,.inl⟩)
     rw[this];omega
 have hr2:∀ v,v<n->(if v=i then 0 else ns.getD v 0 - b2 (decide ((v:Int)∈L.take (k+1))))=deg n (iso h1 i) v+(if v=j then -1 else 0)+(if v=y then 1 else 0):=fun v hv=>by
  rw[vh v hv]
  by_cases e:v=i
  ·rw[if_pos e,if_pos e,if_neg (by omega),if_neg (by omega)];rfl
  ·rw[if_neg e,if_neg e]
   by_cases e2:v=j
   ·rw[if_pos e2,if_pos e2,if_neg (by omega),e2,decide_eq_false (nij _).2,decide_eq_false (nij (k+2)).2];omega
   ·rw[if_neg e2,if_neg e2]
    by_cases e3:v=y
    ·rw[if_pos e3,e3,decide_eq_true ((tk2 y).mpr (.inr rfl)),decide_eq_false y1];omega
    ·rw[if_neg e3]
     have:decide ((v:Int)∈L.take (k+2))=decide ((v:Int)∈L.take (k+1)):=decide_eq_decide.mpr ((tk2 v).trans ⟨fun z=>z.resolve_right e3,.inl⟩)
     rw[this];omega
 have gx:deg n (iso g1 i) x=ns.getD x 0:=by
  rw[vg x hx,if_neg hxi,decide_eq_false x1,decide_eq_false hxj,aD7];omega
 have hyv:deg n (iso h1 i) y=ns.getD y 0 - 1:=by
  rw[vh y hy,if_neg hyi,if_neg hyj,decide_eq_true ((tk2 y).mpr (.inr rfl))];omega
 have hdxy:ns.getD y 0<=ns.getD x 0:=topL (k+1) x y ((tk1 x).mpr (.inr rfl)) hy hyi hyj y1
 have ev:∃ q,S n (fun v=>if v=i then 0 else ns.getD v 0 - b2 (decide ((v:Int)∈L.take (k+1))))=2*q:=by
  obtain⟨q,hq⟩:=Grf.aW8 ig n
  refine⟨q,?_⟩
  rw[Grf.u9 hr1,Grf.U8,Grf.U8,hq,Grf.ah2 1 hj,Grf.ah2 (-1) hx]
  omega
 have kr:=Grf.bL7 kg kh hj hx hy xy (Ne.symm hyj) (Ne.symm hxj) hr1 hr2 (by omega) ev
 have ge0:∀ (f:Nat->Nat->Bool) (v:Nat),0<=deg n f v:=fun f v=>Grf.O7 fun _ _=>Grf.B1 _
 have nnr:∀ v,v<n->0<=(if v=i then 0 else ns.getD v 0 - b2 (decide ((v:Int)∈L.take (k+1)))):=fun v hv=>by
  by_cases e3:v=x
  ·rw[hr2 v hv]
   have:=ge0 (iso h1 i) v
   rw[if_neg (by omega),if_neg (by omega)];omega
  ·rw[hr1 v hv,if_neg e3]
   have:=ge0 (iso g1 i) v
   split<;>omega
 obtain⟨q,hq⟩:=ev
 have q0:0<=q:=by
  have:=Grf.O7 nnr
  omega
 obtain⟨R,hR,dR⟩:=Grf.aV1 q.toNat n _ nnr kr (by rw[hq];omega)
 have Ri:∀ v,v<n->R i v=false:=fun v hv=>by
  have a:=Grf.ak1 (f:=fun v=>b2 (R i v)) hv fun _ _=>Grf.B1 _
  have b:=dR i hi
  rw[if_pos rfl]at b
  have c:b2 (R i v)<=deg n R i:=a
  cases e:R i v with
  | false=>rfl
  | true=>rw[e]at c;omega
 refine⟨fun u v=>if u=i then decide ((v:Int)∈L.take (k+1)) else if v=i then decide ((u:Int)∈L.take (k+1)) else R u v,⟨fun u v=>?_,fun u=>?_⟩,fun v hv=>?_,?_⟩
 ·by_cases c1:u=i
  ·by_cases c2:v=i
   ·rw[c1,c2]
   ·rw[if_pos c1,if_neg c2,if_pos c1]
  ·by_cases c2:v=i
   ·rw[if_neg c1,if_pos c2,if_pos c2]
   ·rw[if_neg c1,if_neg c2,if_neg c2,if_neg c1];exact hR.sym u v
 ·by_cases c1:u=i
  ·rw[if_pos c1,c1];exact decide_eq_false (nij _).1
  ·rw[if_neg c1,if_neg c1];exact hR.irr u
 ·by_cases c1:v=i
  ·subst c1
   have e:deg n (fun u w=>if u=v then decide ((w:Int)∈L.take (k+1)) else if w=v then decide ((u:Int)∈L.take (k+1)) else R u w) v=S n (fun w=>b2 (decide ((w:Int)∈L.take (k+1)))):=Grf.u9 fun w _=>by
    show b2 (if v=v then _ else _)=_
    rw[if_pos rfl]
   rw[e,lenT _ (by omega),hk];omega
  ·have e:deg n (fun u w=>if u=i then decide ((w:Int)∈L.take (k+1)) else if w=i then decide ((u:Int)∈L.take (k+1)) else R u w) v=deg n R v+(b2 (decide ((v:Int)∈L.take (k+1))) - b2 (R v i)):=by
    have:=Grf.Q6 (n:=n) (j:=i) (f:=fun w=>b2 (if v=i then decide ((w:Int)∈L.take (k+1)) else if w=i then decide ((v:Int)∈L.take (k+1)) else R v w)) (g:=fun w=>b2 (R v w)) hi fun w _ hw=>by
     show b2 (if v=i then _ else if w=i then _ else R v w)=_
     rw[if_neg c1,if_neg hw]
    rw[if_neg c1,if_pos rfl]at this
    exact this
   rw[e,dR v hv,if_neg c1,hR.sym v i,Ri v hv]
   omega
 ·show (if i=i then decide ((j:Int)∈L.take (k+1)) else _)=false
  rw[if_pos rfl]
  exact decide_eq_false (nij _).2
end Web
namespace Web
open L2
open Grf (S b2 Gph deg cnt sm ae5 O1)
def Mvd (ts us:List Int)(i j:Nat)(m:Int):Prop:=us.length=ts.length/\∀ v,v<ts.length->us.getD v 0=ts.getD v 0+(if v=i then m else 0)+(if v=j then m else 0)
theorem ay7 {ts us:List Int}{m:Int}(hm:Mvd ts us i j m)(hij:i≠j)(hi:i<ts.length)(hj:j<ts.length)(hg:Gph g)(dg:∀ v,v<ts.length->deg ts.length g v=ts.getD v 0){b:Bool}(hb:b2 b - b2 (g i j)=m) :
  ∀ v,v<us.length->deg us.length (O1 g i j b) v=us.getD v 0:=fun v hv=>by
 rw[hm.1]at hv ⊢
 rw[Grf.O3 hg hij hi hj,dg v hv,hm.2 v hv,hb]
 by_cases e1:v=i
 ·have e2:v≠j:=fun z=>hij (e1.symm.trans z)
  rw[if_pos (.inl e1),if_pos e1,if_neg e2];omega
 ·by_cases e2:v=j
  ·rw[if_pos (.inr e2),if_neg e1,if_pos e2];omega
  ·rw[if_neg (fun z=>z.elim e1 e2),if_neg e1,if_neg e2];omega
end Web
namespace Web
open L2
open Grf (S b2 Gph deg cnt sm ae5)
theorem aV2 {es:List Int} {q:Nat} (hg:Gph g) (hd:∀ v,v<ns.length->deg ns.length g v=ns.getD v 0) (hq:decide ((q:Int)∈es)=g p q) (hp:p<ns.length) (nd:es.Nodup) (he:∀ z∈es,0<=z/\z<ns.length/\z≠p) (hl:(es.length:Int)=ns.getD p 0)
  (ht:∀ x∈es,∀ y:Nat,y<ns.length->(y:Int)∉es->y≠p->x≠q->y≠q->ns.getD y 0<=ns.getD x.toNat 0):Gr (O2 ns p es):=by
 have hs:S ns.length (fun j=>b2 (decide ((j:Int)∈es)))=(es.length:Int):=by
  rw[Grf.u9 (g:=fun i=>if (i:Int)∈es then 1 else 0) fun i _=>by
   by_cases e:(i:Int)∈es
   ·rw[decide_eq_true e,if_pos e];rfl
   ·rw[decide_eq_false e,if_neg e];rfl]
  rw[be3 (f:=fun _=>1) nd fun z hz=>⟨(he z hz).1,(he z hz).2.1⟩]
  clear he hl ht nd hq
  induction es with
  | nil=>rfl
  | cons a es ih=>rw[i7,u7,ih,a9];omega
 have hNp:decide ((p:Int)∈es)=false:=decide_eq_false fun m=>(he _ m).2.2 rfl
 have hm:0<=S ns.length (fun j=>b2 (decide ((j:Int)∈es) && !g p j)):=Grf.O7 fun i _=>Grf.B1 _
 obtain⟨g',k1,k2,k3⟩:=Grf.bc8 (q:=q) (N:=fun j=>decide ((j:Int)∈es)) hp hNp (S ns.length (fun j=>b2 (decide ((j:Int)∈es) && !g p j))).toNat g hg (by rw[hs,hl,hd p hp]) hq
  (fun x y hx hy hNx hNy hyp hxq hyq => by
   rw[hd x hx,hd y hy]
   have:=ht x (of_decide_eq_true hNx) y hy (of_decide_eq_false hNy) hyp (by omega) hyq
   rw[j2]at this
   exact this) (by omega)
 refine⟨fun i j=>g' (sk p i) (sk p j),⟨fun i j=>k1.sym _ _,fun i=>k1.irr _⟩,fun i hi=>?_⟩
 rw[ab5 hp]at hi ⊢
 rw[ar0 hp hi]
 have hsk:=bv8 (p:=p) hi hp
 have e1:=k2 _ hsk
 rw[hd _ hsk]at e1
 have e2:deg ns.length g' (sk p i)=S (ns.length - 1) (fun j=>b2 (g' (sk p i) (sk p j)))+b2 (g' (sk p i) p):=aN7 (p:=p) _ hp
 rw[e2,k1.sym (sk p i) p,k3 _ hsk]at e1
 show S (ns.length - 1) (fun j=>b2 (g' (sk p i) (sk p j)))=_
 generalize S (ns.length - 1) (fun j=>b2 (g' (sk p i) (sk p j)))=q0 at e1
 unfold X5
 by_cases e:((sk p i:Nat):Int)∈es
 ·rw[decide_eq_true e]at e1
  rw[if_pos e]
  have:b2 true=1:=rfl
  omega
 ·rw[decide_eq_false e]at e1
  rw[if_neg e]
  have:b2 false=0:=rfl
  omega
def J7 (zs:List Int)(p q:Nat):List Int:=zs.filter fun x=>!decide (x∈[(p:Int),(q:Int)])
theorem an5 {q:Nat}{z:Int}:z∈J7 zs p q↔z∈zs/\z≠p/\z≠q:=by
 unfold J7
 rw[u4]
 refine and_congr_right fun _=>?_
 rw[aF3,decide_eq_false_iff_not,d3,j6]
 exact⟨fun h=>⟨fun e=>h (.inl e),fun e=>h (.inr e)⟩,fun h e=>e.elim h.1 h.2⟩
theorem bp7 (zs:List Int)(p q:Nat):J7 zs p q=rest (rest zs p) q:=by
 unfold J7 rest
 rw[List.filter_filter]
 refine cb2 fun x _=>?_
 by_cases e1:x=(p:Int)
 ·by_cases e2:x=(q:Int)<;>simp[e1,e2]
 ·by_cases e2:x=(q:Int)<;>simp[e1,e2]
theorem aS7 {q:Nat}(hz:zs.Perm (rng ns.length))(hp:p<ns.length)(hq:q<ns.length)(hpq:p≠q):(J7 zs p q).length+2=ns.length:=by
 have h1:=az6 hz (p:=p) (by omega) (by omega)
 have nz:(rest zs p).Nodup:=(hz.nodup_iff.mpr (P1 ns.length)).filter _
 have hm:(q:Int)∈rest zs p:=an0.mpr ⟨hz.mem_iff.mpr (N3.mpr ⟨by omega,by omega⟩),by omega⟩
 have e:=List.length_eq_countP_add_countP (fun x=>decide (x≠(q:Int))) (l:=rest zs p)
 have e2:av3 (fun x=>decide ¬(decide (x≠(q:Int)))=true) (rest zs p)=1:=by
  have:av3 (fun x=>decide ¬(decide (x≠(q:Int)))=true) (rest zs p)=(rest zs p).count (q:Int):=by
   rw[List.count]
   refine cb3 fun x _=>?_
   by_cases h:x=(q:Int)<;>simp[h]
  rw[this,nz.count,if_pos hm]
 rw[e2,aP1]at e
 rw[bp7]
 show ((rest zs p).filter fun x=>decide (x≠(q:Int))).length+2=_
 omega
theorem bM2 {q:Nat}(hg:Gph g)(hd:∀ v,v<ns.length->deg ns.length g v=ns.getD v 0)(ht:g p q=true)(hp:p<ns.length)(hq:q<ns.length)(hpq:p≠q)(hz:zs.Perm (rng ns.length))(hs:zs.Pairwise (ole ns)) :
  1<=ns.getD p 0/\∀ es,es=(J7 zs p q).take (ns.getD p 0 - 1).toNat++[(q:Int)]->es.Nodup/\(∀ z∈es,0<=z/\z<ns.length/\z≠p)/\(es.length:Int)=ns.getD p 0/\Gr (O2 ns p es):=by
 have hG:Gr ns:=⟨g,hg,hd⟩
 have h1:=aB8 hG hp
 have h0:1<=ns.getD p 0:=by
  rw[<- hd p hp]
  have:=Grf.ak1 (f:=fun j=>b2 (g p j)) hq (fun i _=>Grf.B1 _)
  have e:b2 (g p q)=1:=by rw[ht];rfl
  have t:b2 (g p q)<=deg ns.length g p:=this
  omega
 have hl:=aS7 hz hp hq hpq
 have nz:(J7 zs p q).Nodup:=(hz.nodup_iff.mpr (P1 ns.length)).filter _
 have srt:(J7 zs p q).Pairwise (ole ns):=hs.filter _
 refine⟨h0,fun es ees=>?_⟩
 have hin:∀ z∈J7 zs p q,0<=z/\z<ns.length/\z≠p/\z≠q:=fun z m=>by
  obtain⟨m1,m2,m3⟩:=an5.mp m
  obtain⟨c0,c1⟩:=N3.mp (hz.mem_iff.mp m1)
  exact⟨c0,c1,m2,m3⟩
 have nd:es.Nodup:=by
  rw[ees]
  refine ah8.mpr ⟨nz.sublist (F9 _ _),by simp,fun a ha b hb e=>?_⟩
  rw[j6.mp hb]at e
  exact(hin a (A5 ha)).2.2.2 e
 have he:∀ z∈es,0<=z/\z<ns.length/\z≠p:=fun z m=>by
  rw[ees]at m
  rcases k7.mp m with m | m
  ·obtain⟨a,b,c,_⟩:=hin z (A5 m)
   exact⟨a,b,c⟩
  ·rw[j6.mp m]
   exact⟨by omega,by omega,by omega⟩
 have hlen:(es.length:Int)=ns.getD p 0:=by
  rw[ees,j7,n6,Q0]
  omega
 refine⟨nd,he,hlen,aV2 (q:=q) hg hd ?_ hp nd he hlen fun x hx y hy hny hyp hxq hyq=>?_⟩
 ·rw[ht,ees]
  exact decide_eq_true (k7.mpr (.inr (j6.mpr rfl)))
 ·rw[ees]at hx hny
  have hxm:x∈(J7 zs p q).take (ns.getD p 0 - 1).toNat:=by
   rcases k7.mp hx with m | m
   ·exact m
   ·exact absurd (j6.mp m) hxq
  have hyr:(y:Int)∈J7 zs p q:=an5.mpr ⟨hz.mem_iff.mpr (N3.mpr ⟨by omega,by omega⟩),by omega,by omega⟩
  rw[<- x9 (ns.getD p 0 - 1).toNat (J7 zs p q)]at hyr srt
  rcases k7.mp hyr with m | m
  ·exact absurd (k7.mpr (.inl m)) hny
  ·have:=(o7.mp srt).2.2 x hxm y m
   rcases Z2.mp this with t | t
   ·rw[j2]at t;omega
   ·rw[j2]at t;omega
theorem bd0 {q:Nat}(hg:Gph g)(hd:∀ v,v<ns.length->deg ns.length g v=ns.getD v 0)(ht:g p q=false)(hp:p<ns.length)(hq:q<ns.length)(hpq:p≠q)(hz:zs.Perm (rng ns.length))(hs:zs.Pairwise (ole ns)) :
  ∀ es,es=(J7 zs p q).take (ns.getD p 0).toNat->es.Nodup/\(∀ z∈es,0<=z/\z<ns.length/\z≠p)/\(es.length:Int)=ns.getD p 0/\(q:Int)∉es/\Gr (O2 ns p es):=by
 have hG:Gr ns:=⟨g,hg,hd⟩
 have h0:=X6 (al7 hG) hp
 have hl:=aS7 hz hp hq hpq
 have h1:ns.getD p 0+2<=ns.length:=by
  have:=aB8 ⟨Grf.O1 g p q true,Grf.J2 hg hpq,ay7 (us:=(ns.set p (ns.getD p 0+1)).set q (ns.getD q 0+1)) (m:=1) ⟨by rw[A3,A3],fun v hv=>?_⟩ hpq hp hq hg hd (by rw[ht];rfl)⟩ (i:=p) (by rw[A3,A3];exact hp)
  ·rw[A3,A3,c9,D8 (Ne.symm hpq),P3 hp]at this
   have t:ns.getD p 0+1<ns.length:=this
   omega
  ·rw[c9,W5,W5,A3]
   by_cases c1:q=v
   ·subst c1
    rw[if_pos rfl,if_pos hq,if_neg (Ne.symm hpq),if_pos rfl]
    show ns.getD q 0+1=_
    omega
   ·rw[if_neg c1,if_neg (Ne.symm c1)]
    by_cases c2:p=v
    ·subst c2
     rw[if_pos rfl,if_pos hp,if_pos rfl]
     show ns.getD p 0+1=_
     omega
    ·rw[if_neg c2,if_neg (Ne.symm c2),<- c9]
     omega
 have nz:(J7 zs p q).Nodup:=(hz.nodup_iff.mpr (P1 ns.length)).filter _
 have srt:(J7 zs p q).Pairwise (ole ns):=hs.filter _
 intro es ees
 have hin:∀ z∈J7 zs p q,0<=z/\z<ns.length/\z≠p/\z≠q:=fun z m=>by
  obtain⟨m1,m2,m3⟩:=an5.mp m
  obtain⟨c0,c1⟩:=N3.mp (hz.mem_iff.mp m1)
  exact⟨c0,c1,m2,m3⟩
 have nd:es.Nodup:=by rw[ees];exact nz.sublist (F9 _ _)
 have he:∀ z∈es,0<=z/\z<ns.length/\z≠p:=fun z m=>by
  rw[ees]at m
  obtain⟨a,b,c,_⟩:=hin z (A5 m)
  exact⟨a,b,c⟩
 have hqe:(q:Int)∉es:=fun m=>by
  rw[ees]at m
  exact(hin q (A5 m)).2.2.2 rfl
 have hlen:(es.length:Int)=ns.getD p 0:=by
  rw[ees,n6]
  omega
 refine⟨nd,he,hlen,hqe,aV2 (q:=q) hg hd ?_ hp nd he hlen fun x hx y hy hny hyp hxq hyq=>?_⟩
 ·rw[ht]
  exact decide_eq_false hqe
 ·rw[ees]at hx hny
  have hyr:(y:Int)∈J7 zs p q:=an5.mpr ⟨hz.mem_iff.mpr (N3.mpr ⟨by omega,by omega⟩),by omega,by omega⟩
  rw[<- x9 (ns.getD p 0).toNat (J7 zs p q)]at hyr srt
  rcases k7.mp hyr with m | m
  ·exact absurd m hny
  ·have:=(o7.mp srt).2.2 x hx y m
   rcases Z2.mp this with t | t
   ·rw[j2]at t;omega
   ·rw[j2]at t;omega
end Web
namespace Web
open L2
theorem up_eq {a b c d:Int}(h:up [a,b]=up [c,d]):(a=c/\b=d)\/(a=d/\b=c):=by
 unfold up at h
 injection h with h1 h2
 injection h2 with h2 _
 split at h1<;>split at h1<;>split at h2<;>split at h2<;>omega
def star (a:Int)(bs:List Int):List (List Int):=bs.map fun b=>[a,b]
theorem aC9 {a:Int}{q:Nat}:∀ {bs:List Int},a∉bs->N2 (star a bs) q=if (q:Int)=a then bs.length else bs.count (q:Int)
 | [],_=>by
  split<;>rfl
 | b::bs,h=>by
  have hb:a≠b:=fun e=>h (e ▸ b9)
  have hbs:a∉bs:=fun m=>h (b8 _ m)
  have ih:=aC9 (q:=q) hbs
  unfold star N2 at ih ⊢
  rw[i7,ak8,ih,List.count_cons,a9]
  by_cases e:(q:Int)=a
  ·rw[if_pos e,if_pos e,if_pos (decide_eq_true (by rw[e];exact b9))]
  ·rw[if_neg e,if_neg e]
   by_cases e2:(q:Int)=b
   ·rw[if_pos (decide_eq_true (by rw[e2];exact b8 _ b9)),if_pos (by rw[e2];exact beq_self_eq_true b)]
   ·rw[if_neg (by
     intro z
     have:=of_decide_eq_true z
     rcases d3.mp this with t | t
     ·exact e t
     ·exact e2 (j6.mp t)),if_neg (by rw[beq_iff_eq];exact fun z=>e2 z.symm)]
theorem ar6 {q:Int}:∀ {bs:List Int},bs.Nodup->bs.count q=if q∈bs then 1 else 0
 | [],_=>by rw[if_neg (by simp)];rfl
 | b::bs,nd=>by
  obtain⟨h1,h2⟩:=C7.mp nd
  rw[List.count_cons,ar6 h2]
  by_cases e:b=q
  ·subst e
   rw[if_neg h1,if_pos b9,if_pos (beq_self_eq_true b)]
  ·rw[show (b == q)=false from beq_eq_false_iff_ne.mpr e]
   by_cases m:q∈bs
   ·rw[if_pos m,if_pos (b8 _ m)];rfl
   ·have m2:¬ q∈b::bs:=fun z=>by
     rcases d3.mp z with t | t
     ·exact e t.symm
     ·exact m t
    rw[if_neg m,if_neg m2];rfl
structure ah3 (ns ps left:List Int) (ks:List (List Int)):Prop where
 len:left.length=ps.length
 nd:ps.Nodup
 inn:∀ q∈ps,0<=q/\q<ns.length
 ends:∀ k∈ks,ah5 ns.length k
 nodup:(ks.map up).Nodup
 out:∀ a b:Int,[a,b]∈ks->¬ (a∈ps/\b∈ps)
 cnt:∀ i q:Nat,ps[i]?=some (q:Int)->(N2 ks q:Int)+left.getD i 0=ns.getD q 0
 done:∀ q:Nat,q<ns.length->(q:Int)∉ps->(N2 ks q:Int)=ns.getD q 0
theorem aT4 {ps:List Int}(nd:ps.Nodup){a:Int}(h1:ps[i]?=some a)(h2:ps[j]?=some a):i=j:=by
 have hi:i<ps.length:=by
  rcases E3 i ps.length with h | h
  ·exact h
  ·rw[n9 h]at h1;cases h1
 exact(cb1 hi nd).mp (h1.trans h2.symm)
theorem bk4 {ps:List Int}{a:Int}(h:ps[i]?=some a):ps.getD i 0=a:=by rw[c9,h];rfl
theorem bd1 {ps:List Int}(h:i<ps.length):ps[i]?=some (ps.getD i 0):=by
 rw[c9,i6 h];rfl
theorem ah3.step {ps left ps' es:List Int}{a:Int}(h:ah3 ns ps left ks)(hj:ps[j]?=some a)(sub:ps'.Sublist ps)(hl:ps'.length=ps.length - 1)(hix:∀ i,i<ps.length - 1->ps'[i]?=ps[sk j i]?)
  (ne:es.Nodup)(he:∀ z∈es,0<=z/\z<ps.length/\z≠j)(hn:(es.length:Int)=left.getD j 0) :
  ah3 ns ps' (O2 left j es) (ks++star a (es.map fun z=>ps.getD z.toNat 0)):=by
 have hjl:j<ps.length:=by
  rcases E3 j ps.length with h | h
  ·exact h
  ·rw[n9 h]at hj;cases hj
 have hjl':j<left.length:=by rw[h.len];exact hjl
 have haps:a∈ps:=d5 hj
 have bget:∀ z∈es,ps[z.toNat]?=some (ps.getD z.toNat 0):=fun z hz=>bd1 (by have:=he z hz;omega)
 have bmem:∀ b∈es.map (fun z=>ps.getD z.toNat 0),b∈ps:=fun b hb=>by
  obtain⟨z,hz,rfl⟩:=k8.mp hb
  exact d5 (bget z hz)
 have anb:a∉es.map (fun z=>ps.getD z.toNat 0):=fun m=>by
  obtain⟨z,hz,e⟩:=k8.mp m
  have h1:=bget z hz
  rw[e]at h1
  have:=aT4 h.nd h1 hj
  have:=he z hz
  omega
 have ndb:(es.map (fun z=>ps.getD z.toNat 0)).Nodup:=by
  refine L3.mpr ?_
  rw[G1]
  refine List.Pairwise.imp_of_mem ?_ (L3.mp ne)
  intro x y hx hy hxy e
  have h1:=bget x hx
  rw[e]at h1
  have:=aT4 h.nd h1 (bget y hy)
  have:=he x hx
  have:=he y hy
  exact hxy (by omega)
 have ap:a∉ps':=fun m=>by
  obtain⟨i,hi⟩:=o4.mp m
  have hil:i<ps.length - 1:=by
   rcases E3 i ps'.length with h | h
   ·omega
   ·rw[n9 h]at hi;cases hi
  rw[hix i hil]at hi
  exact bP9 j i (aT4 h.nd hi hj)
 have bin:∀ (i q:Nat),ps[i]?=some (q:Int)->((q:Int)∈es.map (fun z=>ps.getD z.toNat 0)↔(i:Int)∈es):=fun i q hi=>by
  constructor
  ·intro m
   obtain⟨z,hz,e⟩:=k8.mp m
   have h1:=bget z hz
   rw[e]at h1
   have:=aT4 h.nd h1 hi
   have:=he z hz
   rwa [show (i:Int)=z by omega]
  ·intro m
   refine k8.mpr ⟨i,m,?_⟩
   rw[j2]
   exact bk4 hi
 refine⟨by rw[ab5 hjl',hl,h.len],h.nd.sublist sub,fun q hq=>h.inn q (sub.subset hq),fun k hk=>?_,?_,fun c d hk=>?_,fun i q hi=>?_,fun q hq hnq=>?_⟩
 ·rcases k7.mp hk with hk | hk
  ·exact h.ends k hk
  ·obtain⟨b,hb,rfl⟩:=k8.mp hk
   have h1:=h.inn a haps
   have h2:=h.inn b (bmem b hb)
   have h3:a≠b:=fun e=>anb (e ▸ hb)
   exact⟨a.toNat,b.toNat,by omega,by omega,by omega,by rw[T6 h1.1,T6 h2.1]⟩
 ·rw[i9,ah8]
  refine⟨h.nodup,?_,fun x hx y hy e=>?_⟩
  ·unfold star
   rw[C2]
   refine L3.mpr ?_
   rw[G1]
   refine List.Pairwise.imp_of_mem ?_ (L3.mp ndb)
   intro x y hx hy hxy e
   rcases up_eq e with t | t
   ·exact hxy t.2
   ·exact anb (t.1 ▸ hy)
  ·obtain⟨k,hk,rfl⟩:=k8.mp hx
   obtain⟨k2,hk2,rfl⟩:=k8.mp hy
   obtain⟨b,hb,rfl⟩:=k8.mp hk2
   obtain⟨u,v,_,_,_,rfl⟩:=h.ends k hk
   refine h.out _ _ hk ?_
   rcases up_eq e with t | t
   ·rw[t.1,t.2];exact⟨haps,bmem b hb⟩
   ·rw[t.1,t.2];exact⟨bmem b hb,haps⟩
 ·rcases k7.mp hk with hk | hk
  ·exact fun z=>h.out c d hk ⟨sub.subset z.1,sub.subset z.2⟩
  ·obtain⟨b,hb,e⟩:=k8.mp hk
   injection e with e1 _
   intro z
   exact ap (e1 ▸ z.1)
 ·have hil:i<ps.length - 1:=by
   rcases E3 i ps'.length with h | h
   ·omega
   ·rw[n9 h]at hi;cases hi
  rw[hix i hil]at hi
  have hc:=h.cnt _ q hi
  have hqa:¬ (q:Int)=a:=fun e=>by
   rw[e]at hi
   exact bP9 j i (aT4 h.nd hi hj)
  rw[ar0 hjl' (by rw[h.len];exact hil),ag9,aC9 anb,if_neg hqa,ar6 ndb]
  unfold X5
  by_cases m:((sk j i:Nat):Int)∈es
  ·rw[if_pos ((bin _ q hi).mpr m),if_pos m];omega
  ·rw[if_neg (fun z=>m ((bin _ q hi).mp z)),if_neg m];omega
 ·rw[ag9,aC9 anb]
  by_cases e:(q:Int)=a
  ·have hc:=h.cnt j q (by rw[e];exact hj)
   rw[if_pos e,a6]
   omega
  ·rw[if_neg e,ar6 ndb]
   have hq':(q:Int)∉ps:=fun m=>by
    obtain⟨m',hm'⟩:=o4.mp m
    have hml:m'<ps.length:=by
     rcases E3 m' ps.length with h | h
     ·exact h
     ·rw[n9 h]at hm';cases hm'
    have hmj:m'≠j:=fun z=>by rw[z,hj]at hm';injection hm' with hm';exact e hm'.symm
    obtain⟨i,hi,hik⟩:∃ i,i<ps.length - 1/\sk j i=m':=by
     rcases E3 m' j with t | t
     ·exact⟨m',by omega,by unfold sk;rw[if_pos t]⟩
     ·exact⟨m' - 1,by omega,by unfold sk;rw[if_neg (by omega)];omega⟩
    have:=hix i hi
    rw[hik,hm']at this
    exact hnq (d5 this)
   rw[if_neg (fun m=>hq' (bmem _ m)),h.done q hq hq' |>.symm]
   omega
theorem ah3.last {left:List Int}(h:ah3 ns [] left ks):tal ns.length ks=ns:=by
 apply J9
 intro i
 rcases E3 i ns.length with hi | hi
 ·rw[U3 hi,h.done i hi (by simp),bd1 hi]
 ·rw[n9 (by rw[P0];exact hi),n9 hi]
theorem aK4 (h:i<n):(rng n)[i]?=some (i:Int):=by
 unfold rng
 rw[q8,List.getElem?_range' h]
 simp
theorem ah3.first (ns:List Int):ah3 ns (rng ns.length) ns [] where
 len:=(Y8 _).symm
 nd:=P1 _
 inn:=fun q hq=>N3.mp hq
 ends:=fun k hk=>absurd hk (by simp)
 nodup:=by simp
 out:=fun a b hk=>absurd hk (by simp)
 cnt:=fun i q hi=>by
  have hil:i<ns.length:=by
   rcases E3 i (rng ns.length).length with h | h
   ·rw[Y8]at h;exact h
   ·rw[n9 h]at hi;cases hi
  rw[aK4 hil]at hi
  injection hi with hi
  rw[show q=i by omega]
  show (0:Int)+_=_
  omega
 done:=fun q hq hn=>absurd (N3.mpr ⟨by omega,by omega⟩) hn
theorem aA3:∀ {xs ys:List Int},xs.Perm ys->xs.Pairwise (ole ns)->ys.Pairwise (ole ns)->xs=ys
 | [],ys,p,_,_=>p.symm.eq_nil.symm
 | x::xs,[],p,_,_=>by
  have:=p.length_eq
  simp at this
 | x::xs,y::ys,p,h,q=>by
  have hxy:x=y:=by
   have h1:x∈y::ys:=p.mem_iff.mp b9
   have h2:y∈x::xs:=p.mem_iff.mpr b9
   rcases d3.mp h1 with e | e
   ·exact e
   ·rcases d3.mp h2 with e2 | e2
    ·exact e2.symm
    ·exact aT0 ((y9.mp h).1 y e2) ((y9.mp q).1 x e)
  subst hxy
  rw[aA3 ((List.perm_cons x).mp p) (y9.mp h).2 (y9.mp q).2]
theorem aA5:∀ {l m:List (List Int)},l.Nodup->(∀ x∈l,x∈m)->l.length<=m.length
 | [],m,_,_=>o5 _
 | x::l,m,nd,h=>by
  have h1:=C7.mp nd
  have hm:=h x b9
  have h2:∀ y∈l,y∈m.erase x:=fun y hy=>by
   have hne:y≠x:=fun e=>h1.1 (e ▸ hy)
   exact(List.mem_erase_of_ne hne).mpr (h y (b8 _ hy))
  have h3:=aA5 h1.2 h2
  rw[bm5 hm]at h3
  have h4:0<m.length:=bt2 hm
  simp only[a9]
  omega
theorem bS9 (hn:n<=24)(nd:ks.Nodup)(h:∀ k∈ks,Up n k):ks.length<=276:=
 p8 (aA5 nd fun k hk=>by
  obtain⟨i,j,h1,h2,rfl⟩:=h k hk
  exact aw4 h1 h2) (U0 n hn)
theorem ah3.len_le {ps left:List Int}(h:ah3 ns ps left ks)(hn:ns.length<=24):ks.length<=276:=by
 have:=bS9 hn h.nodup fun k hk=>by
  obtain⟨k',hk',rfl⟩:=k8.mp hk
  exact(h.ends k' hk').up
 rw[a6]at this
 exact this
theorem bC9 {q:Nat}:∀ {ks:List (List Int)},(∀ k∈ks,ah5 n k)->N2 (ks.map up) q=N2 ks q
 | [],_=>rfl
 | k::ks,h=>by
  have ih:=bC9 (q:=q) fun k hk=>h k (b8 _ hk)
  unfold N2 at ih ⊢
  rw[i7,ak8,ak8,ih]
  congr 1
  obtain⟨i,j,_,_,_,rfl⟩:=h k b9
  have e:((q:Int)∈up [(i:Int),(j:Int)])↔(q:Int)∈[(i:Int),(j:Int)]:=by
   unfold up
   simp only[d3,C8,or_false]
   split<;>split<;>omega
  by_cases z:(q:Int)∈[(i:Int),(j:Int)]
  ·rw[decide_eq_true z,decide_eq_true (e.mpr z)]
  ·rw[decide_eq_false z,decide_eq_false (fun t=>z (e.mp t))]
theorem bT6 (h:∀ k∈ks,ah5 n k):tal n (ks.map up)=tal n ks:=by
 unfold tal
 refine o8 fun p _=>?_
 rw[bC9 h]
noncomputable def bp8 (ns:List Int):List Int:=Classical.choose (aq7 ns)
theorem ab3 (ns:List Int):(bp8 ns).Perm (rng ns.length):=(Classical.choose_spec (aq7 ns)).1
theorem aG8 (ns:List Int):(bp8 ns).Pairwise (ole ns):=(Classical.choose_spec (aq7 ns)).2
theorem aL0 (hp:zs.Perm (rng ns.length))(hs:zs.Pairwise (ole ns)):zs=bp8 ns:=aA3 (hp.trans (ab3 ns).symm) hs (aG8 ns)
noncomputable def chF (ns:List Int)(p:Nat):List Int:=(rest (bp8 ns) p).take (ns.getD p 0).toNat
theorem ca0 (ns:List Int)(p:Nat):(chF ns p).Nodup:=(((ab3 ns).nodup_iff.mpr (P1 ns.length)).filter _).sublist (F9 _ _)
theorem bD4 {z:Int}(h:z∈chF ns p):0<=z/\z<ns.length/\z≠p:=by
 obtain⟨m1,m2⟩:=an0.mp (A5 h)
 obtain⟨c0,c1⟩:=N3.mp ((ab3 ns).mem_iff.mp m1)
 exact⟨c0,c1,m2⟩
theorem bl6 (h:Gr ns)(hp:p<ns.length):((chF ns p).length:Int)=ns.getD p 0:=by
 have h1:=aB8 h hp
 have h0:=X6 (al7 h) hp
 have hl:=az6 (ab3 ns) (p:=(p:Int)) (by omega) (by omega)
 unfold chF
 rw[n6]
 omega
theorem ca1 (h:Gr ns)(hp:p<ns.length):Gr (O2 ns p (chF ns p)):=bB4 h hp (ab3 ns) (aG8 ns)
noncomputable def bz8:Nat->List Int->List Int->List (List Int)
 | 0,_,_=>[]
 | m+1,left,ps=>star (ps.getD 0 0) ((chF left 0).map fun z=>ps.getD z.toNat 0)++bz8 m (O2 left 0 (chF left 0)) (ps.drop 1)
theorem ah3.go {ps left:List Int}(h:ah3 ns ps left ks)(hg:Gr left)(h0:0<left.length) :
  ah3 ns (ps.drop 1) (O2 left 0 (chF left 0)) (ks++star (ps.getD 0 0) ((chF left 0).map fun z=>ps.getD z.toNat 0)):=by
 have hl:=h.len
 refine h.step (bd1 (by omega)) (ah6 1 ps) (by rw[A8]) (fun i hi=>?_) (ca0 left 0) (fun z hz=>?_) (bl6 hg h0)
 ·rw[P4]
  congr 1
  unfold sk
  rw[if_neg (by omega)]
  omega
 ·have:=bD4 hz
  omega
def L5 (n p:Nat):List Int:=((n8 n).filter fun i=>decide (i≠p)).map fun i:Nat=>(i:Int)
theorem ah3.start {es:List Int}(hp:p<ns.length)(ne:es.Nodup)(he:∀ z∈es,0<=z/\z<ns.length/\z≠p)(hn:(es.length:Int)=ns.getD p 0):ah3 ns (L5 ns.length p) (O2 ns p es) (star p es):=by
 have:=(ah3.first ns).step (j:=p) (a:=(p:Int)) (ps':=L5 ns.length p) (es:=es) (aK4 hp) ?_ ?_ ?_ ne (fun z hz=>by rw[Y8];exact he z hz) hn
 ·have e:es.map (fun z=>(rng ns.length).getD z.toNat 0)=es:=by
   conv=>rhs;rw[<- List.map_id es]
   refine o8 fun z hz=>?_
   have:=he z hz
   rw[bk4 (aK4 (n:=ns.length) (i:=z.toNat) (by omega))]
   show ((z.toNat:Nat):Int)=z
   omega
  rw[e,K5]at this
  exact this
 ·unfold L5 rng
  rw[<- bG3]
  exact List.Sublist.map _ bO3
 ·unfold L5
  rw[Z7 hp,a6,a6,C1,Y8]
 ·intro i hi
  rw[Y8]at hi
  unfold L5
  rw[Z7 hp,q8,q8,N6 hi,aK4 (bv8 hi hp)]
  rfl
end Web
namespace HT
open PySem PyProof.Rows
section
open PySem.SeqAt
open PySem.AutoSeq1 (wpAny_loadPart')
open PySem.MeetsSeq PySem.MeetsSeq2 PySem.MeetsSeq3
end
end HT
namespace L2
open PySem PySem.Spec PyProof.Rows
end L2
namespace L2
open PySem PySem.Spec PyProof.Rows PySem.SeqAt
theorem bi1 {a b:Expr}{tb:TE}(K:W.Frag)(hK:X.K=K)(ha:PE X a ta)(hb:PE X b tb)(hs:ax8 b):PE X (.Subscript a b pos) (tOp (bV4 K) ta tb):=by
 cases hK
 exact Q9 U1 ha hb hs
theorem Y9 {a b:Expr}{tb:TE}(K:W.Frag)(hK:X.K=K)(ha:PE X a ta)(hb:PE X b tb)(hs:ax8 b):PE X (.Subscript a b pos) (tOp (rIx K) ta tb):=by
 cases hK
 exact Q9 bA4 ha hb hs
end L2
namespace L2
open PySem PySem.Spec PyProof.Rows
def cg4:R2:=fun x y H Q=>∃ l b xs zs,x=.ref l/\y=.ref b/\H l=some (.lst xs)/\H b=some (.lst zs)/\xs.length+zs.length<=1000/\Q (.ref l) (upd H l (.lst (xs++zs)))
theorem bc6:fillsInplaceSlot (.type "list") "add" true=pure false:=by
 unfold fillsInplaceSlot
 show (typeLookup (.type "list") (dunderI "add") >>= fun fi=>pure (fi.isSome && !isSeqSlot fi))=pure false
 rw[F.slot_list_iadd.lookup]
 rw[pure_bind]
 congr 1
theorem bq8:seqSlot? (.type "list") (dunderI "add")=pure (some (.builtin "list.__iadd__")):=by
 unfold seqSlot?
 rw[F.slot_list_iadd.lookup]
 rfl
theorem bc3:PIp X .Add cg4:=by
 intro pins s σ H x y v u Q I rx ry h
 obtain⟨l,b,xs,zs,rfl,rfl,hH,hB,hz,q⟩:=h
 cases rx
 cases ry
 obtain⟨z,its,n,r,hl,e⟩:=I.lstM hH
 obtain⟨z2,its2,n2,r2,hl2,e2⟩:=I.lstM hB
 have hln:=r.length
 have hln2:=r2.length
 unfold inplaceOp
 refine M4 ?_
 refine a8 (wpAny_typeOf (T:="list") ⟨_,e,rfl⟩ (a8 (cd0 bc6 ?_)))
 show p9 _ _ (if false=true then _ else _) _ _ s
 rw[if_neg j5]
 refine a8 (wpAny_binaryOp1_none (a:=.ref l) (b:=.ref b) (s:=s) (nm:="add") (T:="list") ⟨_,e,rfl⟩ ⟨_,e2,rfl⟩ noFill_list_add ?_)
 refine a8 (cd0 bq8 ?_)
 refine a8 (bF6 ?_)
 have hd:¬(!its.toArray.isEmpty && Builtin.List.listTooLong (its.toArray.size+its2.toArray.size))=true:=extend_door (by rw[d8,d8,C6];omega)
 refine bF5 F.slot_list_iadd ⟨_,e,rfl⟩ F.entry_list_iadd (F.args_list_iadd_2 _ _) (PySem.AutoSeq1.list___iadd___list_list_0 l its.toArray n b its2.toArray n2 hd (by rw[d8,C6];omega) (by rw[d8,d8,C6];omega)) ⟨e,e2,?_⟩
 refine⟨.ref l,_,I.lset (its':=its++its2) hH e ?_ (r.append r2) ?_,rfl,q⟩
 ·show its.toArray++its2.toArray=_
  simp
 ·rw[j7,C6];omega
theorem bQ6 {it:Expr}{w1 w2:TI}(h1:PI X tg it w1)(h2:PI X tg it w2):PI X tg it (fun σ H R=>w1 σ H R\/w2 σ H R):=
 fun pins s σ H R I h=>h.elim (h1 pins s σ H R I) (h2 pins s σ H R I)
theorem bs1 (hc:X.calm=true):X8 X (.builtin "sum") (fun xs H Q=>∃ (p:Addr) (ns:List Int),xs=[.ref p]/\(SqL X.K H p (ns.map V.int)\/SqT X.K H p (ns.map V.int))/\Q (.int ns.sum) H) :=
 fun pins s σ H xs us Q I r ⟨p,ns,e,hq,q⟩=>hq.elim (fun h=>ah1 hc pins s σ H xs us Q I r ⟨p,ns,e,h,q⟩) fun h=>bs0 hc pins s σ H xs us Q I r ⟨p,ns,e,h,q⟩
theorem aC8 {D:Addr}{J:It}{S:Hp->Prop}{g:TG}{tt:TT}{Qd:Hp->Prop}{σ0:St}{H0:Hp}
  (hst:∀ i H,S H->ys.length=i->J.stop i H)(hgo:∀ i H,S H->i<ys.length->J.go i H)(hy:∀ i H x H'',S H->J.yld i H x H''->∃ (t:Addr) (v:V),H t=none/\x=.ref t/\ys[i]?=some v/\H''=upd H t (.tup [.int i,v]))
  (Pv:Nat->List V->St->Hp->Prop)(h0:Pv 0 [] σ0 H0)(hz:ys.length<=f6)(hl:∀ i xs σ H,i<=ys.length->Pv i xs σ H->S H/\H D=some (.lst xs)/\xs.length<=i)
  (hs:∀ i xs x t σ H (N:List V->St->Hp->Prop),(∀ xs' σ' H',Pv (i+1) xs' σ' H'->N xs' σ' H')->ys[i]?=some x->Pv i xs σ H->H t=none->g (.ref t) σ (upd H t (.tup [.int i,x])) fun σ2 H2=>tt σ2 H2 fun b H3=>if b=true then te σ2 H3 fun v H4=>H4 D=some (.lst xs)/\N (xs++[v]) σ2 (upd H4 D (.lst (xs++[v]))) else N xs σ2 H3)
  (hd:∀ xs σ H,Pv ys.length xs σ H->Qd H) :
  ∃ W:Nat->Nat->List V->St->Hp->Prop,(∃ m,W 0 m [] σ0 H0)/\∀ i m xs σ' H',W i m xs σ' H'->H' D=some (.lst xs)/\((J.stop i H'/\Qd H')\/(J.go i H'/\xs.length<f6/\∀ x H'',J.yld i H' x H''->g x σ' H'' fun σ2 H2=>tt σ2 H2 fun b H3 =>
   if b=true then te σ2 H3 fun v H4=>H4 D=some (.lst xs)/\∃ m',m'<m/\W (i+1) m' (xs++[v]) σ2 (upd H4 D (.lst (xs++[v]))) else ∃ m',m'<m/\W (i+1) m' xs σ2 H3)):=by
 refine⟨fun i m xs σ H=>m=ys.length - i/\i<=ys.length/\Pv i xs σ H,⟨ys.length,by simp,o5 _,h0⟩,?_⟩
 rintro i m xs σ H ⟨rfl,hi,p⟩
 obtain⟨q,hD,hx⟩:=hl i xs σ H hi p
 refine⟨hD,?_⟩
 by_cases hlt:i<ys.length
 ·refine .inr ⟨hgo i H q hlt,by omega,fun x H'' y=>?_⟩
  obtain⟨t,v,ht,e,hv,e'⟩:=hy i H x H'' q y
  subst e e'
  exact hs i xs v t σ _ (fun zs σ' H'=>∃ m',m'<ys.length - i/\m'=ys.length - (i+1)/\i+1<=ys.length/\Pv (i+1) zs σ' H') (fun zs σ' H' r=>⟨_,by omega,rfl,hlt,r⟩) hv p ht
 ·have e:i=ys.length:=by omega
  subst e
  exact .inl ⟨hst _ H q rfl,hd xs σ H p⟩
theorem bY7 {K:W.Frag}(i:Nat)(H:Hp)(q:SqL K H a ys)(h:ys.length=i):(Itn K a).stop i H:=⟨ys,q,af5 h⟩
theorem bY8 {K:W.Frag}(i:Nat)(H:Hp)(q:SqL K H a ys)(h:i<ys.length):(Itn K a).go i H:=⟨ys,ys[i],q,by simp[h]⟩
theorem ch1 {K:W.Frag}(i:Nat)(H:Hp)(x:V)(H'':Hp)(q:SqL K H a ys)(y:(Itn K a).yld i H x H''):∃ (t:Addr) (v:V),H t=none/\x=.ref t/\ys[i]?=some v/\H''=upd H t (.tup [.int i,v]):=by
 obtain⟨t,v,ht,e,hv,e'⟩:=y
 exact⟨t,v,ht,e,hv ys q,e'⟩
theorem bY9 {K:W.Frag}(i:Nat)(H:Hp)(q:SqT K H a ys)(h:ys.length=i):(Itm K a).stop i H:=⟨ys,q,h⟩
theorem bZ0 {K:W.Frag}(i:Nat)(H:Hp)(q:SqT K H a ys)(h:i<ys.length):(Itm K a).go i H:=⟨ys,ys[i],q,by simp[h]⟩
theorem ch2 {K:W.Frag}(i:Nat)(H:Hp)(x:V)(H'':Hp)(q:SqT K H a ys)(y:(Itm K a).yld i H x H''):∃ (t:Addr) (v:V),H t=none/\x=.ref t/\ys[i]?=some v/\H''=upd H t (.tup [.int i,v]):=by
 obtain⟨t,v,ht,e,hv,e'⟩:=y
 exact⟨t,v,ht,e,hv ys q,e'⟩
theorem aC7 {K:W.Frag} {g:TG} {tt:TT} {Qd:Addr->Hp->Prop} {σ0:St} (hS:SqL K H a ys\/SqT K H a ys) (hz:ys.length<=f6)
  (Pv:Addr->Nat->List V->St->Hp->Prop) (h0:∀ D,H D=none->Pv D 0 [] σ0 (upd H D (.lst []))) (hl:∀ D i xs σ H',H D=none->i<=ys.length->Pv D i xs σ H'->y7 H H'/\H' D=some (.lst xs)/\xs.length<=i)
  (hs:∀ D i xs x t σ H' (N:List V->St->Hp->Prop),H D=none->(∀ xs' σ' H'',Pv D (i+1) xs' σ' H''->N xs' σ' H'')->ys[i]?=some x->Pv D i xs σ H'->H' t=none->g (.ref t) σ (upd H' t (.tup [.int i,x])) fun σ2 H2=>tt σ2 H2 fun b H3=>if b=true then te σ2 H3 fun v H4=>H4 D=some (.lst xs)/\N (xs++[v]) σ2 (upd H4 D (.lst (xs++[v]))) else N xs σ2 H3)
  (hd:∀ D xs σ H',H D=none->Pv D ys.length xs σ H'->Qd D H') :
  (∃ b, [V.ref a] = [V.ref b] /\ (∃ xs, SqL K H b xs) /\ ∀ D, H D = none -> ∃ W : Nat -> Nat -> List V -> St -> Hp -> Prop, (∃ m, W 0 m [] σ0 (upd H D (.lst []))) /\ ∀ i m xs σ' H', W i m xs σ' H' -> H' D = some (.lst xs) /\ (((Itn K b).stop i H' /\ Qd D H') \/ ((Itn K b).go i H' /\ xs.length < f6 /\ ∀ x H'', (Itn K b).yld i H' x H'' -> g x σ' H'' fun σ2 H2 => tt σ2 H2 fun b H3 =>
   if b=true then te σ2 H3 fun v H4=>H4 D=some (.lst xs)/\∃ m',m'<m/\W (i+1) m' (xs++[v]) σ2 (upd H4 D (.lst (xs++[v]))) else ∃ m',m'<m/\W (i+1) m' xs σ2 H3))) \/
  (∃ b, [V.ref a] = [V.ref b] /\ (∃ xs, SqT K H b xs) /\ ∀ D, H D = none -> ∃ W : Nat -> Nat -> List V -> St -> Hp -> Prop, (∃ m, W 0 m [] σ0 (upd H D (.lst []))) /\ ∀ i m xs σ' H', W i m xs σ' H' -> H' D = some (.lst xs) /\ (((Itm K b).stop i H' /\ Qd D H') \/ ((Itm K b).go i H' /\ xs.length < f6 /\ ∀ x H'', (Itm K b).yld i H' x H'' -> g x σ' H'' fun σ2 H2 => tt σ2 H2 fun b H3 =>
   if b=true then te σ2 H3 fun v H4=>H4 D=some (.lst xs)/\∃ m',m'<m/\W (i+1) m' (xs++[v]) σ2 (upd H4 D (.lst (xs++[v]))) else ∃ m',m'<m/\W (i+1) m' xs σ2 H3))):=by
 rcases hS with hS | hS
 ·exact .inl ⟨a,rfl,⟨_,hS⟩,fun D hD=>aC8 (S:=fun H'=>SqL K H' a ys) bY7 bY8 ch1 (Pv D) (h0 D hD) hz (fun i xs σ H' hi p=>let ⟨s,g,l⟩:=hl D i xs σ H' hD hi p;⟨s.seq hS,g,l⟩) (fun i xs x t σ H' N kN hx p ht=>hs D i xs x t σ H' N hD kN hx p ht) (fun xs σ H' p=>hd D xs σ H' hD p)⟩
 ·exact .inr ⟨a,rfl,⟨_,hS⟩,fun D hD=>aC8 (S:=fun H'=>SqT K H' a ys) bY9 bZ0 ch2 (Pv D) (h0 D hD) hz (fun i xs σ H' hi p=>let ⟨s,g,l⟩:=hl D i xs σ H' hD hi p;⟨s.seqT hS,g,l⟩) (fun i xs x t σ H' N kN hx p ht=>hs D i xs x t σ H' N hD kN hx p ht) (fun xs σ H' p=>hd D xs σ H' hD p)⟩
theorem bi0 (K:W.Frag)(hK:X.K=K){k:Nat}{t:TGs}(hc:X.calm=true)(h:PGs X es t)
  (hn:(ak9 es X.env).length=n:=by rfl)(hst:(ak9 es X.env).findIdx? (·.1)=none:=by rfl):PG X (.Tuple es k pos) (ch8 K n t):=by
 subst hK
 exact aq6 hc h hn hst
section
variable {Er:Value->Shared->Prop}
end
section
variable {K:W.Frag} {mg:Str->Option Value} {base:Heap} {cd:Value} {E:XK} {H1:Hp} {s1:Shared}
end
section
variable {K:W.Frag} {mg:Str->Option Value} {base:Heap} {cd:Value} {E:XK}
end
section
variable {K:W.Frag} {mg:Str->Option Value} {base:Heap} {scope0:Scope} {cd:Value} {s0:Shared} {H0:Hp} {E:XK}
end
end L2
namespace Web
def ak4 (ns:List Int)(M r:Nat):Int:=(M:Int)*(r:Int)*((r:Int) - 1)+part (ns.length - r) ((M:Int)*(r:Int)) (up2 ns)
theorem aq3 (ns:List Int)(r:Nat):ak4 ns 1 r=as9 ns r:=by
 unfold ak4 as9
 rw[Int.natCast_one,bR8]
theorem aS1 {M r:Nat}(e:zs=(up2 ns).reverse):(M:Int)*(r:Int)*((r:Int) - 1)+((zs.drop r).map (mn ((M:Int)*(r:Int)))).sum - (zs.take r).sum=ak4 ns M r:=by
 unfold ak4 part
 rw[e,ca9,cb0,cc1,am5,am5,av6]
 omega
end Web
namespace Web
def ar8 (ns:List Int)(i:Nat):List Nat:=(n8 i).filter fun j=>decide (ns.getD j 0<0)
def ci3 (ns:List Int):List Int:=(ar8 ns ns.length).map Int.ofNat
theorem bs3 (ns:List Int)(i:Nat):ar8 ns (i+1)=ar8 ns i++(if ns.getD i 0<0 then [i] else []):=by
 unfold ar8
 rw[E4,B4]
 congr 1
 by_cases h:ns.getD i 0<0
 ·rw[if_pos h,C9 (by simpa using h),ac1]
 ·rw[if_neg h,D0 (by simpa using h),ac1]
theorem bD7 (ns:List Int)(i:Nat):(ar8 ns i).length<=i:=by
 unfold ar8
 exact p8 (E8 ..) (by rw[C1];exact c5 _)
theorem ao4 {x:Int}(h:ns[j]?=some x):ns.getD j 0=x:=by rw[c9,h];rfl
theorem bN1 (h:ar8 ns ns.length=[]):∀ (j:Nat) (x:Int),ns[j]?=some x->0<=x:=fun j x e=>by
 have hj:j<ns.length:=by
  rcases E3 j ns.length with l | l
  ·exact l
  ·rw[n9 l]at e;cases e
 have:=am1.mp h j (u6.mpr hj)
 rw[ao4 e]at this
 have h2:¬ x<0:=fun q=>this (decide_eq_true q)
 omega
theorem bD6 {t:List Nat}(h:ar8 ns ns.length=p::t):(∃ x,ns[p]?=some x/\x<0)/\∀ (j:Nat) (x:Int),j<p->ns[j]?=some x->0<=x:=by
 have hm:p∈ar8 ns ns.length:=by rw[h];exact b9
 have hp:=u4.mp hm
 have hl:=u6.mp hp.1
 have h0:=of_decide_eq_true hp.2
 refine⟨⟨_,i6 hl,by rw[ao4 (i6 hl)]at h0;exact h0⟩,fun j x hj e=>?_⟩
 rcases Int.lt_or_le x 0 with q | q
 ·have hjm:j∈ar8 ns ns.length:=u4.mpr ⟨u6.mpr (by omega),by rw[ao4 e];exact decide_eq_true q⟩
  have hs:(ar8 ns ns.length).Pairwise (·<·):=List.Pairwise.filter _ V7
  rw[h]at hs hjm
  rcases d3.mp hjm with r | r
  ·omega
  ·have:=(y9.mp hs).1 j r
   omega
 ·exact q
def bR3 (ns:List Int)(M:Nat):Wl->Prop
 | .below p=>(∃ x,ns[p]?=some x/\x<0)/\∀ (j:Nat) (x:Int),j<p->ns[j]?=some x->0<=x
 | .odd=>AllP ns/\ns.sum % 2=1
 | .wall r=>AllP ns/\¬ ns.sum % 2=1/\1<=r/\r<=ns.length/\ak4 ns M r<0/\∀ k,1<=k->k<r->0<=ak4 ns M k
 | .free=>AllP ns/\¬ ns.sum % 2=1/\∀ k,1<=k->k<=ns.length->0<=ak4 ns M k
theorem bH6 {x:Wl}(h:bR3 ns 1 x):S1 ns x:=by
 cases x with
 | below p=>exact h
 | odd=>exact h
 | wall r=>exact⟨h.1,h.2.1,h.2.2.1,h.2.2.2.1,by rw[<- aq3];exact h.2.2.2.2.1,fun k k1 k2=>by rw[<- aq3];exact h.2.2.2.2.2 k k1 k2⟩
 | free=>exact⟨h.1,h.2.1,fun k k1 k2=>by rw[<- aq3];exact h.2.2 k k1 k2⟩
end Web
namespace Web
open PySem L2
inductive Wz where
 | odd | below (z:Int) | wall (z:Int)
theorem aC5 (a b:Int):decide (V.int a=V.int b)=decide (a=b):=by
 by_cases h:a=b
 ·rw[h,decide_eq_true rfl,decide_eq_true rfl]
 ·rw[decide_eq_false h,decide_eq_false (fun z=>h (by injection z))]
end Web
namespace L2
open PySem PySem.Spec PyProof.Rows
def J3 (i:Int)(n:Nat):List Int:=(L8 0 n).map fun k:Nat=>i+(k:Int)
theorem aU8 (a:Int):∀ {vs:List Value} {n i:Nat},vs.length=n->(∀ j v,vs[j]?=some v->∃ t,v=Value.int (a+((i+j:Nat):Int)) t)->M7 vs ((L8 i n).map fun k:Nat=>a+(k:Int))
 | [],n,i,e,_=>by subst e;exact .nil
 | v::vs,0,i,e,_=>by cases e
 | v::vs,n+1,i,e,h=>by
  obtain⟨t,rfl⟩:=h 0 v rfl
  rw[ak7,i7]
  refine .cons _ t (aU8 a (by simpa using e) fun j v hv=>?_)
  obtain⟨t',e'⟩:=h (j+1) v (by simpa using hv)
  exact⟨t',by rw[e'];congr 2;omega⟩
def cd6 (ta:TA):TE:=fun σ H Q=>ta σ H fun vs H1=>∃ i j:Int,vs=[.int i,.int j]/\∀ r,H1 r=none->Q (.ref r) (upd H1 r (.rng i j))
theorem bJ4 {a b:Expr}{ta:TA}{p:Pos}(hg:Gl X "range")(hm:X.mg "range"=none)(ha:PA X [a,b] ta)(hs:A6 [a,b] X.env=[(false,eval a X.env),(false,eval b X.env)]:=by rfl)(hs2:A6 [b] X.env=[(false,eval b X.env)]:=by rfl) :
  PE X (.Call (.Name "range" p) [a,b] [] pos) (cd6 ta):=by
 intro pins s σ H Q I h
 refine Call_ (aa1 I hg hm bF4 (PyProof.Rows.callWith_type1 (thn (ha pos pins s σ H _ I h) fun us s1 ⟨vs,H1,I1,r1,q1⟩=>?_) (by rw[hs,hs2]) (by rw[hs2];rfl)))
 obtain⟨i,j,e,q⟩:=q1
 subst e
 cases r1 with
 | cons r rr =>
  cases rr with
  | cons r' rr =>
   cases rr
   obtain⟨t,rfl⟩:=r
   obtain⟨t',rfl⟩:=r'
   refine call_range_2 ?_
   have hf:H1 s1.heap.objs.size=none:=I1.hok.fresh (c5 _)
   exact⟨.ref s1.heap.objs.size,upd H1 s1.heap.objs.size (.rng i j),I1.laid (fun b o e=>a7 _ e) (c5 _) ⟨_,_,_,m7 _ rfl⟩,rfl,q _ hf⟩
theorem aF0 (hc:X.calm=true):X8 X (.type "list") (fun xs H Q=>∃ (r:Addr) (i j:Int) (n:Nat),xs=[.ref r]/\H r=some (.rng i j)/\j - i=n/\n<=1000 /\ -1000<=i/\i<=1000/\∀ l,H l=none->Q (.ref l) (upd H l (.lst ((J3 i n).map V.int)))):=by
 intro pins s σ H xs us Q I r h
 obtain⟨p,i,j,n,rfl,hq,hn,hn1,hi1,hi2,q⟩:=h
 obtain⟨u,rfl,rx⟩:=vals1 r
 cases rx
 obtain⟨t1,t2,t3,hr⟩:=I.hok p _ hq
 refine call_list_range (a:=i) (b:=j) (c:=1) (n:=n) (I.ok.hd hc) hr (small_one (by omega) (by omega) (by omega) (by omega)) (by rw[bG5];split<;>omega) (by omega) fun h' tk acc c' kp e hacc=>?_
 have hi:M7 acc.toList (J3 i n):=aU8 i (by rw[j8];exact hacc.1) fun k v hk=>by
  obtain⟨t',e⟩:=hacc.2 k v (by rw[<- c8];exact hk)
  exact⟨t',by rw[e];simp⟩
 have hl:(J3 i n).length=n:=by unfold J3;rw[a6,D9]
 exact⟨.ref s.heap.objs.size,_,I.laid (t':=tk) kp (c5 _) (show L9 X.prog X.w _ h' _ (.lst ((J3 i n).map V.int)) from ⟨by rw[a6,hl,C6];omega,acc.toList,c',aa8 hi,by rw[Y6];exact e⟩),rfl,q _ (I.hok.fresh (c5 _))⟩
theorem ad5 {lo:Int}{D:Addr}{g:TG}{tt:TT}{Qd:Hp->Prop}{σ0:St}{H0:Hp}(Pv:Nat->List V->St->Hp->Prop)(h0:Pv 0 [] σ0 H0)(hz:n<=f6)(hl:∀ i xs σ H,i<=n->Pv i xs σ H->H D=some (.lst xs)/\xs.length<=i)
  (hs:∀ i xs σ H (N:List V->St->Hp->Prop),(∀ xs' σ' H',Pv (i+1) xs' σ' H'->N xs' σ' H')->i<n->Pv i xs σ H->g (.int (lo+i)) σ H fun σ2 H2=>tt σ2 H2 fun b H3=>if b=true then te σ2 H3 fun v H4=>H4 D=some (.lst xs)/\N (xs++[v]) σ2 (upd H4 D (.lst (xs++[v]))) else N xs σ2 H3)
  (hd:∀ xs σ H,Pv n xs σ H->Qd H) :
  ∃ W:Nat->Nat->List V->St->Hp->Prop,(∃ m,W 0 m [] σ0 H0)/\∀ i m xs σ' H',W i m xs σ' H'->H' D=some (.lst xs)/\(((Itr lo n).stop i H'/\Qd H')\/((Itr lo n).go i H'/\xs.length<f6/\∀ x H'',(Itr lo n).yld i H' x H''->g x σ' H'' fun σ2 H2=>tt σ2 H2 fun b H3 =>
   if b=true then te σ2 H3 fun v H4=>H4 D=some (.lst xs)/\∃ m',m'<m/\W (i+1) m' (xs++[v]) σ2 (upd H4 D (.lst (xs++[v]))) else ∃ m',m'<m/\W (i+1) m' xs σ2 H3)):=by
 refine⟨fun i m xs σ H=>m=n - i/\i<=n/\Pv i xs σ H,⟨n,by simp,o5 _,h0⟩,?_⟩
 rintro i m xs σ H ⟨rfl,hi,p⟩
 obtain⟨hD,hx⟩:=hl i xs σ H hi p
 refine⟨hD,?_⟩
 by_cases hlt:i<n
 ·refine .inr ⟨hlt,by omega,fun x H'' y=>?_⟩
  obtain⟨e,y⟩:=y
  subst e y
  exact hs i xs σ _ (fun zs σ' H'=>∃ m',m'<n - i/\m'=n - (i+1)/\i+1<=n/\Pv (i+1) zs σ' H') (fun zs σ' H' r=>⟨_,by omega,rfl,hlt,r⟩) hlt p
 ·obtain rfl:i=n:=by omega
  exact .inl ⟨c5 _,hd xs σ H p⟩
end L2
set_option Elab.async false
set_option maxRecDepth 100000
namespace L2
open PySem PySem.Spec PyProof.Rows
section
variable (P:Program) (w:World)
end
section
variable {o:HO}
end
section
variable {x e:Addr} {o':HO}
end
section
variable {fs fs' ex ex':List Addr} {H1 H2:Hp} {h1 h2:Heap} {x e:Addr} {o:HO}
end
section
variable {σ:List (Option V)}
end
section
variable {a b:Expr} {tb:TE}
variable {tA tB':TT} {rest:List Expr}
end
section
variable {st:Stmt} {rest:List Stmt} {t u:TS}
end
section
variable {a b c:Expr} {tb tc:TE}
end
section
variable {a b c:Expr} {tb tc:TE}
end
section
variable {K:W.Frag} {x dx:Addr} {mA:Str->Option Value} {name:Str} {v:Value}
end
section
variable {dx:Addr} {fs fs':List (Str × V)}
end
section
variable {dx:Addr} {fs:List (Str × V)} {f:Str} {v:V}
end
section
variable {o value:Expr} {f:Str} {pos' tpos:Pos} {tv:TE}
end
section
variable {c:Value} {b:Bool}
end
section
variable {t:TA}
end
section
variable {s':Shared}
end
section
variable {CX:CXT} {k:Nat} {sp:Sp} {dvs:List V} {ds:List Value} {E:XK} {m:Str} {p apos:Pos} {o:Expr} {t:TA}
end
section
variable {CX:CXT} {k:Nat} {ks:List Str} {sp:Sp} {E:XK} {m:Str} {p apos kpos:Pos} {o:Expr} {kws:List aE2} {t tk:TA} {nm:Option Str}
variable {g:List Value->List Value->List Value}
end
section
variable {p:Pos} {t:TA} {id T:String} {r:List V->Hp->VK->Prop}
end
section
variable {κ:Type} [DecidableEq κ]
def W9 (kvs:List (κ × V))(k:κ):Option V:=(kvs.find? fun kv=>decide (kv.1=k)).map (·.2)
def putK (kvs:List (κ × V))(k:κ)(v:V):List (κ × V):=
 if (kvs.any fun kv=>decide (kv.1=k))=true then kvs.map (fun kv=>if kv.1=k then (kv.1,v) else kv) else kvs++[(k,v)]
theorem N9 {p:κ × V}{r:List (κ × V)}{k:κ}(e:p.1=k):W9 (p::r) k=some p.2:=by simp[W9,V1,e]
theorem O0 {p:κ × V}{r:List (κ × V)}{k:κ}(e:¬ p.1=k):W9 (p::r) k=W9 r k:=by simp[W9,V1,e]
theorem am4 (k:κ):∀ kvs:List (κ × V),(kvs.any fun kv=>decide (kv.1=k))=(W9 kvs k).isSome
 | []=>rfl
 | p::r=>by
  rw[V0]
  by_cases e:p.1=k
  ·simp only[N9 e,decide_eq_true e,Bool.true_or,Option.isSome_some]
  ·rw[O0 e,decide_eq_false e,aD7];exact am4 k r
theorem aQ1 (k j:κ)(y:V):∀ kvs:List (κ × V),W9 (kvs.map fun kv=>if kv.1=k then (kv.1,y) else kv) j=(W9 kvs j).map fun x=>if j=k then y else x
 | []=>rfl
 | p::r=>by
  have ih:=aQ1 k j y r
  rw[i7]
  by_cases h:p.1=k
  ·rw[if_pos h]
   by_cases e:p.1=j
   ·rw[N9 (p:=(p.1,y)) e,N9 e,aa5,if_pos (e.symm.trans h)]
   ·rw[O0 (p:=(p.1,y)) e,O0 e,ih]
  ·rw[if_neg h]
   by_cases e:p.1=j
   ·rw[N9 (p:=p) e,N9 e,aa5,if_neg (fun z=>h (e.trans z))]
   ·rw[O0 (p:=p) e,O0 e,ih]
theorem aF6 (k j:κ)(y:V):∀ kvs:List (κ × V),W9 kvs k=none->W9 (kvs++[(k,y)]) j=if j=k then some y else W9 kvs j
 | [],_=>by
  by_cases e:k=j
  ·rw[if_pos e.symm];exact N9 (p:=(k,y)) e
  ·rw[if_neg (fun z=>e z.symm)];exact O0 (p:=(k,y)) e
 | p::r,hn=>by
  rw[aO2]
  have hk:¬ p.1=k:=fun z=>by rw[N9 z]at hn;cases hn
  rw[O0 hk]at hn
  have ih:=aF6 k j y r hn
  by_cases e:p.1=j
  ·rw[N9 e,N9 e,if_neg (fun z=>hk (e.trans z))]
  ·rw[O0 e,O0 e,ih]
theorem aQ0 (kvs:List (κ × V))(k j:κ)(y:V):W9 (putK kvs k y) j=if j=k then some y else W9 kvs j:=by
 unfold putK
 by_cases a:(kvs.any fun kv=>decide (kv.1=k))=true
 ·rw[if_pos a,aQ1]
  rw[am4]at a
  by_cases e:j=k
  ·obtain⟨x,hx⟩:=v9.mp a
   rw[if_pos e,e,hx,aa5,if_pos rfl]
  ·rw[if_neg e]
   cases W9 kvs j with
   | none=>rfl
   | some x=>rw[aa5,if_neg e]
 ·rw[if_neg a]
  refine aF6 k j y kvs ?_
  rw[am4]at a
  cases q:W9 kvs k with
  | none=>rfl
  | some x=>rw[q]at a;exact(a rfl).elim
theorem ag6 (kvs:List (κ × V))(k:κ)(v:V):(putK kvs k v).length<=kvs.length+1:=by
 unfold putK
 split
 ·rw[a6];omega
 ·rw[j7,a9,ao9];omega
theorem aF2.isSome_eq {o:Option V}{u:Option Value}(r:aF2 o u):o.isSome=u.isSome:=by
 cases o with
 | none=>cases u with
  | none=>rfl
  | some _=>exact(show False from r).elim
 | some _=>cases u with
  | none=>exact(show False from r).elim
  | some _=>rfl
theorem KV.val {kvs:List (κ × V)}{vs:List (κ × Value)}(r:KV kvs vs)(k:κ):aF2 (W9 kvs k) (bn8 vs k):=by
 unfold KV at r
 induction r with
 | nil=>exact True.intro
 | @cons p q ps qs h t ih =>
  obtain⟨h1,h2⟩:=h
  by_cases e:p.1=k
  ·have e':q.1=k:=h1.symm.trans e
   have b:bn8 (q::qs) k=some q.2:=by simp[bn8,V1,e']
   rw[N9 e,b];exact h2
  ·have e':¬ q.1=k:=fun z=>e (h1.trans z)
   have b:bn8 (q::qs) k=bn8 qs k:=by simp[bn8,V1,e']
   rw[O0 e,b];exact ih
theorem KV.any {kvs:List (κ × V)}{vs:List (κ × Value)}(r:KV kvs vs)(k:κ):(kvs.any fun kv=>decide (kv.1=k))=vs.any fun kv=>decide (kv.1=k):=by
 unfold KV at r
 induction r with
 | nil=>rfl
 | cons h t ih=>rw[V0,V0,ih,h.1]
theorem KV.repl {kvs:List (κ × V)}{vs:List (κ × Value)}(r:KV kvs vs)(k:κ){y:V}(ry:RelV y u) :
  KV (kvs.map fun kv=>if kv.1=k then (kv.1,y) else kv) (vs.map fun kv=>if kv.1=k then (kv.1,u) else kv):=by
 unfold KV at r ⊢
 induction r with
 | nil=>exact .nil
 | @cons p q ps qs h t ih =>
  rw[i7,i7]
  refine .cons ?_ ih
  obtain⟨h1,h2⟩:=h
  by_cases e:p.1=k
  ·rw[if_pos e,if_pos (h1.symm.trans e)];exact⟨h1,ry⟩
  ·rw[if_neg e,if_neg (fun z=>e (h1.trans z))];exact⟨h1,h2⟩
theorem KV.put {kvs:List (κ × V)}{vs:List (κ × Value)}(r:KV kvs vs)(k:κ){y:V}(ry:RelV y u):KV (putK kvs k y) (stored vs k u):=by
 unfold putK stored
 rw[r.any k]
 by_cases e:(vs.any fun kv=>decide (kv.1=k))=true
 ·rw[if_pos e,if_pos e];exact r.repl k ry
 ·rw[if_neg e,if_neg e];exact Paired.snoc r ⟨rfl,ry⟩
theorem KV.length {kvs:List (κ × V)}{vs:List (κ × Value)}(r:KV kvs vs):kvs.length=vs.length:=Paired.length r
end
theorem bj3 {k:Key}(r:RelV (kV k) u):(N5 P w).is k u=true:=by
 cases k with
 | inl i=>obtain⟨t,e⟩:=(show ∃ t,u=Value.int i t from r);subst e;exact aT6 P w i t
 | inr x=>obtain⟨t,e⟩:=(show ∃ t,u=Value.str x t from r);subst e;exact aT5 P w x t
theorem aH4:∀ {ks:List Key} {us:List Value},C3 (ks.map kV) us->ItemsAre (N5 P w) ks us
 | [],_,r=>by rw[T4]at r;cases r;exact .nil
 | k::ks,_,r=>by
  rw[i7]at r
  cases r with
  | cons h t=>exact .cons (bj3 h) (aH4 t)
abbrev KT (H:Hp):List (List Key × V)->List (List Key × Addr × Value)->Prop:=Z8 fun p q=>p.1=q.1/\H q.2.1=some (.tup (p.1.map kV))/\RelV p.2 q.2.2
theorem KT.val {xs:List (List Key × Addr × Value)}(r:KT H kvs xs)(k:List Key):aF2 (W9 kvs k) ((cd1 xs k).map (·.2)):=by
 induction r with
 | nil=>exact True.intro
 | @cons p q ps qs h t ih =>
  obtain⟨h1,_,h2⟩:=h
  by_cases e:p.1=k
  ·have e':q.1=k:=h1.symm.trans e
   have b:cd1 (q::qs) k=some q.2:=by simp[cd1,V1,e']
   rw[N9 e,b];exact h2
  ·have e':¬ q.1=k:=fun z=>e (h1.trans z)
   have b:cd1 (q::qs) k=cd1 qs k:=by simp[cd1,V1,e']
   rw[O0 e,b];exact ih
theorem KT.repl {xs:List (List Key × Addr × Value)}(r:KT H kvs xs)(k:List Key){y:V}(ry:RelV y u) :
  KT H (kvs.map fun kv=>if kv.1=k then (kv.1,y) else kv) (xs.map (putAt k u)):=by
 induction r with
 | nil=>exact .nil
 | @cons p q ps qs h t ih =>
  rw[i7,i7]
  refine .cons ?_ ih
  obtain⟨h1,h2,h3⟩:=h
  unfold putAt
  by_cases e:p.1=k
  ·rw[if_pos e,if_pos (h1.symm.trans e)];exact⟨h1,h2,ry⟩
  ·rw[if_neg e,if_neg (fun z=>e (h1.trans z))];exact⟨h1,h2,h3⟩
theorem KT.put {xs:List (List Key × Addr × Value)}(r:KT H kvs xs)(k:List Key){b:Addr}{y:V}(hb:H b=some (.tup (k.map kV)))(ry:RelV y u) :
  KT H (putK kvs k y) (storedH xs k b u):=by
 have e:(kvs.any fun kv=>decide (kv.1=k))=(cd1 xs k).isSome:=by
  rw[am4,(r.val k).isSome_eq,bO4]
 unfold putK storedH
 rw[e]
 by_cases q:(cd1 xs k).isSome=true
 ·rw[if_pos q,if_pos q];exact r.repl k ry
 ·rw[if_neg q,if_neg q];exact Paired.snoc r ⟨rfl,hb,ry⟩
theorem KT.keeps {xs:List (List Key × Addr × Value)}(r:KT H kvs xs)(ht:∀ b ys,H b=some (.tup ys)->H' b=some (.tup ys)):KT H' kvs xs:=
 Paired.mapP r fun _ _ z=>⟨z.1,ht _ _ z.2.1,z.2.2⟩
theorem bQ4 {u:HO}(ok:HOk P w H h)(e:Rd H a u):L9 P w H h a u:=e.ok ok
theorem bk9 {kvs:List (Key × V)}(ok:HOk P w H h)(e:Rd H a (.dK kvs)):kvs.length<=f6/\(a == V2)=false/\∃ vs,KV kvs vs/\h.DictOf (N5 P w) a vs:=
 show L9 P w H h a (.dK kvs) from bQ4 ok e
theorem ci2 {kvs:List (Key × V)}(ok:HOk P w H h)(e:H a=some (.dK kvs)):kvs.length<=f6/\(a == V2)=false/\∃ vs,KV kvs vs/\h.DictOf (N5 P w) a vs:=bk9 ok (.inl e)
theorem aL9 {ks:List Key}(ok:HOk P w H h)(e:H a=some (.tup (ks.map kV))):(bm6 (N5 P w)).is h ks a:=by
 obtain⟨_,its,r,o,h1,h2,n,h3⟩:=(show L9 P w H h a (.tup (ks.map kV)) from ok a _ e)
 exact⟨o,its.toArray,n,h1,h2,h3,by simpa using aH4 r⟩
theorem bk8 (ok:HOk P w H h)(e:Rd H a (.dT kvs)):kvs.length<=f6/\(a == V2)=false /\
  ∃ xs,KT H kvs xs/\h.DictOfH (bm6 (N5 P w)) a xs:=by
 obtain⟨z,y,xs,r,o,es,ep,h1,h2,h3,h4,h5⟩:=(show L9 P w H h a (.dT kvs) from bQ4 ok e)
 refine⟨z,y,xs,r,o,es,ep,h1,h2,h3,h4,fun x hx=>?_,h5⟩
 have all:∀ {l:List (List Key × V)} {m:List (List Key × Addr × Value)},KT H l m->∀ x∈m,(bm6 (N5 P w)).is h x.1 x.2.1:=by
  intro l m q
  induction q with
  | nil=>intro x hx;exact nomatch hx
  | @cons p q ps qs hq t ih =>
   intro x hx
   rcases d3.mp hx with e | hx
   ·subst e
    exact aL9 ok (by rw[<- hq.1];exact hq.2.1)
   ·exact ih x hx
 exact all r x hx
theorem ci1 (ok:HOk P w H h)(e:H a=some (.dT kvs)):kvs.length<=f6/\(a == V2)=false /\
  ∃ xs,KT H kvs xs/\h.DictOfH (bm6 (N5 P w)) a xs:=bk8 ok (.inl e)
def aO0 (H:Hp)(a:Addr)(y:V)(r:Option V):Prop:=
 (∃ kvs k,Rd H a (.dK kvs)/\y=kV k/\r=W9 kvs k)\/∃ kvs k b,Rd H a (.dT kvs)/\y=.ref b/\H b=some (.tup (k.map kV))/\r=W9 kvs k
def bE9 (H:Hp)(a:Addr)(y v:V)(H':Hp):Prop:=
 (∃ kvs k,H a=some (.dK kvs)/\y=kV k/\kvs.length<f6/\H'=upd H a (.dK (putK kvs k v))) \/
 ∃ kvs k b,H a=some (.dT kvs)/\y=.ref b/\H b=some (.tup (k.map kV))/\kvs.length<f6/\H'=upd H a (.dT (putK kvs k v))
theorem aO0.t {b:Addr}{k:List Key}(e:H a=some (.dT kvs))(eb:H b=some (.tup (k.map kV))):aO0 H a (.ref b) (W9 kvs k):=.inr ⟨kvs,k,b,.inl e,rfl,eb,rfl⟩
theorem bE9.t {b:Addr}{k:List Key}{v:V}(e:H a=some (.dT kvs))(eb:H b=some (.tup (k.map kV)))(hl:kvs.length<f6) :
  bE9 H a (.ref b) v (upd H a (.dT (putK kvs k v))):=.inr ⟨kvs,k,b,e,rfl,eb,hl,rfl⟩
section
variable {y v:V} {r:Value} {o:Option V}
theorem Inv.big (I:Inv X pins σ H s):V2<s.heap.objs.size:=by
 have h:d4<s.heap.objs.size:=(I.mod.glob.keeps I.bk).lt
 exact bG1 (by decide) h
theorem br5 (hu:A.units+1<aj9)(I:Inv X pins σ H s)(g:aO0 H a y (some v))(ry:RelV y u)(h:∀ w' s',Inv X pins σ H s'->RelV v w'->Q w' s') :
  p9 (p7 X.prog X.w) A (bm7 (.ref a) u) Q E s:=by
 rcases g with⟨kvs,k,e,ey,l⟩ | ⟨kvs,k,b,e,ey,eb,l⟩
 ·subst ey
  obtain⟨z,hd,vs,rel,dd⟩:=bk9 I.hok e
  obtain⟨w',hw,rw'⟩:=aF2.some_of (v:=v) (o:=bn8 vs k) (by rw[l];exact rel.val k)
  exact wpAny_getItem_of (bj3 ry) dd.mapOf hw (h w' _ (I.tok _) rw')
 ·subst ey
  cases (show u=Value.ref b from ry)
  obtain⟨z,hd,xs,rel,dd⟩:=bk8 I.hok e
  obtain⟨w',hw,rw'⟩:=aF2.some_of (v:=v) (o:=(cd1 xs k).map (·.2)) (by rw[l];exact rel.val k)
  obtain⟨p,hp,hp2⟩:=Option.map_eq_some_iff.mp hw
  refine wpAny_getItem_heap (aJ3 hu) (aL9 I.hok eb) dd hp ?_
  rw[hp2]
  exact h w' _ (I.tok _) rw'
theorem bM6 (hu:A.units+1<aj9)(I:Inv X pins σ H s)(g:aO0 H a y o)(ry:RelV y u)(h:∀ s',Inv X pins σ H s'->Q (.bool (!o.isSome)) s') :
  p9 (p7 X.prog X.w) A (J6 .NotIn u (.ref a)) Q E s:=by
 rcases g with⟨kvs,k,e,ey,l⟩ | ⟨kvs,k,b,e,ey,eb,l⟩
 ·subst ey
  obtain⟨z,hd,vs,rel,dd⟩:=bk9 I.hok e
  refine wpAny_notIn_of (bj3 ry) hd dd.mapOf ?_
  rw[<- (rel.val k).isSome_eq,<- l]
  exact h _ (I.tok _)
 ·subst ey
  cases (show u=Value.ref b from ry)
  obtain⟨z,hd,xs,rel,dd⟩:=bk8 I.hok e
  refine wpAny_notIn_heap (aJ3 hu) (aL9 I.hok eb) hd dd ?_
  have q:=(rel.val k).isSome_eq
  rw[bO4]at q
  rw[<- q,<- l]
  exact h _ (I.tok _)
theorem bl4 {ob:HO}(I:Inv X pins σ H s)(mu:Mut (H a))(hs:Heap.SameBut a s.heap h')(he:∃ q,h'.get? a=some q)(new:L9 X.prog X.w (upd H a ob) h' a ob) :
  Inv X pins σ (upd H a ob) { s with heap:=h',toks:=t' }:=
 I.write (x:=a) (e:=a) mu (.inl rfl) (fun b q hb z=>(hs.2 b hb).trans z) he new
theorem bZ7 {kvs:List (Key × V)}{vs:List (Key × Value)}(z:kvs.length<=f6)(hd:(a == V2)=false)(rel:KV kvs vs)(dd:h'.DictOf (N5 P w) a vs) :
  L9 P w H' h' a (.dK kvs):=⟨z,hd,vs,rel,dd⟩
theorem br4 {Q:Unit->Shared->Prop}(hu:A.units+1<aj9)(I:Inv X pins σ H s)(g:bE9 H a y v H')(ry:RelV y u)(rv:RelV v r)(h:∀ s',Inv X pins σ H' s'->Q () s') :
  p9 (p7 X.prog X.w) A (setItem (.ref a) u r) Q E s:=by
 rcases g with⟨kvs,k,e,ey,l,eH⟩ | ⟨kvs,k,b,e,ey,eb,l,eH⟩
 ·subst ey eH
  obtain⟨z,hd,vs,rel,dd⟩:=ci2 I.hok e
  have hz:vs.length<=f6:=by rw[<- rel.length];exact z
  have hl:(putK kvs k v).length<=f6:=by have:=ag6 kvs k v;omega
  refine wpAny_setItem_pairs (hsz:=hz) (bj3 ry) dd fun h' dd' hs=>h _ ?_
  have he:∃ q,h'.get? a=some q:=let ⟨q,_,_,hq,_⟩:=dd';⟨q,hq⟩
  exact bl4 I (by rw[e];exact True.intro) hs he (bZ7 hl hd (rel.put k rv) dd')
 ·subst ey eH
  cases (show u=Value.ref b from ry)
  obtain⟨z,hd,xs,rel,dd⟩:=ci1 I.hok e
  have hz:xs.length<=f6:=by rw[<- Paired.length rel];exact z
  have hl:(putK kvs k v).length<=f6:=by have:=ag6 kvs k v;omega
  refine wpAny_setItem_heap (hsz:=hz) (aJ3 hu) (aL9 I.hok eb) dd fun h' dd' hs=>h _ ?_
  obtain⟨q,es,ep,hq,h2,h3,h4,_,h5⟩:=dd'
  refine bl4 I (by rw[e];exact True.intro) hs ⟨q,hq⟩ ⟨hl,hd,_,(rel.put k eb rv).keeps fun c ys ec=>?_,q,es,ep,hq,h2,h3,h4,h5⟩
  rw[p6 (bz2 ec e (fun z=>nomatch z))]
  exact ec
end
section
variable {kvs:List (Key × V)} {k:Key}
end
def ci9 (i:Expr):Prop:=∀ ov iv,bn1 i false ov iv=operate [ov,iv] (bm7 ov iv)
theorem bI5 {env:Env}{value slice:Expr}{T id:String}
  (hl:typeLookup (.type T) "__getitem__"=pure (some (.builtin id)))(hs:ci9 slice)
  (h:p9 (p7 prog w) A (eval value env) (fun o s₁=>p9 (p7 prog w) A (eval slice env) (fun i s₂=>s₂.TypeIs o T/\p9 (p7 prog w) A (bm7 o i) Q E s₂) E s₁) E s) :
  p9 (p7 prog w) A (eval (.Subscript value slice pos) env) Q E s:=by
 refine Subscript_ (E6 h (fun o s₁ h₁=>E6 h₁ (fun i s₂ h₂=>?_) fun _ _ x=>x) fun _ _ x=>x)
 obtain⟨hT,h₂⟩:=h₂
 unfold bG7
 refine a8 ?_
 rw[getitemInPython_of_ne hT.not_modules]
 refine a8 (wpAny_specialOf hT hl ?_)
 have fin:p9 (p7 prog w) A (bn1 slice false o i) (fun r s₃=>p9 (p7 prog w) A (letTemporaryGo value o r >>= fun _=>pure r) Q E s₃) E s₂:=by
  rw[hs o i]
  exact wpAny_operating (E6 h₂ (fun r s₃ h₃=>a8 (wpAny_letTemporaryGo (j9 h₃))) fun _ _ x=>x)
 first
  | exact j9 (a8 fin)
  | exact a8 (j9 (a8 fin))
  | exact a8 fin
theorem aW6 {y:V}{o:Option V}(I:Inv X pins σ H s)(g:aO0 H a y o):s.TypeIs (.ref a) "dict":=by
 rcases g with⟨kvs,k,e,_,_⟩ | ⟨kvs,k,b,e,_,_,_⟩
 ·obtain⟨_,_,vs,_,dd⟩:=bk9 I.hok e
  exact dd.typeIs
 ·obtain⟨_,_,xs,_,dd⟩:=bk8 I.hok e
  exact dd.typeIs
def ce1 (td ty:TE):TE:=fun σ H Q=>td σ H fun x H1=>ty σ H1 fun y H2=>∃ a v,x=.ref a/\aO0 H2 a y (some v)/\Q v H2
def bI3 (ty td:TE):TE:=fun σ H Q=>ty σ H fun y H1=>td σ H1 fun x H2=>∃ a o,x=.ref a/\aO0 H2 a y o/\Q (.bl (!o.isSome)) H2
def cg1 (td ty tv:TE):TS:=fun D σ H=>tv σ H fun v H1=>td σ H1 fun x H2=>ty σ H2 fun y H3=>∃ a H4,x=.ref a/\bE9 H3 a y v H4/\D.nx σ H4
section
variable {o i value:Expr} {pos' tpos:Pos} {td ty tv:TE}
theorem bJ5 (hu:X.A.units+1<aj9)(ho:PE X o td)(hi:PE X i ty)(hs:ci9 i):PE X (.Subscript o i pos) (ce1 td ty):=by
 intro pins s σ H Q I h
 refine bI5 PySem.F.slot_dict_getitem.lookup hs (thn (ho pins s σ H _ I h) fun u s1 ⟨x,H1,I1,rx,q1⟩=>thn (hi pins s1 σ H1 _ I1 q1) fun iv s2 ⟨y,H2,I2,ry,a,v,ex,g,q2⟩=>?_)
 subst ex
 obtain rfl:u=Value.ref a:=rx
 exact⟨aW6 I2 g,br5 hu I2 g ry fun w' s3 I3 rw'=>⟨v,H2,I3,rw',q2⟩⟩
theorem bp5 (hu:X.A.units+1<aj9)(hi:PE X i ty)(ho:PE X o td):PC X .NotIn i o (bI3 ty td):=by
 intro pins s σ H Q I h
 refine thn (hi pins s σ H _ I h) fun iv s1 ⟨y,H1,I1,ry,q1⟩=>thn (ho pins s1 σ H1 _ I1 q1) fun u s2 ⟨x,H2,I2,rx,a,ov,ex,g,q2⟩=>?_
 subst ex
 obtain rfl:u=Value.ref a:=rx
 exact bM6 hu I2 g ry fun s3 I3=>⟨.bl (!ov.isSome),H2,I3,rfl,q2⟩
theorem bJ2 (hu:X.A.units+1<aj9)(ho:PE X o td)(hi:PE X i ty)(hv:PE X value tv)(hs:bS1 value (some (.Subscript o i pos')) pos.line X.env=pure false) :
  PS X (.Assign [.Subscript o i pos'] value pos) (cg1 td ty tv):=by
 intro pins s σ H D I h
 refine wpAny_Assign_Subscript (thn (hv pins s σ H _ I h) fun r s1 ⟨v,H1,I1,rv,q1⟩=>thn (ho pins s1 σ H1 _ I1 q1) fun u s2 ⟨x,H2,I2,rx,q2⟩=>thn (hi pins s2 σ H2 _ I2 q2) fun iv s3 ⟨y,H3,I3,ry,a,H4,ex,g,q3⟩=>?_) hs
 subst ex
 obtain rfl:u=Value.ref a:=rx
 exact br4 hu I3 g ry rv fun s4 I4=>⟨σ,H4,I4,q3⟩
end
theorem bC2 (h:Heap)(hb:V2<h.objs.size):L9 P w H (h.push { cls:=.type "dict",data:=.dict #[] }) h.objs.size (.dT []) :=
 ⟨o5 _,beq_eq_false_iff_ne.mpr (Ne.symm (m8 hb)),[],.nil,_,#[],0,m7 _ rfl,⟨rfl,rfl,rfl⟩,rfl,rfl,be9⟩
def bU2:TE:=fun _ H Q=>∀ p,H p=none->Q (.ref p) (upd H p (.dT []))
theorem aS6:PE X (.Dict [] [] pos) bU2:=fun pins s σ H Q I h =>
 wpAny_Dict_empty ⟨.ref s.heap.objs.size,_,I.laid (a:=s.heap.objs.size) (o:=.dT []) (t':=s.toks) (fun _ _ q=>a7 _ q) (c5 _) (bC2 s.heap I.big),rfl,h _ (I.hok.fresh (c5 _))⟩
structure M1 (X:Cx) (o:Expr) (m:Str) (apos:Pos) (e:Expr) (cpos:Pos):Prop where
 base:bG8 o m X.env (eval o X.env)=eval o X.env
 few:((Z9 cpos (A6 [e] X.env)).all (fun x=>!x.1) && (bG6 cpos (aE3 [] X.env)).all (fun x=>x.1.isSome)
  && decide (([e]:List Expr).length+([]:List aE2).length+(if ([]:List aE2).isEmpty then 0 else 1)<30))=true
 line:(apos.endLine == cpos.line)=true
 trees:Z9 cpos (A6 [e] X.env)=[(false,eval e X.env)]
structure M2 (X:Cx) (o:Expr) (m:Str) (apos:Pos) (e f:Expr) (cpos:Pos):Prop where
 base:bG8 o m X.env (eval o X.env)=eval o X.env
 few:((Z9 cpos (A6 [e,f] X.env)).all (fun x=>!x.1) && (bG6 cpos (aE3 [] X.env)).all (fun x=>x.1.isSome)
  && decide (([e,f]:List Expr).length+([]:List aE2).length+(if ([]:List aE2).isEmpty then 0 else 1)<30))=true
 line:(apos.endLine == cpos.line)=true
 trees:Z9 cpos (A6 [e,f] X.env)=[(false,eval e X.env),(false,eval f X.env)]
section
variable {y d:V} {r:Value} {o:Option V}
end
section
variable {o f:Expr} {apos cpos:Pos} {td ty tx:TE}
end
section
variable {kvs:List (Key × V)}
end
section
variable {y:V}
end
end L2
namespace Att
open PySem PySem.W PySem.Calls PyProof.Rows
section
variable {K:Frag}
end
end Att
namespace L2
open PySem PySem.Spec PyProof.Rows
section
variable {K:W.Frag} {mg:Str->Option Value} {base:Heap}
end
section
variable {κ:Type} [DecidableEq κ]
end
end L2
namespace Tim
open PySem PyProof.Rows
section
variable {p:Array (Nat × Nat × Nat)} {O:aJ1} {f:Keyed->O.α}
end
end Tim
namespace L2
open PySem PySem.Spec PyProof.Rows
end L2
namespace Web
open L2
def chs:List Int->Int->List (List Int)
 | [],m=>if m=0 then [[]] else []
 | p::ps,m=>if m=0 then [[]] else (chs ps (m - 1)).map (p::·)++chs ps m
theorem ah0 (ps:List Int):chs ps 0=[[]]:=by cases ps<;>rfl
theorem aN0:∀ {ps:List Int} {m:Int},m<0->chs ps m=[]
 | [],m,h=>by unfold chs;rw[if_neg (by omega)]
 | p::ps,m,h=>by unfold chs;rw[if_neg (by omega),aN0 (by omega),aN0 h];rfl
theorem O4 (p:Int)(ps:List Int)(m:Int):chs (p::ps) m=(chs ps (m - 1)).map (p::·)++chs ps m:=by
 by_cases h:m=0
 ·subst h
  rw[ah0,aN0 (by decide),ah0];rfl
 ·show (if m=0 then _ else _)=_
  rw[if_neg h]
theorem ax5:∀ (ps:List Int) (m:Int),(chs ps m).length<=2 ^ ps.length
 | [],m=>by
  unfold chs
  split<;>decide
 | p::ps,m=>by
  rw[O4,j7,a6,a9,Nat.pow_succ]
  have h1:=ax5 ps (m - 1)
  have h2:=ax5 ps m
  omega
theorem ad7:∀ {ps:List Int} {m:Int} {E:List Int},E∈chs ps m->∀ x∈E,x∈ps
 | [],m,E,h,x,hx=>by
  unfold chs at h
  split at h
  ·rw[j6.mp h]at hx;exact absurd hx C8
  ·exact absurd h C8
 | p::ps,m,E,h,x,hx=>by
  rw[O4]at h
  rcases k7.mp h with h | h
  ·obtain⟨E',h1,rfl⟩:=k8.mp h
   rcases d3.mp hx with rfl | hx
   ·exact b9
   ·exact b8 _ (ad7 h1 x hx)
  ·exact b8 _ (ad7 h x hx)
theorem ab7:∀ {ps:List Int} {m:Int} {E:List Int},E∈chs ps m->(E.length:Int)=m
 | [],m,E,h=>by
  unfold chs at h
  split at h
  ·next e=>rw[j6.mp h,e];rfl
  ·exact absurd h C8
 | p::ps,m,E,h=>by
  rw[O4]at h
  rcases k7.mp h with h | h
  ·obtain⟨E',h1,rfl⟩:=k8.mp h
   have:=ab7 h1
   rw[a9]
   omega
  ·exact ab7 h
def acL (ps:List Int)(m:Int)(i:Nat):List (List Int):=(n8 i).flatMap fun j=>(chs (ps.drop (j+1)) (m - 1)).map (ps.getD j 0::·)
theorem aX8 (ps:List Int)(m:Int)(i:Nat):acL ps m (i+1)=acL ps m i++(chs (ps.drop (i+1)) (m - 1)).map (ps.getD i 0::·):=by
 unfold acL
 rw[E4,ac0,ah9,cc3,B3]
theorem bm1:∀ (ps:List Int) {m:Int},m≠0->acL ps m ps.length=chs ps m
 | [],m,h=>by unfold chs;rw[if_neg h];rfl
 | p::ps,m,h=>by
  rw[O4,<- bm1 ps h]
  unfold acL
  rw[a9,V8,ah9,List.flatMap_map]
  rfl
theorem bm0 (ps:List Int)(m:Int):∀ i,i<=ps.length->(acL ps m i).length<=i*2 ^ ps.length
 | 0,_=>by show 0<=_;exact o5 _
 | i+1,h=>by
  rw[aX8,j7,a6,Y1]
  have h1:=bm0 ps m i (by omega)
  have h2:=ax5 (ps.drop (i+1)) (m - 1)
  have h3:2 ^ (ps.drop (i+1)).length<=2 ^ ps.length:=at9 (by decide) (by rw[A8];omega)
  omega
def Ws (f:List Int->Nat):List Int->Int->Nat
 | [],a=>if a=0 then f [] else 0
 | x::c,a=>Ws (fun l=>f ((x - 1)::l)) c (a - 1)+Ws (fun l=>f (x::l)) c a
theorem be1:∀ {c:List Int} {f:List Int->Nat} {a:Int},a<0->Ws f c a=0
 | [],f,a,h=>by unfold Ws;rw[if_neg (by omega)]
 | x::c,f,a,h=>by unfold Ws;rw[be1 (by omega),be1 h]
theorem O5:∀ {c:List Int} {f g:List Int->Nat} {a:Int},(∀ l,l.length=c.length->f l=g l)->Ws f c a=Ws g c a
 | [],f,g,a,h=>by unfold Ws;rw[h [] rfl]
 | x::c,f,g,a,h=>by
  unfold Ws
  rw[O5 (c:=c) (f:=fun l=>f ((x - 1)::l)) (g:=fun l=>g ((x - 1)::l)) (fun l hl=>h _ (by rw[a9,a9,hl])),O5 (c:=c) (f:=fun l=>f (x::l)) (g:=fun l=>g (x::l)) (fun l hl=>h _ (by rw[a9,a9,hl]))]
theorem as1:∀ {c:List Int} {f g:List Int->Nat} {a:Int},Ws (fun l=>f l+g l) c a=Ws f c a+Ws g c a
 | [],f,g,a=>by unfold Ws;split<;>rfl
 | x::c,f,g,a=>by
  unfold Ws
  rw[as1 (c:=c) (f:=fun l=>f ((x - 1)::l)) (g:=fun l=>g ((x - 1)::l)),as1 (c:=c) (f:=fun l=>f (x::l)) (g:=fun l=>g (x::l))]
  omega
def PI (f:List Int->Nat):Prop:=∀ l m:List Int,l.Perm m->f l=f m
theorem PI.cons {f:List Int->Nat}(h:PI f)(x:Int):PI fun l=>f (x::l):=fun l m p=>h _ _ (p.cons x)
theorem bm2 {d:List Int}(p:c.Perm d):∀ {f:List Int->Nat},PI f->∀ a,Ws f c a=Ws f d a:=by
 induction p with
 | nil=>intro f _ a;rfl
 | cons x _ ih =>
  intro f h a
  unfold Ws
  rw[ih (h.cons _),ih (h.cons _)]
 | swap x y l =>
  intro f h a
  unfold Ws
  unfold Ws
  have sw:∀ u v:Int,(fun l=>f (u::v::l))=fun l=>f (v::u::l):=fun u v=>funext fun l=>h _ _ (List.Perm.swap v u l)
  rw[sw (y - 1) (x - 1),sw (y - 1) x,sw y (x - 1),sw y x]
  omega
 | trans _ _ h1 h2=>intro f h a;rw[h1 h,h2 h]
theorem ae0:∀ {c:List Int} {f:List Int->Nat} {a b:Int},Ws (fun l=>Ws f l b) c a=Ws (fun l=>Ws f l a) c b
 | [],f,a,b=>by
  unfold Ws
  unfold Ws
  split<;>split<;>rfl
 | x::c,f,a,b=>by
  show Ws (fun l=>Ws f ((x - 1)::l) b) c (a - 1)+Ws (fun l=>Ws f (x::l) b) c a=Ws (fun l=>Ws f ((x - 1)::l) a) c (b - 1)+Ws (fun l=>Ws f (x::l) a) c b
  have e:∀ (y:Int) (u:Int),(fun l=>Ws f (y::l) u)=fun l=>Ws (fun m=>f ((y - 1)::m)) l (u - 1)+Ws (fun m=>f (y::m)) l u:=fun y u=>rfl
  rw[e,e,e,e,as1,as1,as1,as1]
  rw[ae0 (c:=c) (f:=fun m=>f ((x - 1 - 1)::m)) (a:=a - 1) (b:=b - 1),ae0 (c:=c) (f:=fun m=>f ((x - 1)::m)) (a:=a - 1) (b:=b),ae0 (c:=c) (f:=fun m=>f ((x - 1)::m)) (a:=a) (b:=b - 1),ae0 (c:=c) (f:=fun m=>f (x::m)) (a:=a) (b:=b)]
  omega
def bZ9:Nat->List Int->Nat
 | 0,_=>1
 | n+1,[]=>1
 | n+1,a::c=>Ws (bZ9 n) c a
def cnt (d:List Int):Nat:=bZ9 d.length d
theorem cnt_cons (a:Int)(c:List Int):cnt (a::c)=Ws cnt c a:=by
 show Ws (bZ9 c.length) c a=_
 exact O5 fun l hl=>by unfold cnt;rw[hl]
theorem bR0 (a b:Int)(c:List Int):cnt (a::b::c)=Ws (fun l=>Ws cnt l (b - 1)) c (a - 1)+Ws (fun l=>Ws cnt l b) c a:=by
 rw[cnt_cons]
 show Ws (fun l=>cnt ((b - 1)::l)) c (a - 1)+Ws (fun l=>cnt (b::l)) c a=_
 rw[O5 (fun l _=>cnt_cons (b - 1) l),O5 (c:=c) (a:=a) (fun l _=>cnt_cons b l)]
theorem bD1:∀ (n:Nat) {c d:List Int},c.length=n->c.Perm d->cnt c=cnt d:=by
 intro n
 induction n with
 | zero =>
  intro c d h p
  have:c=[]:=D3.mp h
  subst this
  rw[List.nil_perm.mp p]
 | succ n ih =>
  have ihP:∀ {c d:List Int},c.length=n->c.Perm d->∀ a,cnt (a::c)=cnt (a::d):=fun {c d} hc p a=>by
   rw[cnt_cons,cnt_cons]
   have ext:∀ l m:List Int,l.Perm m->(fun l:List Int=>if l.length=n then cnt l else 0) l=(fun l:List Int=>if l.length=n then cnt l else 0) m:=fun l m q=>by
    show (if l.length=n then cnt l else 0)=if m.length=n then cnt m else 0
    by_cases h:l.length=n
    ·rw[if_pos h,if_pos (by rw[<- q.length_eq];exact h),ih h q]
    ·rw[if_neg h,if_neg (by rw[<- q.length_eq];exact h)]
   have e1:Ws cnt c a=Ws (fun l:List Int=>if l.length=n then cnt l else 0) c a:=O5 fun l hl=>by rw[if_pos (by rw[hl];exact hc)]
   have e2:Ws cnt d a=Ws (fun l:List Int=>if l.length=n then cnt l else 0) d a:=O5 fun l hl=>by rw[if_pos (by rw[hl,<- p.length_eq];exact hc)]
   rw[e1,e2]
   exact bm2 p ext a
  intro c d h p
  induction p with
  | nil=>rfl
  | cons x q _=>exact ihP (by rw[a9]at h;omega) q x
  | swap x y l =>
   rw[bR0,bR0,ae0 (b:=x - 1),ae0 (b:=x)]
  | trans p1 p2 h1 h2=>rw[h1 h,h2 (by rw[<- p1.length_eq];exact h)]
theorem ar7:PI cnt:=fun l m p=>bD1 l.length rfl p
def two (a b:Int)(c:List Int):Nat:=Ws (fun l=>cnt ((b - 1)::l)) c (a - 1)
theorem bH7 (a b:Int)(c:List Int):two a b c=two b a c:=by
 unfold two
 rw[O5 (fun l _=>cnt_cons (b - 1) l),O5 (c:=c) (a:=b - 1) (fun l _=>cnt_cons (a - 1) l),ae0]
theorem bT3 (a b:Int)(c:List Int):two a b c<=cnt (a::b::c):=by
 rw[cnt_cons]
 exact L7 _ _
theorem bt9 {a b:Int}{d:List Int}(p:c.Perm d):two a b c=two a b d:=bm2 p (ar7.cons _) _
def outs:List Int->List (Int × List Int)
 | []=>[]
 | x::c=>(x,c)::(outs c).map fun p=>(p.1,x::p.2)
theorem aG5:∀ {c:List Int} {p:Int × List Int},p∈outs c->(p.1::p.2).Perm c
 | x::c,p,h=>by
  rcases d3.mp h with rfl | h
  ·exact List.Perm.refl _
  ·obtain⟨q,hq,rfl⟩:=k8.mp h
   exact(List.Perm.swap _ _ _).trans ((aG5 hq).cons x)
theorem aJ7:∀ {c:List Int} {f:List Int->Nat} {a:Int},PI f->(((outs c).map fun p=>Ws (fun l=>f ((p.1 - 1)::l)) p.2 (a - 1)).sum:Nat)=a.toNat*Ws f c a
 | [],f,a,h=>by
  show 0=_
  unfold Ws
  split
  ·next e=>subst e;simp
  ·simp
 | x::c,f,a,h=>by
  have ih1:=aJ7 (c:=c) (f:=fun l=>f ((x - 1)::l)) (a:=a - 1) (h.cons _)
  have ih2:=aJ7 (c:=c) (f:=fun l=>f (x::l)) (a:=a) (h.cons _)
  have key:((outs c).map fun p=>Ws (fun l=>f ((p.1 - 1)::l)) (x::p.2) (a - 1)).sum=((outs c).map fun p=>Ws (fun l=>f ((x - 1)::(p.1 - 1)::l)) p.2 (a - 1 - 1)).sum+((outs c).map fun p=>Ws (fun l=>f (x::(p.1 - 1)::l)) p.2 (a - 1)).sum:=by
   generalize outs c=os
   induction os with
   | nil=>rfl
   | cons p os ih =>
    rw[i7,u7,i7,u7,i7,u7,ih]
    have e:Ws (fun l=>f ((p.1 - 1)::l)) (x::p.2) (a - 1)=Ws (fun l=>f ((x - 1)::(p.1 - 1)::l)) p.2 (a - 1 - 1)+Ws (fun l=>f (x::(p.1 - 1)::l)) p.2 (a - 1):=by
     show Ws (fun l=>f ((p.1 - 1)::(x - 1)::l)) p.2 (a - 1 - 1)+Ws (fun l=>f ((p.1 - 1)::x::l)) p.2 (a - 1)=_
     rw[O5 (fun l _=>h _ _ (List.Perm.swap (x - 1) (p.1 - 1) l)),O5 (c:=p.2) (a:=a - 1) (fun l _=>h _ _ (List.Perm.swap x (p.1 - 1) l))]
    rw[e]
    omega
  show (((x,c)::(outs c).map fun p=>(p.1,x::p.2)).map _).sum=_
  rw[i7,u7,C2]
  show Ws (fun l=>f ((x - 1)::l)) c (a - 1)+((outs c).map fun p=>Ws (fun l=>f ((p.1 - 1)::l)) (x::p.2) (a - 1)).sum=a.toNat*(Ws (fun l=>f ((x - 1)::l)) c (a - 1)+Ws (fun l=>f (x::l)) c a)
  rw[key,ih1,ih2,Nat.mul_add]
  rcases Int.lt_or_le 0 a with c1 | c1
  ·obtain⟨m,hm,hm1⟩:∃ m,a.toNat=m+1/\(a - 1).toNat=m:=⟨(a - 1).toNat,by omega,rfl⟩
   rw[hm,hm1,Y1 m (Ws (fun l=>f ((x - 1)::l)) c (a - 1))]
   omega
  ·rw[be1 (show a - 1<0 by omega)]
   simp
def M6 (s:Int)(E:List Int):List Int->List Int
 | []=>[]
 | x::c=>(if s∈E then x - 1 else x)::M6 (s+1) E c
theorem ab6 (E:List Int):∀ (s:Int) (c:List Int),(M6 s E c).length=c.length
 | _,[]=>rfl
 | s,x::c=>by show (M6 (s+1) E c).length+1=_;rw[ab6 E];rfl
theorem aq4 (s:Int)(n:Nat):J3 s (n+1)=s::J3 (s+1) n:=by
 unfold J3
 rw[ak7,i7]
 refine congr (congrArg List.cons (by omega)) ?_
 rw[<- List.map_add_range' (a:=1) 0 n,C2]
 refine o8 fun k _=>?_
 show s+((1+k:Nat):Int)=_
 omega
theorem bh5 {s x:Int}(h:x∈J3 s n):s<=x:=by
 unfold J3 at h
 obtain⟨k,_,rfl⟩:=k8.mp h
 omega
theorem ar5 {s p:Int}{E:List Int}:∀ {c:List Int} {s:Int},p<s->M6 s (p::E) c=M6 s E c
 | [],s,_=>rfl
 | x::c,s,h=>by
  show (if s∈p::E then x - 1 else x)::M6 (s+1) (p::E) c=_
  rw[ar5 (s:=s+1) (by omega)]
  have:(s∈p::E)↔s∈E:=⟨fun z=>(d3.mp z).resolve_left (by omega),b8 _⟩
  by_cases hs:s∈E
  ·rw[if_pos (this.mpr hs)]
   show _=(if s∈E then x - 1 else x)::_
   rw[if_pos hs]
  ·rw[if_neg fun z=>hs (this.mp z)]
   show _=(if s∈E then x - 1 else x)::_
   rw[if_neg hs]
theorem aj5:∀ {c:List Int} {f:List Int->Nat} {a s:Int},((chs (J3 s c.length) a).map fun E=>f (M6 s E c)).sum=Ws f c a
 | [],f,a,s=>by
  unfold Ws
  show ((chs [] a).map fun E=>f []).sum=_
  unfold chs
  split<;>rfl
 | x::c,f,a,s=>by
  rw[a9,aq4,O4,i9,K6,C2]
  unfold Ws
  rw[<- aj5 (c:=c) (f:=fun l=>f ((x - 1)::l)) (a:=a - 1) (s:=s+1),<- aj5 (c:=c) (f:=fun l=>f (x::l)) (a:=a) (s:=s+1)]
  congr 1
  ·refine congrArg bs8 (o8 fun E hE=>?_)
   show f ((if s∈s::E then x - 1 else x)::M6 (s+1) (s::E) c)=_
   rw[if_pos b9,ar5 (s:=s+1) (by omega)]
  ·refine congrArg bs8 (o8 fun E hE=>?_)
   show f ((if s∈E then x - 1 else x)::M6 (s+1) E c)=_
   rw[if_neg fun z=>by have:=bh5 (ad7 hE s z);omega]
theorem aX2 {b a s:Int}{f:List Int->Nat}:(((chs (J3 s (c.length+1)) a).filter fun E=>decide (s∈E)).map fun E=>f (M6 s E (b::c))).sum=Ws (fun l=>f ((b - 1)::l)) c (a - 1):=by
 rw[aq4,O4,B4,i9,K6]
 have h1:((chs (J3 (s+1) c.length) (a - 1)).map (s::·)).filter (fun E=>decide (s∈E))=(chs (J3 (s+1) c.length) (a - 1)).map (s::·):=av4.mpr fun E hE=>by
  obtain⟨E',_,rfl⟩:=k8.mp hE
  exact decide_eq_true b9
 have h2:(chs (J3 (s+1) c.length) a).filter (fun E=>decide (s∈E))=[]:=am1.mpr fun E hE z=>by
  have:=bh5 (ad7 hE s (of_decide_eq_true z))
  omega
 rw[h1,h2,C2,T4,ae8,ap1,<- aj5 (c:=c) (f:=fun l=>f ((b - 1)::l)) (a:=a - 1) (s:=s+1)]
 refine congrArg bs8 (o8 fun E hE=>?_)
 show f ((if s∈s::E then b - 1 else b)::M6 (s+1) (s::E) c)=_
 rw[if_pos b9,ar5 (s:=s+1) (by omega)]
theorem ao2 (E:List Int):∀ (c:List Int) (s:Int),M6 s E c=(n8 c.length).map fun i:Nat=>if s+(i:Int)∈E then c.getD i 0 - 1 else c.getD i 0
 | [],s=>rfl
 | x::c,s=>by
  rw[a9,V8,i7,C2]
  show (if s∈E then x - 1 else x)::M6 (s+1) E c=_
  rw[ao2 E c (s+1)]
  refine congr (congrArg List.cons ?_) (o8 fun i _=>?_)
  ·show _=if s+((0:Nat):Int)∈E then x - 1 else x
   rw[show s+((0:Nat):Int)=s by omega]
  ·show _=if s+((i+1:Nat):Int)∈E then c.getD i 0 - 1 else c.getD i 0
   rw[show s+((i+1:Nat):Int)=s+1+(i:Int) by omega]
theorem bz4 (a:Int)(c E:List Int):O2 (a::c) 0 E=M6 1 E c:=by
 unfold O2
 rw[a9,V8,D0 (by simp),ao2]
 have:(bR9 Nat.succ (n8 c.length)).filter (fun i=>decide (i≠0))=bR9 Nat.succ (n8 c.length):=av4.mpr fun i hi=>by
  obtain⟨j,_,rfl⟩:=k8.mp hi
  simp
 rw[this,C2]
 refine o8 fun i _=>?_
 show (if ((i+1:Nat):Int)∈E then c.getD i 0 - 1 else c.getD i 0)=_
 rw[show ((i+1:Nat):Int)=1+(i:Int) by omega]
end Web
namespace Web
open PySem L2
def top (i:Nat):Stmt:=PySem.Challenge.pw_tallyweb_k28_whole_pairs_counted.main.body.getD i (.Pass ⟨0,0,0,0⟩)
abbrev aE8:Stmt:=top 9
abbrev bo9:Stmt:=top 10
abbrev sUp:Stmt:=top 11
abbrev aG3:Stmt:=top 12
abbrev az1:Stmt:=top 13
abbrev aR9:Stmt:=top 14
abbrev az5:Stmt:=top 16
abbrev ba4:Stmt:=top 17
abbrev bw3:Stmt:=top 18
abbrev az4:Stmt:=top 20
abbrev aq0:Stmt:=top 21
abbrev ap9:Stmt:=top 22
abbrev ay9:Stmt:=top 23
abbrev az0:Stmt:=top 24
abbrev bo7:Stmt:=top 25
abbrev al4:Stmt:=top 27
abbrev az3:Stmt:=top 28
abbrev aG4:Stmt:=top 29
abbrev bp0:Stmt:=top 31
abbrev bo6:Stmt:=top 32
abbrev aR5:Stmt:=top 33
abbrev aR3:Stmt:=top 34
abbrev sPT:Stmt:=top 35
abbrev bo5:Stmt:=top 36
abbrev bw9:Stmt:=top 37
abbrev bw2:Stmt:=top 38
abbrev aR8:Stmt:=top 50
abbrev bw4:Stmt:=top 51
abbrev ap8:Stmt:=top 52
abbrev aR6:Stmt:=top 53
abbrev az2:Stmt:=top 55
abbrev ba5:Stmt:=top 56
abbrev bw7:Stmt:=top 41
abbrev bp1:Stmt:=top 42
abbrev bw8:Stmt:=top 43
abbrev sFE:Stmt:=top 44
abbrev bp2:Stmt:=top 45
abbrev bo8:Stmt:=top 46
abbrev bw6:Stmt:=top 47
abbrev bw5:Stmt:=top 48
abbrev aR4:Stmt:=top 54
structure Bn (mg:Str->Option Value):Prop where
 len:mg "len"=none
 range:mg "range"=none
 enum:mg "enumerate"=none
 list:mg "list"=none
 tuple:mg "tuple"=none
 sorted:mg "sorted"=none
 set:mg "set"=none
 isin:mg "isinstance"=none
 int:mg "int"=none
 bool:mg "bool"=none
 min:mg "min"=none
 max:mg "max"=none
 sum:mg "sum"=none
 str:mg "str"=none
 ve:mg "ValueError"=none
theorem J1:1000<=f6:=by decide
theorem d6 {o:HO}(h:H l=none):y7 H (upd H l o):=fun b u e=>by
 rw[p6 (t4 e h)]
 exact e
section
variable {K:W.Frag} {mg:Str->Option Value} {base:Heap}
def bv3:Sp:=fun vs H Q _=>∃ a b:Int,vs=[.int a,.int b]/\Q (.bl (decide (0<=b) && decide (b<a))) H
theorem cf1:r6 ["places","number"] ["places","number"] (m9 aE8):=.mk'
theorem by7 (F:Fun K "is_place" "is_place" aE8 f fd):o9 P w K mg base CX0 1 f fd ["places","number"] bv3:=by
 refine F.ok cf1 (fun cdv A outer s H vs Q E hr h=>?_)
 obtain⟨a,b,rfl,k⟩:=h
 refine⟨_,m5 (x8 (bx9 aA2 at4 m6 (pv 1) (pv 0))),?_⟩
 refine⟨_,rfl,_,_,rfl,rfl,_,rfl,?_⟩
 cases e:decide ((0:Int)<=b) with
 | true =>
  refine P7 ⟨_,rfl,_,_,rfl,rfl,?_⟩
  rw[e,Bool.true_and]at k
  exact k
 | false =>
  refine J8 ?_
  rw[e,Bool.false_and]at k
  exact k
def ce3 (K:W.Frag):Sp:=fun vs H Q _=>∃ (n:Nat) (a:Addr) (k:List Int),vs=[.int n,.ref a]/\SqT K H a (k.map V.int)/\ah5 n k /\
 ∀ p,H p=none->Q (.ref p) (upd H p (.tup ((up k).map V.int)))
theorem ck4:r6 ["places","tie"] ["places","tie"] (m9 sUp):=.mk'
theorem cg7 {fI:Addr} (F:Fun K "turned_up" "turned_up" sUp f fd) (B:Bn mg) (FI:Fq K mg "is_place" aE8 fI fdI ["places","number"]) :
  o9 P w K mg base CX0 2 f fd ["places","tie"] (ce3 K):=by
 have GI:o9 P w K mg base CX0 1 fI fdI ["places","number"] bv3:=by7 FI.F
 refine F.ok ck4 (fun cdv A outer s H vs Q E hr h=>?_)
 obtain⟨n,a,k,rfl,hS,⟨i,j,h1,h2,h3,rfl⟩,q⟩:=h
 refine⟨_,d9 (G8 (PW.pt (bh8 (ac8 (aK6 (aw3 GI hr rfl FI.m FI.F.kp FI.b .nil E7 (a5 (pv 0) (a5 (Q9 U1 (pv 1) m6 (fun _ _=>rfl)) c6)))))
    (ba9 (ac8 (aK6 (aw3 GI hr rfl FI.m FI.F.kp FI.b .nil E7 (a5 (pv 0) (a5 (Q9 U1 (pv 1) m6 (fun _ _=>rfl)) c6)))))))) K1 B8)
  (d9 (G8 (A4 Z1 (Q9 U1 (pv 1) m6 (fun _ _=>rfl)) (Q9 U1 (pv 1) m6 (fun _ _=>rfl)) (E1 _)) K1 B8)
  (m5 (x8 (L0 (a5 (A2 (aH9 rfl) (by rfl) B.min (by rfl) (a5 (Q9 U1 (pv 1) m6 (fun _ _ => rfl)) (a5 (Q9 U1 (pv 1) m6 (fun _ _ => rfl)) c6)))
   (a5 (A2 (aI0 rfl) (by rfl) B.max (by rfl) (a5 (Q9 U1 (pv 1) m6 (fun _ _=>rfl)) (a5 (Q9 U1 (pv 1) m6 (fun _ _=>rfl)) c6))) c6)))))),?_⟩
 have a0:atI (([(i:Int),(j:Int)]:List Int).map V.int) 0=some (.int i):=G3 (j:=0) rfl
 have a1:atI (([(i:Int),(j:Int)]:List Int).map V.int) 1=some (.int j):=G3 (j:=1) rfl
 refine⟨_,rfl,_,rfl,a,_,_,_,rfl,rfl,hS,a0,_,_,rfl,?_⟩
 rw[decide_eq_true (show (0:Int)<=i by omega),decide_eq_true (show (i:Int)<n by omega)]
 refine⟨_,rfl,J8 ?_⟩
 refine⟨_,rfl,_,rfl,a,_,_,_,rfl,rfl,hS,a1,_,_,rfl,?_⟩
 rw[decide_eq_true (show (0:Int)<=j by omega),decide_eq_true (show (j:Int)<n by omega)]
 refine⟨_,rfl,J8 ?_⟩
 refine⟨_,rfl,a,_,_,_,rfl,rfl,hS,a0,_,rfl,a,_,_,_,rfl,rfl,hS,a1,rfl,_,rfl,?_⟩
 rw[decide_eq_false (show ¬ V.int (i:Int)=V.int (j:Int) by intro z;injection z;omega)]
 refine J8 ?_
 refine⟨_,rfl,a,_,_,_,rfl,rfl,hS,a0,_,rfl,a,_,_,_,rfl,rfl,hS,a1,_,_,rfl,?_⟩
 refine⟨_,rfl,a,_,_,_,rfl,rfl,hS,a0,_,rfl,a,_,_,_,rfl,rfl,hS,a1,_,_,rfl,(by show 2<=f6;decide),fun p hp=>?_⟩
 exact q p hp
theorem cf5:r6 ["places","number"] ["places","number"] (m9 bo9):=.mk'
def bv6 (K:W.Frag):Sp:=fun vs H Q _=>∃ (a:Addr) (ns:List Int) (k:Nat),vs=[.ref a,.int k]/\SqL K H a (ns.map V.int)/\∀ r:Int,Q (.int r) H
theorem bV1:r6 ["script","k"] ["script","k"] (m9 aR8):=.mk'
theorem bK7 (F:Fun K "_law_cell_at" "_law_cell_at" aR8 f fd)(B:Bn mg):o9 P w K mg base CX0 1 f fd ["script","k"] (bv6 K):=by
 refine F.ok bV1 (fun cdv A outer s H vs Q E hr h=>?_)
 obtain⟨a,ns,k,rfl,hS,q⟩:=h
 refine⟨_,d9 (G8 (A4 at4 (pv 1) (A2 A7 (by rfl) B.len PySem.boot_len (a5 (pv 0) c6)) (E1 _)) (m5 (x8 (Q9 ad4 (pv 0) (pv 1) (fun _ _=>rfl)))) B8)
  (m5 (x8 m6)),?_⟩
 refine⟨_,rfl,_,rfl,a,_,rfl,.inl hS,_,_,rfl,rfl,_,rfl,?_⟩
 refine aU6 (fun h=>?_) (fun h=>?_)
 ·have hl:k<ns.length:=by
   have:=of_decide_eq_true h
   rw[a6]at this
   omega
  refine⟨_,rfl,_,rfl,a,_,_,_,rfl,rfl,hS,G3 (j:=k) (v:=.int ns[k]) (by simp[hl]),?_⟩
  exact q _
 ·exact q _
def M5 (ns:List Int):Prop:=1<=ns.length/\ns.length<=24
def Sq (K:W.Frag)(H:Hp)(a:Addr)(ns:List Int):Prop:=SqL K H a (ns.map V.int)\/SqT K H a (ns.map V.int)
theorem Sq.same (h:Sq K H a ns)(s:y7 H H'):Sq K H' a ns:=h.elim (fun h=>.inl (s.seq h)) fun h=>.inr (s.seqT h)
def aG0 (K:W.Frag)(CB:Addr):Sp:=fun vs H Q E=>∃ (a:Addr) (ns:List Int),vs=[.ref a]/\Sq K H a ns/\(M5 ns->Q .non H)/\(¬ M5 ns->E (.ref CB) none H)
theorem cf6:r6 ["tally"] ["tally"] (m9 az5):=.mk'
theorem aL2 {tk:Tok}(F:Fun K "check_tally" "check_tally" az5 f fd)(B:Bn mg)(mM:mg "MOST_PLACES"=some (.int 24 tk))(mB:mg "BadTally"=some (.ref CB))(cB:af2 K CB):o9 P w K mg base (CXE P w) 1 f fd ["tally"] (aG0 K CB):=by
 refine F.okX cf6 (fun cdv A outer s H vs Q E hr h=>?_)
 obtain⟨a,ns,rfl,hS,h1,h2⟩:=h
 refine⟨_,m5 (G8 (ac8 (az7 aA2 aA2 m6 (A2 A7 (by rfl) B.len PySem.boot_len (a5 (pv 0) c6)) (aw2 (v:=.int 24) (by rfl) mM ⟨tk,rfl⟩))) (m5 (ag3 (by rfl) mB cB)) B8),?_⟩
 refine⟨_,rfl,a,_,rfl,hS,_,_,rfl,rfl,_,rfl,?_⟩
 rw[a6]
 by_cases hp:(1:Int)<=(ns.length:Int)
 ·rw[decide_eq_true hp]
  refine P7 ⟨_,_,rfl,rfl,_,rfl,?_⟩
  by_cases hp':(ns.length:Int)<=24
  ·rw[decide_eq_true hp']
   exact J8 (h1 ⟨by omega,by omega⟩)
  ·rw[decide_eq_false hp']
   exact P7 (h2 fun z=>hp' (by have:=z.2;omega))
 ·rw[decide_eq_false hp]
  exact J8 ⟨_,rfl,P7 (h2 fun z=>hp (by have:=z.1;omega))⟩
end
section
variable {K:W.Frag} {mg:Str->Option Value} {base:Heap}
def aJ9 (K:W.Frag):Sp:=fun vs H Q _=>∃ (n:Nat) (a:Addr) (ys:List V) (hs:List (List Int)),vs=[.int n,.ref a]/\1<=n/\n<=24/\(SqL K H a ys\/SqT K H a ys)/\u5 K H ys hs/\(∀ k∈hs,ah5 n k)/\(hs.map up).Nodup/\hs.length<300 /\
 ∀ p t zs ks H',y7 H H'->H p=none->H t=none->H' p=some (.tup [.int n,.ref t])->H' t=some (.tup zs)->u5 K H' zs ks->ks.Perm (hs.map up)->ks.Pairwise (fun a b=>Tim.J5 b a=false)->Q (.ref p) H'
theorem ba3:r6 ["places","ties","ascending"] ["places","ties"] (m9 aG3):=.mk'
theorem bi4 {fI fU:Addr} {fdU:FuncData} {tk:Tok} (F:Fun K "made" "made" aG3 f fd) (B:Bn mg) (FI:Fq K mg "is_place" aE8 fI fdI ["places","number"])
  (FU:Fq K mg "turned_up" sUp fU fdU ["places","tie"]) (mM:mg "MOST_PLACES"=some (.int 24 tk)) :
  o9 P w K mg base CX0 3 f fd ["places","ties"] (aJ9 K):=by
 have GU:o9 P w K mg base CX0 2 fU fdU ["places","tie"] (ce3 K):=cg7 FU.F B FI
 refine F.ok ba3 (fun cdv A outer s H vs Q E hr h=>?_)
 obtain⟨n,a,ys,hs,rfl,n1,n2,hS,hT,hE,hN,hL,q⟩:=h
 have hu8:=aE1 (T5 (by decide:8<=64) _) hr.units
 have hyl:=hT.len
 have nd2:(["tie","places"]:List Str).Nodup:=by decide +kernel
 have step:∀ (D:Addr),H D=none->∀ (i:Nat) (xs:List V) (H':Hp) (x:V) (N:List V->Hp->Prop),y7 H H'->H' D=some (.lst xs)->u5 K H' xs ((hs.take i).map up)->ys[i]?=some x ->
   (∀ xs' H'',y7 H H''->H'' D=some (.lst xs')->u5 K H'' xs' ((hs.take (i+1)).map up)->N xs' H'') ->
   ∃ (m:Nat) (b:Addr) (k:List Int),[V.int n,x]=[.int m,.ref b]/\SqT K H' b (k.map V.int)/\ah5 m k/\∀ p,H' p=none->(upd H' p (.tup ((up k).map V.int))) D=some (.lst xs)/\N (xs++[.ref p]) (upd (upd H' p (.tup ((up k).map V.int))) D (.lst (xs++[.ref p]))):=by
  intro D hD i xs H' x N s1 hd ht hx k
  obtain⟨b,kk,rfl,hk,hq⟩:=hT.get hx
  refine⟨n,b,kk,rfl,s1.seqT hq,hE kk (d5 hk),fun p hp=>?_⟩
  have npd:D≠p:=t4 hd hp
  have hd':(upd H' p (.tup ((up kk).map V.int))) D=some (.lst xs):=by rw[p6 npd];exact hd
  refine⟨hd',k _ _ ((s1.trans (d6 hp)).upd hD) b7 ?_⟩
  have e:(hs.take (i+1)).map up=(hs.take i).map up++[up kk]:=by
   rw[o6,hk,i9]
   rfl
  rw[e]
  refine u5.updL hd' (u5.append (y7.tups (d6 hp) ht) (u5.one (SqT.of b7)))
 rcases hS with hS | hS
 ·refine⟨_,d9 (G8 (ac8 (az7 aA2 aA2 m6 (pv 0) (aw2 (v:=.int 24) rfl mM ⟨_,rfl⟩))) K1 B8)
   (d9 (B5 (i := 2) ba3.nd rfl (Or.inl rfl) (A2 at6 (by rfl) B.sorted (by rfl) (a5
    (N4 (N' := ["tie", "places"]) (lk := [none, some 0]) rfl (Q2 (pv 1)) (by rfl) rfl (by decide +kernel) (by exact ⟨rfl, trivial⟩) (by rfl) (by exact LkL.ok ⟨⟨rfl, Or.inl rfl, rfl, Or.inl rfl⟩, trivial⟩)
     (fun _ _ _=>B0 (i:=0) nd2 rfl (Or.inl rfl)) (fun _ _ _=>U4) (fun _ _ _=>v7 GU hr (by rfl) FU E7 (a5 (pv 1) (a5 (pv 0) c6)))) c6)))
   (d9 (G8 (A4 at4 (A2 call_len_set (by rfl) B.len PySem.boot_len (a5 (T9 (aX4 rfl hu8) (by rfl) B.set (by rfl) (a5 (pv 2) c6)) c6)) (A2 A7 (by rfl) B.len PySem.boot_len (a5 (pv 2) c6)) (E1 _)) K1 B8)
   (m5 (x8 (L0 (a5 (pv 0) (a5 (T9 aa3 (by rfl) B.tuple (by rfl) (a5 (pv 2) c6)) c6))))))),?_⟩
  refine⟨_,rfl,_,_,rfl,rfl,_,rfl,?_⟩
  rw[decide_eq_true (show (1:Int)<=n by omega)]
  refine P7 ⟨_,_,rfl,rfl,_,rfl,?_⟩
  rw[decide_eq_true (show (n:Int)<=24 by omega)]
  refine J8 ?_
  refine⟨_,rfl,a,rfl,⟨_,hS⟩,fun D hD=>N1 (K:=K) (a:=a) (D:=D) (ys:=ys) (fun i xs σ' H'=>∃ v,σ'=[v,some (.int n)]/\y7 H H'/\H' D=some (.lst xs)/\u5 K H' xs ((hs.take i).map up)) ⟨none,rfl,d6 hD,b7,.nil⟩ (by have:=J1;omega)
   (fun i xs σ' H' hi ⟨_,_,s1,h1,h2⟩=>⟨s1.seq hS,h1,by have:=h2.len;simp at this;omega⟩) ?_ ?_⟩
  ·rintro i xs x σ' H' N kN hx ⟨v,rfl,s1,h1,h2⟩
   refine B2 ?_
   refine P9 ?_
   refine⟨_,rfl,_,rfl,?_⟩
   exact step D hD i xs H' x (fun xs' H''=>N xs' _ H'') s1 h1 h2 hx fun xs' H'' a1 a2 a3=>kN _ _ _ ⟨_,rfl,a1,a2,a3⟩
  ·rintro xs σ' H1 ⟨v,rfl,s1,h1,h2⟩
   rw[i8 (by omega)]at h2
   have hup:∀ k∈hs.map up,Up n k:=fun k hk=>by
    obtain⟨k0,h0,rfl⟩:=k8.mp hk
    exact(hE k0 h0).up
   refine⟨D,xs,_,rfl,SqL.of h1,h2,(fun k hk z=>by have:=(hup k hk).len;rw[z]at this;cases this),fun l zs ks hl pk hs1 ht1=>?_⟩
   have hkl:ks.length=hs.length:=by rw[pk.length_eq,a6]
   have hzl:=ht1.len
   have s2:y7 H (upd H1 l (.lst zs)):=s1.trans (d6 hl)
   refine⟨_,rfl,l,zs,ks,rfl,SqL.of b7,ht1,(fun k hk=>(hup k (pk.mem_iff.mp hk)).key n2),by omega,fun S hSn=>?_⟩
   have hlS:l≠S:=t4 b7 hSn
   have s3:=s2.trans (d6 (o:=be2 P w S (ks.foldl Sett.W3 []).length) hSn)
   have l3:(upd (upd H1 l (.lst zs)) S (be2 P w S (ks.foldl Sett.W3 []).length)) l=some (.lst zs):=by rw[p6 hlS,b7]
   refine⟨S,_,rfl,b7,_,rfl,l,zs,rfl,.inl (SqL.of l3),_,_,rfl,rfl,_,rfl,?_⟩
   have hfold:(ks.foldl Sett.W3 []).length=zs.length:=by
    have:=(Sett.ar3 ks []).mpr ⟨(pk.nodup_iff).mpr hN,fun x _=>by simp⟩
    simp at this
    omega
   rw[hfold,decide_eq_false (by omega)]
   refine J8 ?_
   refine⟨_,rfl,_,rfl,l,zs,rfl,.inl ⟨SqL.of (by rw[hfold]at l3;exact l3),fun t ht=>⟨(by show 2<=f6;decide),fun p hp=>?_⟩⟩⟩
   rw[hfold]at s3
   have s4:=(s3.trans (d6 (o:=.tup zs) ht)).trans (d6 (o:=.tup [.int n,.ref t]) hp)
   refine q p t zs ks _ s4 ((s3.trans (d6 ht)).free hp) (s3.free ht) b7 ?_ ?_ pk hs1
   ·rw[p6 (t4 b7 hp),b7]
   ·exact y7.tups (((d6 hSn).trans (d6 ht)).trans (d6 hp)) ht1
 ·refine⟨_,d9 (G8 (ac8 (az7 aA2 aA2 m6 (pv 0) (aw2 (v:=.int 24) rfl mM ⟨_,rfl⟩))) K1 B8)
   (d9 (B5 (i := 2) ba3.nd rfl (Or.inl rfl) (A2 at6 (by rfl) B.sorted (by rfl) (a5
    (N4 (N' := ["tie", "places"]) (lk := [none, some 0]) rfl (bx4 (pv 1)) (by rfl) rfl (by decide +kernel) (by exact ⟨rfl, trivial⟩) (by rfl) (by exact LkL.ok ⟨⟨rfl, Or.inl rfl, rfl, Or.inl rfl⟩, trivial⟩)
     (fun _ _ _=>B0 (i:=0) nd2 rfl (Or.inl rfl)) (fun _ _ _=>U4) (fun _ _ _=>v7 GU hr (by rfl) FU E7 (a5 (pv 1) (a5 (pv 0) c6)))) c6)))
   (d9 (G8 (A4 at4 (A2 call_len_set (by rfl) B.len PySem.boot_len (a5 (T9 (aX4 rfl hu8) (by rfl) B.set (by rfl) (a5 (pv 2) c6)) c6)) (A2 A7 (by rfl) B.len PySem.boot_len (a5 (pv 2) c6)) (E1 _)) K1 B8)
   (m5 (x8 (L0 (a5 (pv 0) (a5 (T9 aa3 (by rfl) B.tuple (by rfl) (a5 (pv 2) c6)) c6))))))),?_⟩
  refine⟨_,rfl,_,_,rfl,rfl,_,rfl,?_⟩
  rw[decide_eq_true (show (1:Int)<=n by omega)]
  refine P7 ⟨_,_,rfl,rfl,_,rfl,?_⟩
  rw[decide_eq_true (show (n:Int)<=24 by omega)]
  refine J8 ?_
  refine⟨_,rfl,a,rfl,⟨_,hS⟩,fun D hD=>bC6 (K:=K) (a:=a) (D:=D) (ys:=ys) (fun i xs σ' H'=>∃ v,σ'=[v,some (.int n)]/\y7 H H'/\H' D=some (.lst xs)/\u5 K H' xs ((hs.take i).map up)) ⟨none,rfl,d6 hD,b7,.nil⟩ (by have:=J1;omega)
   (fun i xs σ' H' hi ⟨_,_,s1,h1,h2⟩=>⟨s1.seqT hS,h1,by have:=h2.len;simp at this;omega⟩) ?_ ?_⟩
  ·rintro i xs x σ' H' N kN hx ⟨v,rfl,s1,h1,h2⟩
   refine B2 ?_
   refine P9 ?_
   refine⟨_,rfl,_,rfl,?_⟩
   exact step D hD i xs H' x (fun xs' H''=>N xs' _ H'') s1 h1 h2 hx fun xs' H'' a1 a2 a3=>kN _ _ _ ⟨_,rfl,a1,a2,a3⟩
  ·rintro xs σ' H1 ⟨v,rfl,s1,h1,h2⟩
   rw[i8 (by omega)]at h2
   have hup:∀ k∈hs.map up,Up n k:=fun k hk=>by
    obtain⟨k0,h0,rfl⟩:=k8.mp hk
    exact(hE k0 h0).up
   refine⟨D,xs,_,rfl,SqL.of h1,h2,(fun k hk z=>by have:=(hup k hk).len;rw[z]at this;cases this),fun l zs ks hl pk hs1 ht1=>?_⟩
   have hkl:ks.length=hs.length:=by rw[pk.length_eq,a6]
   have hzl:=ht1.len
   have s2:y7 H (upd H1 l (.lst zs)):=s1.trans (d6 hl)
   refine⟨_,rfl,l,zs,ks,rfl,SqL.of b7,ht1,(fun k hk=>(hup k (pk.mem_iff.mp hk)).key n2),by omega,fun S hSn=>?_⟩
   have hlS:l≠S:=t4 b7 hSn
   have s3:=s2.trans (d6 (o:=be2 P w S (ks.foldl Sett.W3 []).length) hSn)
   have l3:(upd (upd H1 l (.lst zs)) S (be2 P w S (ks.foldl Sett.W3 []).length)) l=some (.lst zs):=by rw[p6 hlS,b7]
   refine⟨S,_,rfl,b7,_,rfl,l,zs,rfl,.inl (SqL.of l3),_,_,rfl,rfl,_,rfl,?_⟩
   have hfold:(ks.foldl Sett.W3 []).length=zs.length:=by
    have:=(Sett.ar3 ks []).mpr ⟨(pk.nodup_iff).mpr hN,fun x _=>by simp⟩
    simp at this
    omega
   rw[hfold,decide_eq_false (by omega)]
   refine J8 ?_
   refine⟨_,rfl,_,rfl,l,zs,rfl,.inl ⟨SqL.of (by rw[hfold]at l3;exact l3),fun t ht=>⟨(by show 2<=f6;decide),fun p hp=>?_⟩⟩⟩
   rw[hfold]at s3
   have s4:=(s3.trans (d6 (o:=.tup zs) ht)).trans (d6 (o:=.tup [.int n,.ref t]) hp)
   refine q p t zs ks _ s4 ((s3.trans (d6 ht)).free hp) (s3.free ht) b7 ?_ ?_ pk hs1
   ·rw[p6 (t4 b7 hp),b7]
   ·exact y7.tups (((d6 hSn).trans (d6 ht)).trans (d6 hp)) ht1
end
def ch0 (st:Stmt):Pos:=match (U6 st).getD 1 (.Pass ⟨0,0,0,0⟩) with
 | .Return (some (.Call _ _ [⟨_,.Lambda _ _ _ p,_⟩] _)) _=>p
 | _=>⟨0,0,0,0⟩
def ck9:Str:=(("order_of":Str)++(".<locals>.":Str))++("<lambda>":Str)
abbrev Tb (P:Addr)(H:Hp):Prop:=ak5 P (ch0 ba4) ck9 H
theorem E9.sqL {K:W.Frag}{P:Addr}(g:E9 P H H')(t:Tb P H)(h:SqL K H a xs):SqL K H' a xs:=by
 obtain⟨ps,hP,_⟩:=t
 rcases h with(h | ⟨o,h⟩) | h
 ·exact .inl (.inl (g a _ (fun z=>by rw[z,hP]at h;cases h) h))
 ·exact .inl (.inr ⟨o,g a _ (fun z=>by rw[z,hP]at h;cases h) h⟩)
 ·exact .inr h
theorem E9.sqT {K:W.Frag}{P:Addr}(g:E9 P H H')(t:Tb P H)(h:SqT K H a xs):SqT K H' a xs:=by
 obtain⟨ps,hP,_⟩:=t
 rcases h with(h | ⟨o,h⟩) | h
 ·exact .inl (.inl (g a _ (fun z=>by rw[z,hP]at h;cases h) h))
 ·exact .inl (.inr ⟨o,g a _ (fun z=>by rw[z,hP]at h;cases h) h⟩)
 ·exact .inr h
theorem Sq.grow {K:W.Frag}{P:Addr}(h:Sq K H a ns)(g:E9 P H H')(t:Tb P H):Sq K H' a ns:=h.elim (fun h=>.inl (E9.sqL g t h)) fun h=>.inr (E9.sqT g t h)
theorem aI6.one (h:X.N[j]?=some x/\(X.env.scope.names.lookup x=some .cell\/X.env.scope.names.lookup x=some .free)/\(cl.lookup x).isSome=true/\(scope.names.lookup x=some .cell\/scope.names.lookup x=some .free)) :
  aI6 X [x] [some j] scope cl:=⟨rfl,fun i j' y e1 e2=>by
 cases i with
 | zero =>
  have e1':x=y:=by simpa using e1
  have e2':j=j':=by simpa using e2
  subst e1' e2'
  exact h
 | succ i=>simp at e1⟩
theorem bb3 {a b:Expr}{tb:TE}(K:W.Frag)(hK:X.K=K)(ha:PE X a ta)(hb:PE X b tb)(hs:ax8 b):PE X (.Subscript a b pos) (tOp (rIx K) ta tb):=by
 cases hK
 exact Q9 bA4 ha hb hs
section
variable {K:W.Frag} {mg:Str->Option Value} {base:Heap}
def bP4 (K:W.Frag)(CB PT:Addr):Sp:=fun vs H Q E=>∃ (a:Addr) (ns:List Int),vs=[.ref a]/\Sq K H a ns /\
 (M5 ns->Tb PT H/\∀ (zs:List Int) (D:Addr) (H':Hp),E9 PT H H'->Tb PT H'->H' D=some (.lst (zs.map V.int))->zs.Perm (rng ns.length)->zs.Pairwise (ole ns)->Q (.ref D) H')/\(¬ M5 ns->E (.ref CB) none H)
theorem ce8:r6 ["tally"] ["tally"] (m9 ba4):=.mk'
theorem bW5 {fT c PT:Addr} {tk:Tok} (F:Fun K "order_of" "order_of" ba4 f fd) (hc:fd.code=.ref c) (LB:aD4 base mg c PT) (B:Bn mg) (FT:Fq K mg "check_tally" az5 fT fdT ["tally"])
  (mM:mg "MOST_PLACES"=some (.int 24 tk)) (mB:mg "BadTally"=some (.ref CB)) (cB:af2 K CB):o9 P w K mg base (CXE P w) 2 f fd ["tally"] (bP4 K CB PT):=by
 have GT:o9 P w K mg base (CXE P w) 1 fT fdT ["tally"] (aG0 K CB):=aL2 FT.F B mM mB cB
 refine F.okXC hc ce8 (fun A outer s H vs Q E hr h=>?_)
 obtain⟨a,ns,rfl,hS,h1,h2⟩:=h
 have hsl:=J1
 refine⟨_,d9 (K2 (v7 GT hr (by rfl) FT S6 (a5 (pv 0) c6)))
  (m5 (x8 (bx7 (p := "place") (N' := ["tally"]) (lk := [some 0]) rfl hr.depth (by rfl) B.sorted (a5 (bJ3 (by rfl) B.range (a5 (A2 A7 (by rfl) B.len PySem.boot_len (a5 (pv 0) c6)) c6)) c6)
   LB rfl (by rfl) (by rfl) rfl rfl rfl (by exact⟨rfl,trivial⟩) (by rfl) (by exact aI6.one ⟨rfl,Or.inl rfl,rfl,Or.inr rfl⟩) rfl (fun _ _ _ _=>rfl)
   (fun _ _ _ _=>L0 (a5 (bx5 aZ1 (bb3 K rfl (pv 1) (pv 0) (fun _ _=>rfl))) (a5 (pv 0) c6)))))),?_⟩
 refine⟨_,rfl,a,ns,rfl,hS,fun ht=>?_,h2⟩
 obtain⟨tb,q⟩:=h1 ht
 refine⟨_,rfl,a,_,rfl,hS,(ns.map V.int).length,rfl,by rw[a6];have:=ht.2;omega,fun r hr0=>?_⟩
 have s0:=d6 (o:=.rng 0 ((ns.map V.int).length:Int)) hr0
 have tb1:Tb PT (upd H r (.rng 0 ((ns.map V.int).length:Int))):=tb.same s0
 refine⟨r,(ns.map V.int).length,bq0 ns,rfl,b7,by rw[a6];have:=ht.2;omega,bJ9 ns,tb1,fun H2 g2 tb2=>⟨fun H3 z sm hz=>?_,fun H' D zs sm hD hp hs=>?_⟩⟩
 ·have hS3:Sq K H3 a ns:=((hS.same s0).grow g2 tb1).same sm
  rw[a6]at hz
  have hat:atI (ns.map V.int) (z:Int)=some (.int (ns.getD z 0)):=G3 (j:=z) (by simp[hz])
  have fin:∀ k,H3 k=none->(∃ k',(V.ref k:V)=.ref k'/\(upd H3 k (.tup [.int (-(ns.getD z 0)),.int z])) k'=some (.tup ((bq0 ns z).map V.int))/\y7 H3 (upd H3 k (.tup [.int (-(ns.getD z 0)),.int z]))):=fun k hk=>⟨k,rfl,b7,d6 hk⟩
  rcases hS3 with h3 | h3
  ·exact⟨_,rfl,_,rfl,.inl ⟨a,_,_,_,rfl,rfl,h3,hat,_,rfl,_,rfl,(by show 2<=f6;decide),fin⟩⟩
  ·exact⟨_,rfl,_,rfl,.inr (.inl ⟨a,_,_,_,rfl,rfl,h3,hat,_,rfl,_,rfl,(by show 2<=f6;decide),fin⟩)⟩
 ·have sD:=d6 (o:=.lst (zs.map V.int)) hD
  rw[a6]at hp
  exact q zs D _ (((s0.grow PT).trans g2).trans ((sm.trans sD).grow PT)) (tb2.same (sm.trans sD)) b7 hp hs
end
theorem aa2 (ns:List Int)(k:Nat):ao3 (ns.map V.int) (some (k:Int)) none=(ns.drop k).map V.int:=by rw[br7,bs6]
theorem at5 (ns:List Int)(k:Nat):ao3 (ns.map V.int) none (some (k:Int))=(ns.take k).map V.int:=by rw[bM7,bs7]
theorem Z5 {x:V}(h:(ns.map V.int)[i]?=some x):∃ z:Int,ns[i]?=some z/\x=V.int z:=by
 rw[q8]at h
 cases e:ns[i]? with
 | none=>rw[e]at h;cases h
 | some z=>rw[e]at h;cases h;exact⟨z,rfl,rfl⟩
theorem bd9 (h:j<ns.length):atI (ns.map V.int) (j:Int)=some (.int (ns.getD j 0)):=G3 (j:=j) (by simp[h])
theorem ao0 {K:W.Frag}{Q:VK}(h:Sq K H a ns)(hj:j<ns.length)(q:Q (.int (ns.getD j 0)) H):rIx K (.ref a) (.int j) H Q:=
 h.elim (fun h=>.inl ⟨a,_,_,_,rfl,rfl,h,bd9 hj,q⟩) fun h=>.inr (.inl ⟨a,_,_,_,rfl,rfl,h,bd9 hj,q⟩)
theorem Z0:as3 (CXE P w) X E0:=fun _ _ _ _ _ _ _ h=>by
 obtain⟨_,_,_,_,_,_,_,_,_,_,_,hE⟩:=h
 exact hE.elim
theorem bj1 (z:Int):(PyData.int z).canLay0=true:=by simp[PyData.canLay0]
theorem bl0 (z:Int):(PyData.int z).depth<=8:=by simp[PyData.depth]
theorem bk0 {K:W.Frag}{Q:VK}{es:List Int}{z:Int}(hun:A.units+64<aj9)(hl:SqL K H l (es.map V.int)\/SqT K H l (es.map V.int))(q:Q (.bl (decide (z∈es))) H):ba8 K A false (.int z) (.ref l) H Q:=by
 refine⟨l,_,.int z,es.map .int,rfl,hl,Dt.mkInt,F3.ints es,bj1 z,lay_ints es,aZ2 hun (p8 (bl0 z) (by decide)),?_⟩
 rw[aC3,if_neg j5]
 exact q
theorem aA4 {K:W.Frag}{Q:VK}{es:List Int}{z:Int}(hun:A.units+64<aj9)(hl:SqL K H l (es.map V.int)\/SqT K H l (es.map V.int))(q:Q (.bl (!decide (z∈es))) H):ba8 K A true (.int z) (.ref l) H Q:=by
 refine⟨l,_,.int z,es.map .int,rfl,hl,Dt.mkInt,F3.ints es,bj1 z,lay_ints es,aZ2 hun (p8 (bl0 z) (by decide)),?_⟩
 rw[aC3,if_pos rfl]
 exact q
def V5 (ps zs:List Int):List Int:=zs.filter fun x=>!decide (x∈ps)
theorem bp6 (p:Int)(zs:List Int):V5 [p] zs=rest zs p:=by
 unfold V5 rest
 congr 1
 funext x
 by_cases h:x=p<;>simp[h]
theorem br1 {PT:Addr}(g:E9 PT H H')(t:Tb PT H')(h:H' l=none):H l=none:=by
 cases e:H l with
 | none=>rfl
 | some o =>
  by_cases z:l=PT
  ·obtain⟨ps,hP,_⟩:=t
   rw[z,hP]at h
   cases h
  ·rw[g l o z e]at h
   cases h
section
variable {K:W.Frag} {mg:Str->Option Value} {base:Heap}
def ac5 (K:W.Frag)(PT:Addr):Sp:=fun vs H Q _=>∃ (a pa:Addr) (ns ps:List Int) (k:Nat),vs=[.ref a,.int k,.ref pa]/\Sq K H a ns/\M5 ns/\SqL K H pa (ps.map V.int)/\Tb PT H /\
 ∀ (zs:List Int) (D:Addr) (H':Hp),E9 PT H H'->Tb PT H'->H D=none->zs.Perm (rng ns.length)->zs.Pairwise (ole ns)->H' D=some (.lst (((V5 ps zs).take k).map V.int))->Q (.ref D) H'
theorem bI7:r6 ["tally","many","passed_over"] ["tally","many","passed_over"] (m9 al4):=.mk'
theorem aT2 {fO fT c PT:Addr} {fdO:FuncData} {tk:Tok} (F:Fun K "first_of_order" "first_of_order" al4 f fd) (B:Bn mg) (FO:Fq K mg "order_of" ba4 fO fdO ["tally"]) (hc:fdO.code=.ref c) (LB:aD4 base mg c PT)
  (FT:Fq K mg "check_tally" az5 fT fdT ["tally"]) (mM:mg "MOST_PLACES"=some (.int 24 tk)) (mB:mg "BadTally"=some (.ref CB)) (cB:af2 K CB):o9 P w K mg base (CXE P w) 3 f fd ["tally","many","passed_over"] (ac5 K PT):=by
 have GO:o9 P w K mg base (CXE P w) 2 fO fdO ["tally"] (bP4 K CB PT):=bW5 FO.F hc LB B FT mM mB cB
 refine F.okX bI7 (fun cdv A outer s H vs Q E hr h=>?_)
 obtain⟨a,pa,ns,ps,k,rfl,hS,ht,hpa,tb,q⟩:=h
 have hsl:=J1
 have hun:=hr.units
 have t2:=ht.2
 have nd2:(["place","passed_over"]:List Str).Nodup:=by decide +kernel
 refine⟨_,m5 (x8 (ab1 ai4 (N4 (N':=["place","passed_over"]) (lk:=[none,some 2]) rfl (Q2 (v7 GO hr (by rfl) FO (Z0 (P:=P) (w:=w)) (a5 (pv 0) c6))) (by rfl) rfl (by decide +kernel) (by exact⟨rfl,trivial⟩) (by rfl) (by exact LkL.ok ⟨⟨rfl,Or.inl rfl,rfl,Or.inl rfl⟩,trivial⟩)
  (fun _ _ _=>B0 (i:=0) nd2 rfl (Or.inl rfl)) (fun _ _ _=>ac7 (A4 (aA1 K hr.around rfl rfl) (pv 0) (pv 1) (by rfl))) (fun _ _ _=>pv 0)) an3 (ac9 (pv 1)))),?_⟩
 refine⟨_,rfl,a,ns,rfl,hS,fun _=>⟨tb,fun zs D1 H1 g1 tb1 gD hp hs=>⟨D1,rfl,⟨_,SqL.of gD⟩,fun D hD=>?_⟩⟩,fun h=>absurd ht h⟩
 have hzl:zs.length=ns.length:=by rw[hp.length_eq,Y8]
 have hpa1:=E9.sqL g1 tb hpa
 refine N1 (K:=K) (a:=D1) (D:=D) (ys:=zs.map V.int) (fun i xs σ' H'=>(∃ v,σ'=[v,some (.ref pa)])/\y7 H1 H'/\H' D=some (.lst xs)/\xs=(V5 ps (zs.take i)).map V.int) ⟨⟨none,rfl⟩,d6 hD,b7,rfl⟩ (by rw[a6];omega)
  (fun i xs σ' H' hi ⟨_, s6, h6, e6⟩ => ⟨SqL.of (s6 _ _ gD), h6, by
   rw[e6,a6]
   have:=E8 (fun x=>!decide (x∈ps)) (zs.take i)
   rw[n6]at this
   unfold V5
   omega⟩) ?_ ?_
 ·rintro i xs x σ' H' N kN hx ⟨⟨v,rfl⟩,s6,h6,rfl⟩
  obtain⟨z,hz,rfl⟩:=Z5 hx
  refine B2 ?_
  refine⟨_,rfl,_,rfl,aA4 hun (.inl (s6.seq hpa1)) ⟨_,rfl,?_⟩⟩
  have et:V5 ps (zs.take (i+1))=V5 ps (zs.take i)++V5 ps [z]:=by
   unfold V5
   rw[o6,hz,O9,B4]
  by_cases hm:z∈ps
  ·rw[decide_eq_true hm]
   refine J8 ?_
   refine kN _ _ _ ⟨⟨_,rfl⟩,s6,h6,?_⟩
   have e0:V5 ps [z]=[]:=by unfold V5;rw[D0 (by rw[decide_eq_true hm];decide)];rfl
   rw[et,e0,B3]
  ·rw[decide_eq_false hm]
   refine P7 ?_
   refine⟨_,rfl,h6,kN _ _ _ ⟨⟨_,rfl⟩,s6.upd hD,b7,?_⟩⟩
   have e0:V5 ps [z]=[z]:=by unfold V5;rw[C9 (by rw[decide_eq_false hm];decide)];rfl
   rw[et,e0,i9]
   rfl
 ·rintro xs σ' H3 ⟨⟨v,rfl⟩,s6,h6,rfl⟩
  rw[i8 (by rw[a6];exact c5 _)]at h6
  refine⟨_,rfl,_,rfl,D,_,rfl,SqL.of h6,fun l hl=>?_⟩
  rw[at5]
  have s7:=s6.trans (d6 (o:=.lst (((V5 ps zs).take k).map V.int)) hl)
  exact q zs l _ (g1.trans (s7.grow PT)) (tb1.same s7) (br1 (g1.trans (s6.grow PT)) (tb1.same s6) hl) hp hs b7
def aZ7 (K:W.Frag):Sp:=fun vs H Q _=>∃ (a ea:Addr) (ns es:List Int) (p:Nat),vs=[.ref a,.int p,.ref ea]/\Sq K H a ns/\ns.length<=24/\(SqL K H ea (es.map V.int)\/SqT K H ea (es.map V.int)) /\
 ∀ (l:Addr) (H':Hp),y7 H H'->H l=none->H' l=some (.lst ((O2 ns p es).map V.int))->Q (.ref l) H'
theorem bw0:r6 ["tally","place","ends","others"] ["tally","place","ends"] (m9 az3):=.mk'
theorem bA3 {z:Int}(h:z∈L5 n p):∃ j:Nat,z=(j:Int)/\j<n:=by
 obtain⟨j,hj,rfl⟩:=k8.mp h
 exact⟨j,rfl,u6.mp (u4.mp hj).1⟩
theorem bq7 (ns es:List Int)(p:Nat):(L5 ns.length p).map (fun z=>X5 ns es z.toNat)=O2 ns p es:=by
 unfold L5 O2
 rw[C2]
 refine o8 fun j _=>?_
 show X5 ns es (j:Int).toNat=_
 rw[j2]
set_option maxHeartbeats 1000000 in
theorem bi5 (F:Fun K "left_of_others" "left_of_others" az3 f fd) (B:Bn mg):o9 P w K mg base CX0 1 f fd ["tally","place","ends"] (aZ7 K):=by
 refine F.ok bw0 (fun cdv A outer s H vs Q E hr h=>?_)
 obtain⟨a,ea,ns,es,p,rfl,hS,hn,hea,q⟩:=h
 have hsl:=J1
 have hun:=hr.units
 have nd2:(["one","place"]:List Str).Nodup:=by decide +kernel
 have nd3:(["one","tally","ends"]:List Str).Nodup:=by decide +kernel
 refine⟨_,d9 (aK7 (i:=3) bw0.nd rfl rfl (by rfl) (N':=["one","place"]) (lk:=[none,some 1]) rfl (ab0 rfl B.range (a5 (A2 A7 (by rfl) B.len PySem.boot_len (a5 (pv 0) c6)) c6)) (by rfl) rfl (by decide +kernel) (by exact⟨rfl,trivial⟩) (by rfl) (by exact LkL.ok ⟨⟨rfl,Or.inl rfl,rfl,Or.inl rfl⟩,trivial⟩)
    (fun _ _ _=>B0 (i:=0) nd2 rfl (Or.inl rfl)) (fun _ _ _=>ac7 (A4 aS8 (pv 0) (pv 1) (E1 _))) (fun _ _ _=>pv 0))
  (m5 (x8 (N4 (N':=["one","tally","ends"]) (lk:=[none,some 0,some 2]) rfl (Q2 (pv 3)) (by rfl) rfl (by decide +kernel) (by exact⟨rfl,rfl,trivial⟩) (by rfl) (by exact LkL.ok ⟨⟨rfl,Or.inl rfl,rfl,Or.inl rfl⟩,⟨rfl,Or.inl rfl,rfl,Or.inl rfl⟩,trivial⟩)
    (fun _ _ _=>B0 (i:=0) nd3 rfl (Or.inl rfl)) (fun _ _ _=>U4) (fun _ _ _=>bx8 (A4 (bi3 K hr.around rfl rfl) (pv 0) (pv 2) (by rfl)) (C0 aq8 (Y9 K rfl (pv 1) (pv 0) (fun _ _=>rfl)) m6) (Y9 K rfl (pv 1) (pv 0) (fun _ _=>rfl)))))),?_⟩
 refine⟨_,rfl,a,_,rfl,hS,(ns.length:Int),congrArg (fun z:Nat=>[V.int (z:Int)]) (a6 ..),by omega,by omega,fun D hD=>?_⟩
 rw[j2]
 refine ad5 (lo:=0) (n:=ns.length) (D:=D) (fun i xs σ' H'=>(∃ v,σ'=[v,some (.int p)])/\y7 H H'/\H' D=some (.lst xs)/\xs=(L5 i p).map V.int) ⟨⟨none,rfl⟩,d6 hD,b7,rfl⟩ (by omega)
  (fun i xs σ' H' hi ⟨_, s6, h6, e6⟩ => ⟨h6, by
   rw[e6,a6]
   unfold L5
   rw[a6]
   have:=E8 (fun j=>decide (j≠p)) (n8 i)
   rw[C1]at this
   exact this⟩) ?_ ?_
 ·rintro i xs σ' H' N kN hi ⟨⟨v,rfl⟩,s6,h6,rfl⟩
  have e0:((0:Int)+(i:Int))=(i:Int):=by omega
  rw[e0]
  refine B2 ?_
  refine⟨_,rfl,_,rfl,rfl,_,rfl,?_⟩
  have et:L5 (i+1) p=L5 i p++(if i=p then [] else [(i:Int)]):=by
   unfold L5
   rw[E4,B4,i9]
   congr 1
   by_cases h:i=p<;>simp[h]
  by_cases hm:i=p
  ·refine bj5 (by rw[hm]) ?_
   refine kN _ _ _ ⟨⟨_,rfl⟩,s6,h6,?_⟩
   rw[et,if_pos hm,B3]
  ·rw[decide_eq_false (show ¬ (V.int (i:Int)=V.int (p:Int)) from fun z=>hm (by injection z;omega))]
   refine P7 ?_
   refine⟨_,rfl,h6,kN _ _ _ ⟨⟨_,rfl⟩,s6.upd hD,b7,?_⟩⟩
   rw[et,if_neg hm,i9]
   rfl
 ·rintro xs σ' H3 ⟨⟨v,rfl⟩,s6,h6,rfl⟩
  have hkl:(L5 ns.length p).length<=24:=by
   unfold L5
   rw[a6]
   have:=E8 (fun j=>decide (j≠p)) (n8 ns.length)
   rw[C1]at this
   omega
  refine⟨_,rfl,D,rfl,⟨_,SqL.of h6⟩,fun D2 hD2=>?_⟩
  have hS3:=hS.same s6
  have hea3:SqL K H3 ea (es.map V.int)\/SqT K H3 ea (es.map V.int):=hea.elim (fun h=>.inl (s6.seq h)) fun h=>.inr (s6.seqT h)
  refine N1 (K:=K) (a:=D) (D:=D2) (ys:=(L5 ns.length p).map V.int) (fun i xs σ' H'=>(∃ v,σ'=[v,some (.ref a),some (.ref ea)])/\y7 H3 H'/\H' D2=some (.lst xs)/\xs=(((L5 ns.length p).take i).map fun z=>X5 ns es z.toNat).map V.int) ⟨⟨none,rfl⟩,d6 hD2,b7,rfl⟩ (by rw[a6];omega)
   (fun i xs σ' H' hi ⟨_,s8,h8,e8⟩=>⟨SqL.of (s8 _ _ h6),h8,by rw[e8,a6,a6,n6];omega⟩) ?_ ?_
  ·rintro i xs x σ' H' N kN hx ⟨⟨v,rfl⟩,s8,h8,rfl⟩
   obtain⟨z,hz,rfl⟩:=Z5 hx
   obtain⟨j,rfl,hj⟩:=bA3 (d5 hz)
   refine B2 (P9 ?_)
   have fin:∀ y:Int,y=X5 ns es j->(H' D2=some (.lst ((((L5 ns.length p).take i).map fun z=>X5 ns es z.toNat).map V.int))/\N ((((L5 ns.length p).take i).map fun z=>X5 ns es z.toNat).map V.int++[.int y]) [some (.int j),some (.ref a),some (.ref ea)] (upd H' D2 (.lst ((((L5 ns.length p).take i).map fun z=>X5 ns es z.toNat).map V.int++[.int y])))):=fun y ey=>by
    refine⟨h8,kN _ _ _ ⟨⟨_,rfl⟩,s8.upd hD2,b7,?_⟩⟩
    rw[o6,hz,i9,i9,ey]
    rfl
   refine⟨_,rfl,_,rfl,bk0 hun (hea3.elim (fun h=>.inl (s8.seq h)) fun h=>.inr (s8.seqT h)) ⟨_,rfl,?_⟩⟩
   by_cases hm:(j:Int)∈es
   ·rw[decide_eq_true hm]
    refine P7 ⟨_,rfl,_,rfl,ao0 (hS3.same s8) hj ⟨_,_,rfl,rfl,fin _ ?_⟩⟩
    unfold X5
    rw[if_pos hm]
   ·rw[decide_eq_false hm]
    refine J8 ⟨_,rfl,_,rfl,ao0 (hS3.same s8) hj (fin _ ?_)⟩
    unfold X5
    rw[if_neg hm]
  ·rintro xs σ' H4 ⟨⟨v,rfl⟩,s8,h8,rfl⟩
   rw[i8 (by rw[a6];exact c5 _),bq7]at h8
   exact q D2 H4 (s6.trans s8) (s6.free hD2) h8
end
theorem p40:(0:Int)<10 ^ (Int.toNat 40):=Int.pow_pos (by decide)
theorem aR1 (ns:List Int)(j:Nat)(v:Int):(ns.map V.int).set j (.int v)=(ns.set j v).map V.int:=by rw[bF3]
section
variable {K:W.Frag} {mg:Str->Option Value} {base:Heap}
def aZ8 (K:W.Frag):Sp:=fun vs H Q _=>∃ (a:Addr) (ns:List Int),vs=[.ref a]/\Sq K H a ns/\ns.length<64/\∀ (l:Addr) (H':Hp),y7 H H'->H l=none->H' l=some (.lst ((up2 ns).reverse.map V.int))->Q (.ref l) H'
theorem bV0:r6 ["tally"] ["tally"] (m9 az4):=.mk'
theorem bi6 (F:Fun K "falling" "falling" az4 f fd)(B:Bn mg):o9 P w K mg base CX0 1 f fd ["tally"] (aZ8 K):=by
 refine F.ok bV0 (fun cdv A outer s H vs Q E hr h=>?_)
 obtain⟨a,ns,rfl,hS,h64,q⟩:=h
 refine⟨_,m5 (x8 (bx6 K rfl (by rfl) B.sorted (a5 (pv 0) c6))),?_⟩
 refine⟨_,rfl,a,ns,rfl,hS,h64,fun l zs hl hp hs=>?_⟩
 rw[bk6 hp hs]
 exact q l _ (d6 hl) hl b7
def bg7 (K:W.Frag):Sp:=fun vs H Q _=>∃ (a:Addr) (ns:List Int) (M r:Nat),vs=[.ref a,.int M,.int r]/\SqL K H a ((up2 ns).reverse.map V.int)/\M<=1000000/\r<=100/\ns.length<64/\∀ (H':Hp),y7 H H'->Q (.int (ak4 ns M r)) H'
theorem bh1:r6 ["numbers","most","r","from_others"] ["numbers","most","r"] (m9 aq0):=.mk'
theorem bz0 (F:Fun K "room_among" "room_among" aq0 f fd) (B:Bn mg):o9 P w K mg base CX0 1 f fd ["numbers","most","r"] (bg7 K):=by
 refine F.ok bh1 (fun cdv A outer s H vs Q E hr h=>?_)
 obtain⟨a,ns,M,r,rfl,hS,hM,hr1,h64,q⟩:=h
 have hsl:=J1
 have nd2:(["number","most","r"]:List Str).Nodup:=by decide +kernel
 have hlen:(up2 ns).reverse.length=ns.length:=by rw[bO5,av6]
 generalize hz:(up2 ns).reverse=zs at hS hlen
 refine⟨_,d9 (B5 (i:=3) bh1.nd rfl (Or.inl rfl) (A2 (ah1 rfl) (by rfl) B.sum (by rfl) (a5
   (N4 (N' := ["number", "most", "r"]) (lk := [none, some 1, some 2]) rfl (Q2 (ab1 ai4 (pv 0) (ac9 (pv 2)) an3)) (by rfl) rfl (by decide +kernel) (by exact ⟨rfl, rfl, trivial⟩) (by rfl) (by exact LkL.ok ⟨⟨rfl, Or.inl rfl, rfl, Or.inl rfl⟩, ⟨rfl, Or.inl rfl, rfl, Or.inl rfl⟩, trivial⟩)
    (fun _ _ _=>B0 (i:=0) nd2 rfl (Or.inl rfl)) (fun _ _ _=>U4) (fun _ _ _=>A2 (aH9 rfl) (by rfl) B.min (by rfl) (a5 (pv 0) (a5 (C0 ad3 (pv 1) (pv 2)) c6)))) c6)))
  (m5 (x8 (C0 aq8 (C0 X1 (C0 ad3 (C0 ad3 (pv 1) (pv 2)) (C0 aq8 (pv 2) m6)) (pv 3)) (A2 (ah1 rfl) (by rfl) B.sum (by rfl) (a5 (ab1 ai4 (pv 0) an3 (ac9 (pv 2))) c6))))),?_⟩
 refine⟨_,rfl,_,rfl,_,rfl,a,_,rfl,hS,fun c hc=>?_⟩
 rw[aa2]
 have s1:=d6 (o:=.lst ((zs.drop r).map V.int)) hc
 refine⟨c,rfl,⟨_,SqL.of b7⟩,fun D hD=>N1 (K:=K) (a:=c) (D:=D) (ys:=(zs.drop r).map V.int) (fun i xs σ' H'=>∃ v,σ'=[v,some (.int M),some (.int r)]/\y7 H H'/\H' c=some (.lst ((zs.drop r).map V.int))/\xs=(((zs.drop r).take i).map (mn ((M:Int)*(r:Int)))).map V.int/\H' D=some (.lst xs))
   ⟨none,rfl,s1.trans (d6 hD),d6 hD _ _ b7,by simp,b7⟩ (by rw[a6,A8];omega) (fun i xs σ' H' hi ⟨_,_,s3,g3,e3,h3⟩=>⟨SqL.of g3,h3,by rw[e3,a6,a6,n6,A8];omega⟩) ?_ ?_⟩
 ·rintro i xs x σ' H' N kN hx ⟨v,rfl,s3,g3,rfl,h3⟩
  obtain⟨z,hz',rfl⟩:=Z5 hx
  refine B2 (P9 ?_)
  refine⟨_,rfl,_,rfl,_,rfl,_,_,rfl,rfl,.inl ⟨by omega,by omega⟩,_,_,rfl,?_⟩
  refine⟨h3,kN _ _ _ ⟨_,rfl,s3.upd (s1.free hD),?_,?_,b7⟩⟩
  ·rw[p6 (t4 b7 hD)];exact g3
  ·rw[o6,hz',i9,i9];rfl
 ·rintro xs σ' H3 ⟨v,rfl,s3,g3,rfl,h3⟩
  rw[i8 (by rw[a6];exact c5 _)]at h3
  refine⟨D,_,rfl,SqL.of h3,?_⟩
  refine⟨_,rfl,_,rfl,_,_,rfl,rfl,.inl ⟨by omega,by omega⟩,_,rfl,_,_,rfl,rfl,_,_,rfl,rfl,.inr ⟨by omega,by omega⟩,_,rfl,_,_,rfl,rfl,?_⟩
  refine⟨_,rfl,_,rfl,_,rfl,a,_,rfl,s3.seq hS,fun c2 hc2=>?_⟩
  rw[at5]
  refine⟨c2,_,rfl,SqL.of b7,_,_,rfl,rfl,?_⟩
  have fin:=q _ (s3.trans (d6 (o:=.lst ((zs.take r).map V.int)) hc2))
  rw[<- aS1 (M:=M) (r:=r) hz.symm]at fin
  exact fin
end
def wlT:Wl->List V
 | .below p=>[.str "below",.int p]
 | .odd=>[.str "odd"]
 | .wall r=>[.str "wall",.int r]
 | .free=>[]
def ci4 (H:Hp)(v:V)(x:Wl):Prop:=(x=.free/\v=.non)\/(x≠.free/\∃ a,v=.ref a/\H a=some (.tup (wlT x)))
theorem bM0 {a b:Int}(h:decide (V.int a=V.int b)=true):a=b:=by
 have:=of_decide_eq_true h
 injection this
theorem bA6 {a b:Int}(h:¬ decide (V.int a=V.int b)=true):¬ a=b:=fun e=>h (by rw[e];exact decide_eq_true rfl)
section
variable {K:W.Frag} {mg:Str->Option Value} {base:Heap}
def bg5 (K:W.Frag):Sp:=fun vs H Q _=>∃ (a:Addr) (ns:List Int),vs=[.ref a]/\Sq K H a ns/\ns.length<=100/\∀ (l:Addr) (H':Hp),y7 H H'->H l=none->H' l=some (.lst ((ci3 ns).map V.int))->Q (.ref l) H'
theorem bI8:r6 ["numbers"] ["numbers"] (m9 ap9):=.mk'
theorem by8 (F:Fun K "places_below" "places_below" ap9 f fd)(B:Bn mg):o9 P w K mg base CX0 1 f fd ["numbers"] (bg5 K):=by
 refine F.ok bI8 (fun cdv A outer s H vs Q E hr h=>?_)
 obtain⟨a,ns,rfl,hS,hn,q⟩:=h
 have hsl:=J1
 have nd2:(["place","number"]:List Str).Nodup:=by decide +kernel
 refine⟨_,m5 (x8 (N4 (N':=["place","number"]) (lk:=[none,none]) rfl (bQ6 (an4 (by rfl) B.enum (a5 (pv 0) c6)) (aS4 (by rfl) B.enum (a5 (pv 0) c6))) (by rfl) rfl (by decide +kernel) (by exact trivial) (by rfl) (by exact LkL.ok trivial)
    (fun _ _ _=>bi0 (n:=2) K rfl rfl (K3 (B0 (i:=0) nd2 rfl (Or.inl rfl)) (K3 (B0 (i:=1) nd2 rfl (Or.inl rfl)) ad0))) (fun _ _ _=>ac7 (A4 at4 (pv 1) m6 (E1 _))) (fun _ _ _=>pv 0))),?_⟩
 refine Or.imp (fun h=>⟨_,rfl,h⟩) (fun h=>⟨_,rfl,h⟩) (aC7 (K:=K) (a:=a) (ys:=ns.map V.int) hS (by rw[a6];omega)
  (fun D i xs σ' H'=>(∃ v u,σ'=[v,u])/\y7 H H'/\H' D=some (.lst xs)/\xs=((ar8 ns i).map Int.ofNat).map V.int) (fun D hD=>⟨⟨none,none,rfl⟩,d6 hD,b7,rfl⟩)
  (fun D i xs σ' H' hD hi ⟨_,s1,h1,e1⟩=>⟨s1,h1,by rw[e1,a6,a6];exact bD7 ns i⟩) ?_ ?_)
 ·rintro D i xs x t σ' H' N hD kN hx ⟨⟨v,u,rfl⟩,s1,h1,rfl⟩ ht
  obtain⟨z,hz,rfl⟩:=Z5 hx
  have s2:=d6 (o:=.tup [.int i,.int z]) ht
  refine⟨t,_,rfl,SqT.of b7,rfl,_,_,rfl,_,_,rfl,rfl,?_⟩
  refine⟨_,rfl,_,_,rfl,rfl,_,rfl,?_⟩
  have e3:=bs3 ns i
  rw[ao4 hz]at e3
  by_cases hb:z<0
  ·rw[decide_eq_true hb]
   refine P7 ⟨_,rfl,s2 _ _ h1,kN _ _ _ ⟨⟨_,_,rfl⟩,(s1.trans s2).upd hD,b7,?_⟩⟩
   rw[e3,if_pos hb,i9,i9]
   rfl
  ·rw[decide_eq_false hb]
   refine J8 (kN _ _ _ ⟨⟨_,_,rfl⟩,s1.trans s2,s2 _ _ h1,?_⟩)
   rw[e3,if_neg hb,B3]
 ·rintro D xs σ' H' hD ⟨⟨v,u,rfl⟩,s1,h1,rfl⟩
  rw[a6]at h1
  exact q D H' s1 hD h1
def bf8 (K:W.Frag)(CB:Addr):Sp:=fun vs H Q E=>∃ (a:Addr) (ns:List Int) (M:Nat),vs=[.ref a,.int M]/\Sq K H a ns/\M<=1000000/\(M5 ns->∀ (v:V) (x:Wl) (H':Hp),y7 H H'->bR3 ns M x->ci4 H' v x->Q v H')/\(¬ M5 ns->E (.ref CB) none H)
theorem av8:r6 ["tally","most","below","numbers","r"] ["tally","most"] (m9 ay9):=.mk'
set_option maxHeartbeats 1000000 in
theorem by5 {fT fF fA fβ:Addr} {fdA fdβ:FuncData} {tk:Tok} (F:Fun K "wall_with" "wall_with" ay9 f fd) (B:Bn mg) (FT:Fq K mg "check_tally" az5 fT fdT ["tally"])
  (FF:Fq K mg "falling" az4 fF fdF ["tally"]) (FA:Fq K mg "room_among" aq0 fA fdA ["numbers","most","r"])
  (Fβ:Fq K mg "places_below" ap9 fβ fdβ ["numbers"])
  (mM:mg "MOST_PLACES"=some (.int 24 tk)) (mB:mg "BadTally"=some (.ref CB)) (cB:af2 K CB):o9 P w K mg base (CXE P w) 2 f fd ["tally","most"] (bf8 K CB):=by
 have GT:o9 P w K mg base (CXE P w) 1 fT fdT ["tally"] (aG0 K CB):=aL2 FT.F B mM mB cB
 have GF:o9 P w K mg base CX0 1 fF fdF ["tally"] (aZ8 K):=bi6 FF.F B
 have GA:o9 P w K mg base CX0 1 fA fdA ["numbers","most","r"] (bg7 K):=bz0 FA.F B
 have GL:o9 P w K mg base CX0 1 fβ fdβ ["numbers"] (bg5 K):=by8 Fβ.F B
 refine F.okX av8 (fun cdv A outer s H vs Q E hr h=>?_)
 obtain⟨a,ns,M,rfl,hS,hM,h1,h2⟩:=h
 have hsl:=J1
 refine⟨_,d9 (K2 (v7 GT hr (by rfl) FT S6 (a5 (pv 0) c6)))
   (d9 (B5 (i:=2) av8.nd rfl (Or.inl rfl) (v7 GL hr (by rfl) Fβ E7 (a5 (pv 0) c6)))
   (d9 (G8 (an2 (pv 2) (fun _=>rfl)) (m5 (x8 (L0 (a5 X0 (a5 (Q9 ad4 (pv 2) m6 (fun _ _=>rfl)) c6))))) B8)
   (d9 (G8 (A4 Z1 (C0 V4 (A2 (bs1 rfl) (by rfl) B.sum (by rfl) (a5 (pv 0) c6)) m6) m6 (E1 _)) (m5 (x8 (L0 (a5 X0 c6)))) B8)
   (d9 (B5 (i:=3) av8.nd rfl (Or.inl rfl) (v7 GF hr (by rfl) FF E7 (a5 (pv 0) c6)))
   (d9 (aa0 bx2 rfl (aq5 rfl B.range (a5 m6 (a5 (C0 X1 (A2 A7 (by rfl) B.len PySem.boot_len (a5 (pv 3) c6)) m6) c6))) (B0 (i := 4) av8.nd rfl (Or.inl rfl))
    (m5 (G8 (A4 at4 (v7 GA hr (by rfl) FA E7 (a5 (pv 3) (a5 (pv 1) (a5 (pv 4) c6)))) m6 (E1 _)) (m5 (x8 (L0 (a5 X0 (a5 (pv 4) c6))))) B8)))
   (m5 (x8 az8))))))),?_⟩
 refine⟨_,rfl,a,ns,rfl,hS,fun ht=>?_,h2⟩
 have t2:=ht.2
 refine⟨_,rfl,a,ns,rfl,hS,by omega,fun bl H1 s1 hbl g1=>?_⟩
 refine⟨_,rfl,_,.inl ⟨_,SqL.of g1,rfl⟩,?_⟩
 unfold ci3 at g1 ⊢
 cases hb:ar8 ns ns.length with
 | cons p ps =>
  rw[hb]at g1
  refine P7 ⟨_,rfl,bl,_,_,_,rfl,rfl,SqL.of g1,G3 (j:=0) rfl,(by show 2<=f6;decide),fun q hq=>?_⟩
  exact h1 ht _ (.below p) _ (s1.trans (d6 hq)) (bD6 hb) (.inr ⟨by simp,q,rfl,b7⟩)
 | nil =>
  have hall:AllP ns:=bN1 hb
  refine J8 ?_
  refine⟨_,rfl,a,ns,rfl,hS.same s1,_,_,rfl,rfl,(by show (0:Int)<2;decide),rfl,_,rfl,?_⟩
  refine aU6 (fun h=>?_) (fun h=>?_)
  ·exact⟨(by show 1<=f6;decide),fun p hp=>h1 ht _ .odd _ (s1.trans (d6 hp)) ⟨hall,bM0 h⟩ (.inr ⟨by simp,p,rfl,b7⟩)⟩
  ·have hev:=bA6 h
   refine⟨_,rfl,a,ns,rfl,hS.same s1,by omega,fun l H2 s2 hl g2=>?_⟩
   refine⟨_,rfl,l,_,rfl,.inl (SqL.of g2),_,_,rfl,rfl,1,((ns.length:Int)+1),by rw[a6,bO5,av6],⟨by omega,by omega,by omega,by omega⟩,?_⟩
   rw[show ((ns.length:Int)+1 - 1).toNat=ns.length by omega]
   refine aj3 (lo:=1) (n:=ns.length) (fun i σ H3=>∃ e4,σ=[some (.ref a),some (.int M),some (.ref bl),some (.ref l),e4]/\y7 H2 H3/\∀ k,1<=k->k<i+1->0<=ak4 ns M k) ⟨none,rfl,y7.refl H2,fun k k1 k2=>by omega⟩ ?_ ?_
   ·rintro i σ H3 hi ⟨e4,rfl,s3,hrm⟩
    have e0:((1:Int)+(i:Int))=((i+1:Nat):Int):=by omega
    rw[e0]
    refine B2 ?_
    refine⟨_,rfl,_,rfl,_,rfl,l,ns,M,i+1,rfl,SqL.of (s3 _ _ g2),hM,by omega,by omega,fun H4 s4=>⟨_,_,rfl,rfl,_,rfl,?_⟩⟩
    refine aU6 (fun h=>?_) (fun h=>?_)
    ·refine⟨_,rfl,(by show 2<=f6;decide),fun p hp=>?_⟩
     exact h1 ht _ (.wall (i+1)) _ ((((s1.trans s2).trans s3).trans s4).trans (d6 hp)) ⟨hall,hev,by omega,by omega,of_decide_eq_true h,hrm⟩ (.inr ⟨by simp,p,rfl,b7⟩)
    ·have h':¬ ak4 ns M (i+1)<0:=fun q=>h (decide_eq_true q)
     refine⟨_,rfl,s3.trans s4,fun k k1 k2=>?_⟩
     rcases E3 k (i+1) with l1 | l1
     ·exact hrm k k1 l1
     ·rw[show k=i+1 by omega];omega
   ·rintro σ H3 ⟨e4,rfl,s3,hrm⟩
    exact h1 ht _ .free _ ((s1.trans s2).trans s3) ⟨hall,hev,fun k k1 k2=>hrm k k1 (by omega)⟩ (.inl ⟨rfl,rfl⟩)
def ay5 (K:W.Frag)(CB:Addr):Sp:=fun vs H Q E=>∃ (a:Addr) (ns:List Int),vs=[.ref a]/\Sq K H a ns/\(M5 ns->∀ (v:V) (x:Wl) (H':Hp),y7 H H'->S1 ns x->ci4 H' v x->Q v H')/\(¬ M5 ns->E (.ref CB) none H)
theorem bU8:r6 ["tally"] ["tally"] (m9 az0):=.mk'
theorem bK3 {fω fT fF fA fβ:Addr}{fdω fdA fdβ:FuncData}{tk:Tok}(F:Fun K "wall_of" "wall_of" az0 f fd)(B:Bn mg)(FT:Fq K mg "check_tally" az5 fT fdT ["tally"])
  (FF:Fq K mg "falling" az4 fF fdF ["tally"])(FA:Fq K mg "room_among" aq0 fA fdA ["numbers","most","r"])
  (Fβ:Fq K mg "places_below" ap9 fβ fdβ ["numbers"])(Fω:Fq K mg "wall_with" ay9 fω fdω ["tally","most"])
  (mM:mg "MOST_PLACES"=some (.int 24 tk))(mB:mg "BadTally"=some (.ref CB))(cB:af2 K CB):o9 P w K mg base (CXE P w) 3 f fd ["tally"] (ay5 K CB):=by
 have GW:o9 P w K mg base (CXE P w) 2 fω fdω ["tally","most"] (bf8 K CB):=by5 Fω.F B FT FF FA Fβ mM mB cB
 refine F.okX bU8 (fun cdv A outer s H vs Q E hr h=>?_)
 obtain⟨a,ns,rfl,hS,h1,h2⟩:=h
 refine⟨_,m5 (x8 (v7 GW hr (by rfl) Fω S6 (a5 (pv 0) (a5 m6 c6)))),?_⟩
 exact⟨_,rfl,a,ns,1,rfl,hS,by decide,fun ht v x H' s' hx hv=>h1 ht v x H' s' (bH6 hx) hv,h2⟩
end
theorem L6 {PT:Addr}(g:E9 PT H H')(t:Tb PT H)(h:H l=some (.lst xs)):H' l=some (.lst xs):=by
 obtain⟨ps,hP,_⟩:=t
 exact g l _ (fun z=>by rw[z,hP]at h;cases h) h
theorem W7 {K:W.Frag}{PT:Addr}(g:E9 PT H H')(t:Tb PT H):∀ {zs:List V} {ks:List (List Int)},u5 K H zs ks->u5 K H' zs ks
 | _,_,.nil=>.nil
 | _,_,.cons ⟨a,e,h⟩ r=>.cons ⟨a,e,E9.sqT g t h⟩ (W7 g t r)
section
variable {K:W.Frag} {mg:Str->Option Value} {base:Heap}
noncomputable def aV5 (ns:List Int)(p:Nat)(es:List Int):List (List Int):=star p es++bz8 (ns.length - 1) (O2 ns p es) (L5 ns.length p)
def aK0 (K:W.Frag)(PT:Addr):Sp:=fun vs H Q _=>∃ (a ea:Addr) (ns es:List Int) (p:Nat),vs=[.ref a,.int p,.ref ea]/\Sq K H a ns/\M5 ns/\p<ns.length/\SqL K H ea (es.map V.int)/\es.Nodup/\es.length<=24/\(∀ z∈es,0<=z/\z<ns.length/\z≠p)/\(es.length:Int)=ns.getD p 0/\Gr (O2 ns p es)/\Tb PT H /\
 ∀ (r t:Addr) (zs:List V) (ks:List (List Int)) (H':Hp),E9 PT H H'->Tb PT H'->H' r=some (.tup [.int ns.length,.ref t])->H' t=some (.tup zs)->u5 K H' zs ks->ks.Perm ((aV5 ns p es).map up)->ks.Pairwise (fun a b=>Tim.J5 b a=false)->tal ns.length ks=ns->(∀ k∈ks,Up ns.length k)->ks.Nodup->Q (.ref r) H'
theorem ag2:r6 ["tally","place","ends","ties","places","left","chosen"] ["tally","place","ends"] (m9 aG4):=.mk'
set_option maxHeartbeats 2000000 in
theorem bK6 {fI fU fV fO fT fF fL c PT:Addr} {fdU fdV fdO:FuncData} {tk:Tok} (F:Fun K "laid_around" "laid_around" aG4 f fd) (B:Bn mg) (FI:Fq K mg "is_place" aE8 fI fdI ["places","number"])
    (FU:Fq K mg "turned_up" sUp fU fdU ["places","tie"]) (FV:Fq K mg "made" aG3 fV fdV ["places","ties"])
    (FO:Fq K mg "order_of" ba4 fO fdO ["tally"]) (hc:fdO.code=.ref c) (LB:aD4 base mg c PT)
    (FT:Fq K mg "check_tally" az5 fT fdT ["tally"]) (FF:Fq K mg "first_of_order" al4 fF fdF ["tally","many","passed_over"])
    (FL:Fq K mg "left_of_others" az3 fL fdL ["tally","place","ends"])
    (mM:mg "MOST_PLACES"=some (.int 24 tk)) (mB:mg "BadTally"=some (.ref CB)) (cB:af2 K CB):o9 P w K mg base CX0 4 f fd ["tally","place","ends"] (aK0 K PT):=by
  have GF:o9 P w K mg base (CXE P w) 3 fF fdF ["tally","many","passed_over"] (ac5 K PT):=aT2 FF.F B FO hc LB FT mM mB cB
  have GL:o9 P w K mg base CX0 3 fL fdL ["tally","place","ends"] (aZ7 K):=(bi5 FL.F B).mono (by decide)
  have GV:o9 P w K mg base CX0 3 fV fdV ["places","ties"] (aJ9 K):=bi4 FV.F B FI FU mM
  refine F.ok ag2 (fun cdv A outer s H vs Q E hr h=>?_)
  obtain⟨a,ea,ns,es,p,rfl,hS,ht,hp,hea,ne,hel,he,hn,hg,tb,q⟩:=h
  have hsl:=J1
  have t2:=ht.2
  have nd1:(["end","place"]:List Str).Nodup:=by decide +kernel
  have nd2:(["one","place"]:List Str).Nodup:=by decide +kernel
  have nd3:(["one","places"]:List Str).Nodup:=by decide +kernel
  refine⟨_,d9 (aK7 (i:=3) ag2.nd rfl rfl (by rfl) (N':=["end","place"]) (lk:=[none,some 1]) rfl (Q2 (pv 2)) (by rfl) rfl (by decide +kernel) (by exact⟨rfl,trivial⟩) (by rfl) (by exact LkL.ok ⟨⟨rfl,Or.inl rfl,rfl,Or.inl rfl⟩,trivial⟩)
        (fun _ _ _=>B0 (i:=0) nd1 rfl (Or.inl rfl)) (fun _ _ _=>U4) (fun _ _ _=>L0 (a5 (pv 1) (a5 (pv 0) c6))))
    (d9 (B5 (i:=4) ag2.nd rfl (Or.inr rfl) (N4 (N':=["one","place"]) (lk:=[none,some 1]) rfl (ab0 rfl B.range (a5 (A2 A7 (by rfl) B.len PySem.boot_len (a5 (pv 0) c6)) c6)) (by rfl) rfl (by decide +kernel) (by exact⟨rfl,trivial⟩) (by rfl) (by exact LkL.ok ⟨⟨rfl,Or.inl rfl,rfl,Or.inl rfl⟩,trivial⟩)
        (fun _ _ _=>B0 (i:=0) nd2 rfl (Or.inl rfl)) (fun _ _ _=>ac7 (A4 aS8 (pv 0) (pv 1) (E1 _))) (fun _ _ _=>pv 0)))
    (d9 (B5 (i:=5) ag2.nd rfl (Or.inl rfl) (v7 GL hr (by rfl) FL E7 (a5 (pv 0) (a5 (pv 1) (a5 (pv 2) c6)))))
    (d9 (bx1 PassesOwn.never (an2 (pv 5) (fun _=>rfl))
      (d9 (B5 (i:=6) ag2.nd rfl (Or.inl rfl) (v7 GF hr (by rfl) FF (Z0 (P:=P) (w:=w)) (a5 (pv 5) (a5 (Q9 ad4 (pv 5) m6 (fun _ _=>rfl)) (a5 (P6 (a5 m6 c6)) c6)))))
      (d9 (bb2 (i:=3) ag2.nd rfl (Or.inl rfl) (N4 (N':=["one","places"]) (lk:=[none,some 4]) rfl (Q2 (pv 6)) (by rfl) rfl (by decide +kernel) (by exact⟨rfl,trivial⟩) (by rfl) (by exact LkL.ok ⟨⟨rfl,Or.inl rfl,rfl,Or.inl rfl⟩,trivial⟩)
          (fun _ _ _=>B0 (i:=0) nd3 rfl (Or.inl rfl)) (fun _ _ _=>U4) (fun _ _ _=>L0 (a5 (Y9 K rfl (pv 1) m6 (fun _ _=>rfl)) (a5 (Y9 K rfl (pv 1) (pv 0) (fun _ _=>rfl)) c6)))) bc3)
      (d9 (B5 (i:=5) ag2.nd rfl (Or.inl rfl) (v7 GL hr (by rfl) FL E7 (a5 (pv 5) (a5 m6 (a5 (pv 6) c6)))))
      (m5 (B5 (i:=4) ag2.nd rfl (Or.inr rfl) (ab1 ai4 (pv 4) (ac9 m6) an3)))))))
    (m5 (x8 (v7 GV hr (by rfl) FV E7 (a5 (A2 A7 (by rfl) B.len PySem.boot_len (a5 (pv 0) c6)) (a5 (pv 3) c6)))))))),?_⟩
  have hun:=hr.units
  refine⟨_,rfl,ea,rfl,⟨_,hea⟩,fun D hD=>N1 (K:=K) (a:=ea) (D:=D) (ys:=es.map V.int) (fun i xs σ' H'=>(∃ v,σ'=[v,some (.int p)])/\y7 H H'/\H' D=some (.lst xs)/\u5 K H' xs (star p (es.take i)))
    ⟨⟨none, rfl⟩, d6 hD, b7, .nil⟩ (by rw [a6]; omega) (fun i xs σ' H' hi ⟨_, s6, h6, t6⟩ => ⟨s6.seq hea, h6, by
      have h7:=t6.len
      unfold star at h7
      rw[a6,n6]at h7
      omega⟩) ?_ ?_⟩
  · rintro i xs x σ' H' N kN hx ⟨⟨v,rfl⟩,s6,h6,t6⟩
    obtain⟨z,hz,rfl⟩:=Z5 hx
    refine B2 (P9 ?_)
    refine⟨_,rfl,_,rfl,(by show 2<=f6;decide),fun t ft=>?_⟩
    have st:=d6 (o:=.tup [.int (p:Int),.int z]) ft
    have h6':=st _ _ h6
    refine⟨h6',kN _ _ _ ⟨⟨_,rfl⟩,(s6.trans st).upd hD,b7,?_⟩⟩
    have et:star p (es.take (i+1))=star p (es.take i)++[[(p:Int),z]]:=by
      unfold star
      rw[o6,hz,i9]
      rfl
    rw[et]
    refine u5.updL h6' (u5.append (st.tups t6) (u5.one (SqT.of ?_)))
    exact b7
  · rintro xs σ' H1 ⟨⟨v,rfl⟩,s1,h1,t1⟩
    rw[i8 (by rw[a6];exact c5 _)]at t1
    have hS1:=hS.same s1
    refine⟨_,rfl,a,_,rfl,hS1,(ns.length:Int),congrArg (fun z:Nat=>[V.int (z:Int)]) (a6 ..),by omega,by omega,fun D2 hD2=>?_⟩
    rw[j2]
    refine ad5 (lo:=0) (n:=ns.length) (D:=D2) (fun i xs σ' H'=>(∃ v,σ'=[v,some (.int p)])/\y7 H1 H'/\H' D2=some (.lst xs)/\xs=(L5 i p).map V.int) ⟨⟨none,rfl⟩,d6 hD2,b7,rfl⟩ (by omega)
      (fun i xs σ' H' hi ⟨_,s6,h6,e6⟩=>⟨h6,by
        rw[e6,a6]
        unfold L5
        rw[a6]
        have:=E8 (fun j=>decide (j≠p)) (n8 i)
        rw[C1]at this
        exact this⟩) ?_ ?_
    · rintro i xs σ' H' N kN hi ⟨⟨v,rfl⟩,s6,h6,rfl⟩
      have e0:((0:Int)+(i:Int))=(i:Int):=by omega
      rw[e0]
      refine B2 ?_
      refine⟨_,rfl,_,rfl,rfl,_,rfl,?_⟩
      have et:L5 (i+1) p=L5 i p++(if i=p then [] else [(i:Int)]):=by
        unfold L5
        rw[E4,B4,i9]
        congr 1
        by_cases h:i=p<;>simp[h]
      by_cases hm:i=p
      · refine bj5 (by rw[hm]) ?_
        refine kN _ _ _ ⟨⟨_,rfl⟩,s6,h6,?_⟩
        rw[et,if_pos hm,B3]
      · rw[decide_eq_false (show ¬ (V.int (i:Int)=V.int (p:Int)) from fun z=>hm (by injection z;omega))]
        refine P7 ?_
        refine⟨_,rfl,h6,kN _ _ _ ⟨⟨_,rfl⟩,s6.upd hD2,b7,?_⟩⟩
        rw[et,if_neg hm,i9]
        rfl
    · rintro xs2 σ' H2 ⟨⟨v2,rfl⟩,s2,h2,rfl⟩
      have s12:=s1.trans s2
      refine⟨_,rfl,_,rfl,_,rfl,a,ea,ns,es,p,rfl,hS.same s12,t2,.inl (s12.seq hea),fun l3 H3 s3 f3 g3=>?_⟩
      have s23:=s2.trans s3
      refine⟨fun m σ Ha=>∃ (ks:List (List Int)) (ps left:List Int) (zs:List V) (pa la:Addr) (e6:Option V),σ=[some (.ref a),some (.int p),some (.ref ea),some (.ref D),some (.ref pa),some (.ref la),e6]/\left.length=m/\m<24/\ah3 ns ps left ks/\Gr left/\ks++bz8 m left ps=aV5 ns p es/\Ha D=some (.lst zs)/\u5 K Ha zs ks /\
          Ha pa=some (.lst (ps.map V.int))/\pa≠D/\Ha la=some (.lst (left.map V.int))/\la≠D/\E9 PT H Ha/\Tb PT Ha,
        ⟨ns.length - 1,star p es,L5 ns.length p,O2 ns p es,xs,D2,l3,none,rfl,ab5 hp,by omega,ah3.start hp ne he hn,hg,rfl,s23 _ _ h1,s23.tups t1,s3 _ _ h2,(t4 h1 hD2).symm,g3,(t4 (s2 _ _ h1) f3).symm,(s12.trans s3).grow PT,tb.same (s12.trans s3)⟩,?_⟩
      rintro m σ Ha ⟨ks,ps,left,zs,pa,la,e6,rfl,hm,hm2,hI,hG,hF,gD,tD,gp,np,gl,nl,gr,tbA⟩
      have hpl:=hI.len
      refine⟨_,rfl,!(left.map V.int).isEmpty,.inl ⟨_,SqL.of gl,rfl⟩,?_⟩
      cases m with
      | zero =>
        obtain rfl:left=[]:=D3.mp hm
        obtain rfl:ps=[]:=D3.mp hpl.symm
        have hF:ks=aV5 ns p es:=by
          have:ks++[]=aV5 ns p es:=hF
          rw[B3]at this
          exact this
        have hle:=hI.len_le t2
        refine J8 ?_
        refine⟨_,rfl,a,_,rfl,hS.grow gr tb,_,rfl,ns.length,D,zs,ks,by rw[a6];rfl,ht.1,t2,.inl (SqL.of gD),tD,hI.ends,hI.nodup,by omega,fun r t zs2 ks2 H' s' _ _ k1 k2 tt pm so=>?_⟩
        refine q r t zs2 ks2 H' (gr.trans (s'.grow PT)) (tbA.same s') k1 k2 tt (by rw[<- hF];exact pm) so ?_ (fun k hk=>?_) (pm.nodup_iff.mpr hI.nodup)
        · rw[bu6 pm,bT6 hI.ends]
          exact hI.last
        · obtain⟨k',hk',rfl⟩:=k8.mp (pm.mem_iff.mp hk)
          exact(hI.ends k' hk').up
      | succ m =>
        have h0:0<left.length:=by omega
        have hnn:=X6 (al7 hG) h0
        obtain⟨k,hk⟩:∃ k:Nat,left.getD 0 0=(k:Int):=⟨(left.getD 0 0).toNat,by omega⟩
        have at0:atI (left.map V.int) 0=some (.int (k:Int)):=by
          rw[<- hk]
          exact bd9 (j:=0) h0
        have hne:(left.map V.int).isEmpty=false:=by
          cases left with
          | nil=>exact absurd h0 (G5 _)
          | cons _ _=>rfl
        rw[hne]
        refine P7 ⟨_,fun σ' H' h=>⟨m,Nat.lt_succ_self m,h⟩,?_⟩
        refine⟨_,rfl,_,rfl,la,_,_,_,rfl,rfl,SqL.of gl,at0,(by show 1<=f6;decide),fun lz fz=>?_⟩
        have sz:=d6 (o:=.lst [.int 0]) fz
        refine⟨la,lz,left,[0],k,rfl,.inl (SqL.of (sz _ _ gl)),⟨by omega,by omega⟩,SqL.of b7,tbA.same sz,fun os D4 Hc gc tbC f4 hp4 hs4 g4=>?_⟩
        have ech:(V5 [0] os).take k=chF left 0:=by
          rw[bp6,aL0 hp4 hs4]
          unfold chF
          rw[hk,j2]
          rfl
        rw[ech]at g4
        have tbz:=tbA.same sz
        have gDc:=L6 gc tbz (sz _ _ gD)
        have gpc:=L6 gc tbz (sz _ _ gp)
        have glc:=L6 gc tbz (sz _ _ gl)
        have tDc:=W7 gc tbz (sz.tups tD)
        have grc:=gr.trans ((sz.grow PT).trans gc)
        have n4:D4≠D:=(t4 (sz _ _ gD) f4).symm
        have hcl:(chF left 0).length<=24:=by
          have h1:=bl6 hG h0
          have h2:=aB8 hG h0
          omega
        have hgo:=hI.go hG h0
        have hle:=hgo.len_le t2
        generalize upd Ha lz (.lst [.int 0])=Hz at gc f4
        refine⟨_,rfl,_,rfl,D4,rfl,⟨_,SqL.of g4⟩,fun D5 hD5=>N1 (K:=K) (a:=D4) (D:=D5) (ys:=(chF left 0).map V.int) (fun i xs σ' H'=>(∃ v,σ'=[v,some (.ref pa)])/\y7 Hc H'/\H' D5=some (.lst xs)/\u5 K H' xs (star (ps.getD 0 0) (((chF left 0).take i).map fun z=>ps.getD z.toNat 0)))
          ⟨⟨none, rfl⟩, d6 hD5, b7, .nil⟩ (by rw [a6]; omega) (fun i xs σ' H' hi ⟨_, s6, h6, t6⟩ => ⟨SqL.of (s6 _ _ g4), h6, by
            have h7:=t6.len
            unfold star at h7
            rw[a6,a6,n6]at h7
            omega⟩) ?_ ?_⟩
        · rintro i xs x σ' H' N kN hx ⟨⟨v,rfl⟩,s6,h6,t6⟩
          obtain⟨z,hz,rfl⟩:=Z5 hx
          have hz2:=bD4 (d5 hz)
          obtain⟨j,rfl⟩:∃ j:Nat,z=(j:Int):=⟨z.toNat,by omega⟩
          refine B2 (P9 ?_)
          have hpa6:Sq K H' pa ps:=.inl (SqL.of (s6 _ _ gpc))
          refine⟨_,rfl,ao0 (j:=0) hpa6 (by omega) ⟨_,rfl,_,rfl,ao0 hpa6 (j:=j) (by omega) ⟨(by show 2<=f6;decide),fun t ft=>?_⟩⟩⟩
          have st:=d6 (o:=.tup [.int (ps.getD 0 0),.int (ps.getD j 0)]) ft
          have h6':=st _ _ h6
          refine⟨h6',kN _ _ _ ⟨⟨_,rfl⟩,(s6.trans st).upd hD5,b7,?_⟩⟩
          have et:star (ps.getD 0 0) (((chF left 0).take (i+1)).map fun z=>ps.getD z.toNat 0)=star (ps.getD 0 0) (((chF left 0).take i).map fun z=>ps.getD z.toNat 0)++[[ps.getD 0 0,ps.getD j 0]]:=by
            unfold star
            rw[o6,hz,i9,i9]
            rfl
          rw[et]
          refine u5.updL h6' (u5.append (st.tups t6) (u5.one (SqT.of ?_)))
          exact b7
        · rintro xs5 σ' H5 ⟨⟨v5,rfl⟩,s5,h5,t5⟩
          rw[i8 (by rw[a6];exact c5 _)]at t5
          have gD5:=s5 _ _ gDc
          have hl5:=t5.len
          have hlD:=tDc.len
          rw[j7]at hle
          refine⟨D,D5,zs,xs5,rfl,rfl,gD5,h5,by omega,?_⟩
          have fD:H D=none:=hD
          have gu:E9 PT H (upd H5 D (.lst (zs++xs5))):=by
            intro b o nb hb
            rw[p6 (t4 hb fD)]
            exact(grc.trans (s5.grow PT)) b o nb hb
          have tb6:Tb PT (upd H5 D (.lst (zs++xs5))):=by
            obtain⟨ps',hP,hx⟩:=tbC.same s5
            refine⟨ps',?_,hx.1,hx.2.imp id fun⟨c',e,h⟩=>⟨c',e,by rw[p6 (fun z=>by rw[z,gD5]at h;cases h)];exact h⟩⟩
            rw[p6 (fun z=>by rw[z,gD5]at hP;cases hP)]
            exact hP
          have gl6:(upd H5 D (.lst (zs++xs5))) la=some (.lst (left.map V.int)):=by rw[p6 nl];exact s5 _ _ glc
          have gp6:(upd H5 D (.lst (zs++xs5))) pa=some (.lst (ps.map V.int)):=by rw[p6 np];exact s5 _ _ gpc
          have g46:(upd H5 D (.lst (zs++xs5))) D4=some (.lst ((chF left 0).map V.int)):=by rw[p6 n4];exact s5 _ _ g4
          have gD6:(upd H5 D (.lst (zs++xs5))) D=some (.lst (zs++xs5)):=b7
          have t6:u5 K (upd H5 D (.lst (zs++xs5))) (zs++xs5) (ks++star (ps.getD 0 0) ((chF left 0).map fun z=>ps.getD z.toNat 0)):=u5.updL gD5 (u5.append (s5.tups tDc) t5)
          generalize upd H5 D (.lst (zs++xs5))=H6 at gu tb6 gl6 gp6 g46 gD6 t6 ⊢
          refine⟨_,rfl,_,rfl,la,D4,left,chF left 0,0,rfl,.inl (SqL.of gl6),by omega,.inl (SqL.of g46),fun l7 H7 s7 f7 g7=>?_⟩
          refine⟨_,rfl,_,rfl,pa,ps.map V.int,rfl,SqL.of (s7 _ _ gp6),fun l8 f8=>?_⟩
          have ec:ao3 (ps.map V.int) (some 1) none=(ps.drop 1).map V.int:=aa2 ps 1
          rw[ec]
          have s8:=d6 (o:=.lst ((ps.drop 1).map V.int)) f8
          have s78:=s7.trans s8
          refine⟨_,ps.drop 1,O2 left 0 (chF left 0),zs++xs5,l8,l7,_,rfl,by rw[ab5 h0];omega,by omega,hgo,ca1 hG h0,?_,s78 _ _ gD6,s78.tups t6,b7,(t4 (s7 _ _ gD6) f8).symm,s8 _ _ g7,(t4 gD6 f7).symm,gu.trans (s78.grow PT),tb6.same s78⟩
          rw[A9]
          exact hF
end
section
variable {K:W.Frag} {mg:Str->Option Value} {base:Heap}
def am6 (K:W.Frag):Sp:=fun vs H Q _=>∃ n:Nat,vs=[.int n]/\n<=24/\∀ l zs H',y7 H H'->H l=none->H' l=some (.lst zs)->u5 K H' zs (C5 n)->Q (.ref l) H'
theorem aw0:r6 ["places","pairs","one","other"] ["places"] (m9 ap8):=.mk'
theorem aT1 (F:Fun K "_law_pairs" "_law_pairs" ap8 f fd) (B:Bn mg):o9 P w K mg base CX0 1 f fd ["places"] (am6 K):=by
 refine F.ok aw0 (fun cdv A outer s H vs Q E hr h=>?_)
 obtain⟨n,rfl,hn,q⟩:=h
 refine⟨_,d9 (B5 (i:=1) aw0.nd rfl (Or.inl rfl) (P6 c6))
  (d9 (aa0 PassesOwn.never rfl (ab0 rfl B.range (a5 (pv 0) c6)) (B0 (i := 2) aw0.nd rfl (Or.inl rfl))
   (m5 (aa0 PassesOwn.never rfl (aq5 rfl B.range (a5 (C0 X1 (pv 2) m6) (a5 (pv 0) c6))) (B0 (i := 3) aw0.nd rfl (Or.inl rfl))
    (m5 (K2 (by0 PySem.F.plainAttrs_list PySem.F.slot_list_append PySem.F.type_list_append ab4 (pv 1) (a5 (L0 (a5 (pv 2) (a5 (pv 3) c6))) c6)))))))
  (m5 (x8 (pv 1)))),?_⟩
 refine⟨by show 0<=f6;omega,fun l hl=>?_⟩
 have hlen:=U0 n hn
 have hsl:=J1
 refine⟨_,rfl,n,rfl,by omega,by omega,aj3 (lo:=0) (n:=n) (fun i σ H1=>∃ a b zs,σ=[some (.int n),some (.ref l),a,b]/\y7 H H1/\H1 l=some (.lst zs)/\u5 K H1 zs ((n8 i).flatMap fun j=>W2 j (n - (j+1))))
  ⟨none,none,[],rfl,d6 hl,b7,.nil⟩ ?_ ?_⟩
 ·rintro i σ H1 hi ⟨a,b,zs,rfl,s1,h1,t1⟩
  refine⟨_,rfl,_,_,rfl,rfl,_,rfl,_,_,rfl,⟨by omega,by omega,by omega,by omega⟩,aj3 (lo:=0+(i:Int)+1) (fun d σ H2=>∃ b zs,σ=[some (.int n),some (.ref l),some (.int (0+i)),b]/\y7 H H2/\H2 l=some (.lst zs)/\u5 K H2 zs (((n8 i).flatMap fun j=>W2 j (n - (j+1)))++W2 i d))
   ⟨b,zs,rfl,s1,h1,by simpa [W2] using t1⟩ ?_ ?_⟩
  ·rintro d σ H2 hd ⟨b,zs,rfl,s2,h2,t2⟩
   have hlz:=t2.len
   have hpart:=aU1 n (i+1) (by omega)
   rw[ad1,j7]at hpart
   have hrow:∀ m,(W2 i m).length=m:=fun m=>by simp[W2]
   rw[j7,hrow]at hlz
   rw[hrow]at hpart
   refine⟨_,rfl,.inl ⟨rfl,_,SqL.of h2⟩,_,rfl,_,rfl,(by show 2<=f6;decide),fun p hp=>?_⟩
   have hlp:l≠p:=t4 h2 hp
   have h2':(upd H2 p (.tup [.int (0+(i:Int)),.int (0+(i:Int)+1+(d:Int))])) l=some (.lst zs):=by rw[p6 hlp];exact h2
   refine⟨l,zs,_,rfl,rfl,h2',by omega,?_⟩
   refine⟨_,_,rfl,(s2.trans (d6 hp)).upd hl,b7,?_⟩
   rw[aq2,<- A9]
   refine u5.updL h2' (u5.append (y7.tups (d6 hp) t2) (u5.one (SqT.of ?_)))
   rw[b7]
   simp
  ·rintro σ H2 ⟨b,zs,rfl,s2,h2,t2⟩
   refine⟨_,_,zs,rfl,s2,h2,?_⟩
   rw[ad1]
   have e:((n:Int) - (0+(i:Int)+1)).toNat=n - (i+1):=by omega
   rw[e]at t2
   exact t2
 ·rintro σ H1 ⟨a,b,zs,rfl,s1,h1,t1⟩
  exact⟨_,rfl,q l zs H1 s1 hl h1 t1⟩
theorem aK3:r6 ["places","pairs","one"] ["places"] (m9 aR9):=.mk'
theorem bK8 (F:Fun K "all_pairs" "all_pairs" aR9 f fd) (B:Bn mg):o9 P w K mg base CX0 1 f fd ["places"] (am6 K):=by
 refine F.ok aK3 (fun cdv A outer s H vs Q E hr h=>?_)
 obtain⟨n,rfl,hn,q⟩:=h
 have nd2:(["other","one"]:List Str).Nodup:=by decide +kernel
 refine⟨_,d9 (B5 (i:=1) aK3.nd rfl (Or.inl rfl) (P6 c6))
  (d9 (aa0 PassesOwn.never rfl (ab0 rfl B.range (a5 (pv 0) c6)) (B0 (i := 2) aK3.nd rfl (Or.inr rfl))
   (m5 (bb2 (i:=1) aK3.nd rfl (Or.inl rfl) (N4 (N':=["other","one"]) (lk:=[none,some 2]) rfl (aq5 rfl B.range (a5 (C0 X1 (pv 2) m6) (a5 (pv 0) c6))) (by rfl) rfl (by decide +kernel) (by exact⟨rfl,trivial⟩) (by rfl) (by exact LkL.ok ⟨⟨rfl,Or.inl rfl,rfl,Or.inl rfl⟩,trivial⟩)
     (fun _ _ _=>B0 (i:=0) nd2 rfl (Or.inl rfl)) (fun _ _ _=>U4) (fun _ _ _=>L0 (a5 (pv 1) (a5 (pv 0) c6)))) bc3)))
  (m5 (x8 (pv 1)))),?_⟩
 have hlen:=U0 n hn
 have hsl:=J1
 refine⟨by show 0<=f6;omega,fun l hl=>?_⟩
 refine⟨_,rfl,n,rfl,by omega,by omega,aj3 (lo:=0) (n:=n) (fun i σ H1=>∃ a zs,σ=[some (.int n),some (.ref l),a]/\y7 H H1/\H1 l=some (.lst zs)/\u5 K H1 zs ((n8 i).flatMap fun j=>W2 j (n - (j+1))))
  ⟨none,[],rfl,d6 hl,b7,.nil⟩ ?_ ?_⟩
 ·rintro i σ H1 hi ⟨a,zs,rfl,s1,h1,t1⟩
  have e0:((0:Int)+(i:Int))=(i:Int):=by omega
  rw[e0]
  have hpart:=aU1 n (i+1) (by omega)
  rw[ad1,j7]at hpart
  have hrow:∀ m,(W2 i m).length=m:=fun m=>by simp[W2]
  rw[hrow]at hpart
  have hlz:=t1.len
  refine B2 ?_
  refine⟨_,rfl,_,rfl,_,_,rfl,rfl,_,rfl,_,_,rfl,⟨by omega,by omega,by omega,by omega⟩,fun D hD=>?_⟩
  rw[show ((n:Int) - ((i:Int)+1)).toNat=n - (i+1) by omega]
  refine ad5 (lo:=(i:Int)+1) (n:=n - (i+1)) (D:=D) (fun d xs σ' H'=>(∃ v,σ'=[v,some (.int (i:Int))])/\y7 H1 H'/\H' D=some (.lst xs)/\u5 K H' xs (W2 i d))
   ⟨⟨none,rfl⟩,d6 hD,b7,.nil⟩ (by omega) (fun d xs σ' H' hd ⟨_,_,h2,t2⟩=>⟨h2,by rw[t2.len,hrow];exact c5 _⟩) ?_ ?_
  ·rintro d xs σ' H' N kN hd ⟨⟨v,rfl⟩,s2,h2,t2⟩
   refine B2 (P9 ?_)
   refine⟨_,rfl,_,rfl,(by show 2<=f6;decide),fun p hp=>?_⟩
   have s3:=d6 (o:=.tup [.int (i:Int),.int ((i:Int)+1+(d:Int))]) hp
   refine⟨s3 _ _ h2,kN _ _ _ ⟨⟨_,rfl⟩,(s2.trans s3).upd hD,b7,?_⟩⟩
   rw[aq2]
   exact u5.updL (s3 _ _ h2) (u5.append (s3.tups t2) (u5.one (SqT.of b7)))
  ·rintro xs σ' H2 ⟨⟨v,rfl⟩,s2,h2,t2⟩
   have hx:=t2.len
   rw[hrow]at hx
   have hl2:=s2 _ _ h1
   refine⟨l,D,zs,xs,rfl,rfl,hl2,h2,by omega,?_⟩
   refine⟨_,_,rfl,(s1.trans s2).upd hl,b7,?_⟩
   rw[ad1]
   exact u5.updL hl2 (u5.append (s2.tups t1) t2)
 ·rintro σ H1 ⟨a,zs,rfl,s1,h1,t1⟩
  exact⟨_,rfl,q l zs H1 s1 hl h1 t1⟩
def bc1 (n:Nat)(a:Int):Prop:=0<=a/\a<n
def aZ9 (CN:Addr):Sp:=fun vs H Q E=>∃ (n:Nat) (a:Int),vs=[.int n,.int a]/\(bc1 n a->Q .non H)/\(¬ bc1 n a->E (.ref CN) none H)
theorem bi7 {fI CN:Addr}(F:Fun K "check_place" "check_place" bo9 f fd)(FI:Fq K mg "is_place" aE8 fI fdI ["places","number"])
  (mN:mg "NoPlace"=some (.ref CN))(cN:af2 K CN):o9 P w K mg base (CXE P w) 2 f fd ["places","number"] (aZ9 CN):=by
 have GI:o9 P w K mg base CX0 1 fI fdI ["places","number"] bv3:=by7 FI.F
 refine F.okX cf5 (fun cdv A outer s H vs Q E hr h=>?_)
 obtain⟨n,a,rfl,h1,h2⟩:=h
 refine⟨_,m5 (G8 (ac8 (aK6 (aw3 GI hr rfl FI.m FI.F.kp FI.b .nil E7 (a5 (pv 0) (a5 (pv 1) c6))))) (m5 (ag3 (by rfl) mN cN)) B8),?_⟩
 refine⟨_,rfl,_,rfl,_,_,rfl,_,rfl,?_⟩
 by_cases hp:bc1 n a
 ·rw[decide_eq_true hp.1,decide_eq_true hp.2]
  exact J8 (h1 hp)
 ·have e:(decide ((0:Int)<=a) && decide (a<(n:Int)))=false:=by
   rw[Bool.and_eq_false_iff]
   by_cases z:(0:Int)<=a
   ·exact .inr (decide_eq_false fun z'=>hp ⟨z,z'⟩)
   ·exact .inl (decide_eq_false z)
  rw[e]
  exact P7 (h2 hp)
def mvd (ns:List Int)(p m:Int):List Int:=ns.set p.toNat (ns.getD p.toNat 0+m)
def bv2 (K:W.Frag)(CB CN:Addr):Sp:=fun vs H Q E=>∃ (a:Addr) (p m:Int) (ns:List Int),vs=[.ref a,.int p,.int m]/\Sq K H a ns /\
 (M5 ns->bc1 ns.length p->∀ (l:Addr) (H':Hp),y7 H H'->H l=none->H' l=some (.lst ((mvd ns p m).map V.int))->Q (.ref l) H')/\(¬ M5 ns->E (.ref CB) none H)/\(M5 ns->¬ bc1 ns.length p->E (.ref CN) none H)
theorem bQ1:r6 ["tally","place","more","changed"] ["tally","place","more"] (m9 bw3):=.mk'
theorem bW8 {fT fC fI CN:Addr}{tk:Tok}(F:Fun K "moved" "moved" bw3 f fd)(B:Bn mg)(FT:Fq K mg "check_tally" az5 fT fdT ["tally"])
  (FC:Fq K mg "check_place" bo9 fC fdC ["places","number"])(FI:Fq K mg "is_place" aE8 fI fdI ["places","number"])
  (mM:mg "MOST_PLACES"=some (.int 24 tk))(mB:mg "BadTally"=some (.ref CB))(cB:af2 K CB)(mN:mg "NoPlace"=some (.ref CN))(cN:af2 K CN):o9 P w K mg base (CXE P w) 3 f fd ["tally","place","more"] (bv2 K CB CN):=by
 have GT:o9 P w K mg base (CXE P w) 2 fT fdT ["tally"] (aG0 K CB):=(aL2 FT.F B mM mB cB).mono (by decide)
 have GC:o9 P w K mg base (CXE P w) 2 fC fdC ["places","number"] (aZ9 CN):=bi7 FC.F FI mN cN
 refine F.okX bQ1 (fun cdv A outer s H vs Q E hr h=>?_)
 obtain⟨a,p,m,ns,rfl,hS,h1,h2,h3⟩:=h
 refine⟨_,d9 (K2 (v7 GT hr (by rfl) FT S6 (a5 (pv 0) c6)))
  (d9 (K2 (v7 GC hr (by rfl) FC S6 (a5 (A2 A7 (by rfl) B.len PySem.boot_len (a5 (pv 0) c6)) (a5 (pv 1) c6))))
  (d9 (B5 (i:=3) bQ1.nd rfl (Or.inl rfl) (T9 aN5 (by rfl) B.list (by rfl) (a5 (pv 0) c6)))
  (d9 (aK8 (pv 3) (pv 1) aB9 (pv 2) bc4 set_list)
  (m5 (x8 (pv 3)))))),?_⟩
 refine⟨_,rfl,a,ns,rfl,hS,fun ht=>?_,h2⟩
 refine⟨_,rfl,a,_,rfl,hS,_,rfl,(ns.map V.int).length,p,rfl,fun hp=>?_,fun hp=>h3 ht (by rw[a6]at hp;exact hp)⟩
 rw[a6]at hp
 refine⟨_,rfl,a,_,rfl,hS,fun l hl=>?_⟩
 obtain⟨j,rfl⟩:∃ j:Nat,p=(j:Int):=⟨p.toNat,by have:=hp.1;omega⟩
 have hj:j<ns.length:=by have:=hp.2;omega
 have hat:atI (ns.map V.int) (j:Int)=some (.int (ns.getD j 0)):=G3 (j:=j) (by simp[hj])
 refine⟨_,rfl,_,rfl,l,_,_,_,rfl,rfl,SqL.of b7,hat,_,rfl,_,_,rfl,rfl,l,_,_,j,rfl,rfl,b7,aM0 (by rw[a6];exact hj),?_⟩
 refine⟨_,rfl,h1 ht hp l _ ?_ hl ?_⟩
 ·rw[bf3];exact d6 hl
 ·rw[b7,aR1];rfl
end
def ci5 (K:W.Frag)(H:Hp)(p:Addr)(n:Nat)(ks:List (List Int)):Prop:=∃ t zs,SqT K H p [.int n,.ref t]/\SqT K H t zs/\u5 K H zs ks
section
variable {K:W.Frag} {mg:Str->Option Value} {base:Heap}
def bP3 (K:W.Frag):Sp:=fun vs H Q _=>∃ (p:Addr) (n:Nat) (ks:List (List Int)),vs=[.ref p]/\ci5 K H p n ks/\n<=24/\(∀ k∈ks,ah5 n k)/\∀ l H',y7 H H'->H l=none->H' l=some (.lst ((tal n ks).map V.int))->Q (.ref l) H'
def cj1 (K:W.Frag)(H:Hp)(p l:Addr)(n:Nat)(ks:List (List Int))(i:Nat)(σ:St)(H2:Hp):Prop:=∃ a b,σ=[some (.ref p),some (.ref l),a,b]/\y7 H H2/\H2 l=some (.lst ((tal n (ks.take i)).map V.int))
theorem av9:r6 ["web","tally","one","other"] ["web"] (m9 az1):=.mk'
theorem rep0 (n:Nat):(B9 n [V.int 0]).flatten=(tal n []).map V.int:=by
 rw[bf5,List.map_replicate]
 induction n with
 | zero=>rfl
 | succ n ih=>rw[G0,M9,ih,G0];rfl
theorem bW4 (F:Fun K "tally_of" "tally_of" az1 f fd):o9 P w K mg base CX0 1 f fd ["web"] (bP3 K):=by
 refine F.ok av9 (fun cdv A outer s H vs Q E hr h=>?_)
 obtain⟨p,n,ks,rfl,⟨t,zs,h1,h2,h3⟩,hn,hE,q⟩:=h
 have hsl:=J1
 refine⟨_,d9 (B5 (i:=1) av9.nd rfl (Or.inl rfl) (C0 bW0 (P6 (a5 m6 c6)) (Q9 U1 (pv 0) m6 (fun _ _=>rfl))))
  (d9 (aa0 PassesOwn.never rfl (bx4 (Q9 U1 (pv 0) m6 (fun _ _ => rfl))) (aq6 rfl (K3 (B0 (i := 2) av9.nd rfl (Or.inl rfl)) (K3 (B0 (i := 3) av9.nd rfl (Or.inl rfl)) ad0)))
   (d9 (aK8 (pv 1) (pv 2) aB9 m6 bc4 set_list) (m5 (aK8 (pv 1) (pv 3) aB9 m6 bc4 set_list))))
  (m5 (x8 (pv 1)))),?_⟩
 have a0:atI ([.int n,.ref t]:List V) 0=some (.int n):=G3 (j:=0) rfl
 have a1:atI ([.int n,.ref t]:List V) 1=some (.ref t):=G3 (j:=1) rfl
 refine⟨(by show 1<=f6;decide),fun l0 f0=>?_⟩
 have s0:=d6 (o:=.lst [.int 0]) f0
 refine⟨_,rfl,p,_,_,_,rfl,rfl,s0.seqT h1,a0,l0,n,[.int 0],rfl,rfl,b7,by omega,by omega,?_,fun l hl=>?_⟩
 ·show 1*(n:Int).toNat<=f6
  omega
 have en:(n:Int).toNat=n:=by omega
 rw[en,rep0]
 have s1:=s0.trans (d6 (o:=.lst ((tal n []).map V.int)) hl)
 have g1:(upd (upd H l0 (.lst [.int 0])) l (.lst ((tal n []).map V.int))) l=some (.lst ((tal n []).map V.int)):=b7
 have fl:H l=none:=s0.free hl
 generalize upd (upd H l0 (.lst [.int 0])) l (.lst ((tal n []).map V.int))=H1 at s1 g1 ⊢
 have hz:=h3.len
 refine⟨_,rfl,p,_,_,_,rfl,rfl,s1.seqT h1,a1,t,rfl,⟨_,s1.seqT h2⟩,?_⟩
 refine bM5 (K:=K) (a:=t) (xs:=zs) (cj1 K H p l n ks) ⟨none,none,rfl,s1,by rw[at8];exact g1⟩ (fun i σ H2 _ ⟨_,_,_,s2,_⟩=>s2.seqT h2) ?_ ?_
 ·rintro i x σ H2 hx ⟨ea,eb,rfl,s2,g2⟩
  obtain⟨pa,pk,rfl,hk,hq⟩:=h3.get hx
  obtain⟨i1,j1,u1,u2,u3,epk⟩:=hE pk (d5 hk)
  have hq2:=s2.seqT hq
  rw[epk]at hq2
  refine⟨pa,_,rfl,hq2,rfl,_,_,rfl,_,_,rfl,rfl,?_⟩
  have t1:((tal n (ks.take i)).map V.int)[i1]?=some (.int (N2 (ks.take i) i1)):=by rw[q8,U3 u1];rfl
  have t2:(((tal n (ks.take i)).map V.int).set i1 (.int ((N2 (ks.take i) i1:Int)+1)))[j1]?=some (.int (N2 (ks.take i) j1)):=by
   rw[D8 u3,q8,U3 u2];rfl
  have lt:((tal n (ks.take i)).map V.int).length=n:=by rw[a6,P0]
  refine⟨_,rfl,_,rfl,l,_,_,_,rfl,rfl,SqL.of g2,G3 t1,_,_,rfl,rfl,l,_,_,i1,rfl,rfl,g2,by rw[lt];exact aM0 u1,?_⟩
  refine⟨_,rfl,_,rfl,l,_,_,_,rfl,rfl,SqL.of b7,G3 t2,_,_,rfl,rfl,l,_,_,j1,rfl,rfl,b7,by rw[A3,lt];exact aM0 u2,?_⟩
  refine⟨_,_,rfl,?_,?_⟩
  ·rw[bf3]
   exact s2.upd fl
  ·rw[b7,o6,hk,O9,epk,<- bf4 u1 u2 u3 (ks.take i) _ _ rfl rfl,bF3,bF3]
 ·rintro σ H2 ⟨ea,eb,rfl,s2,g2⟩
  rw[i8 (by omega)]at g2
  exact⟨_,rfl,q l H2 s2 fl g2⟩
def bP5:Sp:=fun vs H Q _=>∃ (c k b:Int),vs=[.int c,.int k,.int b]/\0<b/\∀ r:Int,0<=r->r<b->Q (.int r) H
theorem bg9:r6 ["cell","k","bound","prime","one"] ["cell","k","bound"] (m9 bw4):=.mk'
theorem bW9 (F:Fun K "_law_mixed" "_law_mixed" bw4 f fd):o9 P w K mg base CX0 1 f fd ["cell","k","bound"] bP5:=by
 refine F.ok bg9 (fun cdv A outer s H vs Q E hr h=>?_)
 obtain⟨c,k,b,rfl,hb,q⟩:=h
 refine⟨_,d9 (B5 (i:=3) bg9.nd rfl (Or.inl rfl) m6)
  (d9 (B5 (i:=4) bg9.nd rfl (Or.inl rfl) (C0 V4 (C0 ad3 (C0 X1 (C0 V4 (pv 0) (pv 3)) (C0 ad3 (C0 X1 (pv 1) m6) m6)) m6) (pv 3)))
  (d9 (B5 (i:=4) bg9.nd rfl (Or.inl rfl) (C0 V4 (C0 ad3 (pv 4) (pv 4)) (pv 3)))
  (m5 (x8 (C0 V4 (C0 an6 (C0 V4 (C0 ad3 (C0 X1 (pv 4) (pv 1)) m6) (pv 3)) m6) (pv 2)))))),?_⟩
 have pp:(0:Int)<2305843009213693951:=by decide
 refine⟨_,rfl,_,rfl,_,_,rfl,rfl,pp,_,rfl,_,_,rfl,rfl,_,_,rfl,rfl,.inr ⟨by decide,by decide⟩,_,_,rfl,rfl,_,_,rfl,rfl,.inr ⟨by decide,by decide⟩,_,rfl,_,_,rfl,rfl,pp,?_⟩
 generalize ho:((c % 2305843009213693951+(k+3)*1000000007)*1152921504606846883 % 2305843009213693951:Int)=o
 have h1:0<=o:=by rw[<- ho];exact ap2 _ (by decide)
 have h2:o<2305843009213693951:=by rw[<- ho];exact af7 _ pp
 refine⟨_,rfl,_,rfl,_,_,rfl,rfl,.inl ⟨by omega,by omega⟩,_,rfl,_,_,rfl,rfl,pp,?_⟩
 refine⟨_,rfl,_,rfl,_,_,rfl,rfl,_,_,rfl,rfl,.inr ⟨by decide,by decide⟩,_,rfl,_,_,rfl,rfl,pp,_,_,rfl,rfl,⟨by decide,by decide⟩,_,rfl,_,_,rfl,rfl,hb,?_⟩
 exact q _ (ap2 _ (by omega)) (af7 _ hb)
def bv1 (K:W.Frag):Sp:=fun vs H Q _=>∃ (n:Nat) (c y:Int),vs=[.int n,.int c,.int y]/\n<=24/\∀ l zs ks H',y7 H H'->H l=none->H' l=some (.lst zs)->u5 K H' zs ks->ks.Sublist (C5 n)->Q (.ref l) H'
def bu4 (K:W.Frag)(H:Hp)(n:Nat)(c y:Int)(l l0:Addr)(zs0:List V)(i:Nat)(σ:St)(H2:Hp):Prop:=
 ∃ rest a b zs ks,σ=[some (.int n),some (.int c),some (.int y),some (.ref l),some (.int rest),a,b]/\y7 H H2/\H2 l0=some (.lst zs0)/\u5 K H2 zs0 (C5 n)/\H2 l=some (.lst zs)/\u5 K H2 zs ks/\ks.Sublist ((C5 n).take i)
theorem ap7:r6 ["places","cell","way","ties","rest","k","pair"] ["places","cell","way"] (m9 aR6):=.mk'
theorem bK4 {fP fM:Addr} (F:Fun K "_law_ties" "_law_ties" aR6 f fd) (B:Bn mg) (FP:Fq K mg "_law_pairs" ap8 fP fdP ["places"])
  (FM:Fq K mg "_law_mixed" bw4 fM fdM ["cell","k","bound"]):o9 P w K mg base CX0 2 f fd ["places","cell","way"] (bv1 K):=by
 have GP:o9 P w K mg base CX0 1 fP fdP ["places"] (am6 K):=aT1 FP.F B
 have GM:o9 P w K mg base CX0 1 fM fdM ["cell","k","bound"] bP5:=bW9 FM.F
 refine F.ok ap7 (fun cdv A outer s H vs Q E hr h=>?_)
 obtain⟨n,c,y,rfl,hn,q⟩:=h
 have hlen:=U0 n hn
 have hsl:=J1
 refine⟨_,d9 (B5 (i:=3) ap7.nd rfl (Or.inl rfl) (P6 c6))
  (d9 (B5 (i:=4) ap7.nd rfl (Or.inl rfl) (pv 1))
  (d9 (aa0 PassesOwn.never rfl (an4 (by rfl) B.enum (a5 (v7 GP hr (by rfl) FP E7 (a5 (pv 0) c6)) c6))
    (aq6 rfl (K3 (B0 (i:=5) ap7.nd rfl (Or.inl rfl)) (K3 (B0 (i:=6) ap7.nd rfl (Or.inl rfl)) ad0)))
   (d9 (G8 (PW.pt (bb0 (A4 Z1 (pv 2) m6 (E1 _)) (aK5 (A4 Z1 (C0 V4 (pv 4) m6) m6 (E1 _)))))
     (m5 (K2 (by0 PySem.F.plainAttrs_list PySem.F.slot_list_append PySem.F.type_list_append ab4 (pv 3) (a5 (pv 6) c6)))) B8)
   (d9 (G8 (PW.pt (bb0 (A4 aS9 (pv 2) m6 (E1 _)) (aK5 (A4 at4 (v7 GM hr (by rfl) FM E7 (a5 (pv 1) (a5 (pv 5) (a5 m6 c6)))) (pv 2) (E1 _)))))
     (m5 (K2 (by0 PySem.F.plainAttrs_list PySem.F.slot_list_append PySem.F.type_list_append ab4 (pv 3) (a5 (pv 6) c6)))) B8)
   (m5 (B5 (i:=4) ap7.nd rfl (Or.inl rfl) (C0 an6 (pv 4) m6))))))
  (m5 (x8 (pv 3))))),?_⟩
 refine⟨by show 0<=f6;omega,fun l hl=>⟨_,rfl,?_⟩⟩
 refine⟨_,rfl,n,rfl,hn,fun l0 zs0 H1 s1 f1 h1 t1=>⟨l0,rfl,⟨_,SqL.of h1⟩,?_⟩⟩
 have n0:l≠l0:=t4 (b7) f1
 have hz0:=t1.len
 refine aC2 (K:=K) (a:=l0) (xs:=zs0) (bu4 K H n c y l l0 zs0)
  ⟨c,none,none,[],[],rfl,(d6 hl).trans s1,h1,t1,s1 _ _ b7,.nil,List.nil_sublist _⟩ (fun i σ H2 _ ⟨_,_,_,_,_,_,_,h,_⟩=>SqL.of h) ?_ ?_
 ·rintro i x t σ H2 hx ⟨rest,a,b,zs,ks,rfl,s2,h0,t0,h2,t2,sb⟩ ht
  obtain⟨pa,pk,rfl,hk,hq⟩:=t0.get hx
  have hks:ks.length<=276:=p8 sb.length_le (by rw[n6];omega)
  have hzl:=t2.len
  have s3:=d6 (o:=.tup [.int i,.ref pa]) ht
  have sb1:ks.Sublist ((C5 n).take (i+1)):=sb.trans (by rw[o6];exact List.sublist_append_left _ _)
  have sb2:(ks++[pk]).Sublist ((C5 n).take (i+1)):=by rw[o6,hk];exact sb.append (List.Sublist.refl _)
  have no:∀ rest':Int,bu4 K H n c y l l0 zs0 (i+1) [some (.int n),some (.int c),some (.int y),some (.ref l),some (.int rest'),some (.int i),some (.ref pa)] (upd H2 t (.tup [.int i,.ref pa])):=
   fun rest'=>⟨rest',_,_,zs,ks,rfl,s2.trans s3,s3 _ _ h0,s3.tups t0,s3 _ _ h2,s3.tups t2,sb1⟩
  have yes:∀ rest':Int,bu4 K H n c y l l0 zs0 (i+1) [some (.int n),some (.int c),some (.int y),some (.ref l),some (.int rest'),some (.int i),some (.ref pa)] (upd (upd H2 t (.tup [.int i,.ref pa])) l (.lst (zs++[.ref pa]))):=
   fun rest'=>⟨rest',_,_,_,ks++[pk],rfl,(s2.trans s3).upd hl,by rw[p6 n0.symm];exact s3 _ _ h0,u5.updL (s3 _ _ h2) (s3.tups t0),b7,u5.updL (s3 _ _ h2) (u5.append (s3.tups t2) (u5.one (s3.seqT hq))),sb2⟩
  refine⟨t,_,rfl,SqT.of b7,rfl,_,_,rfl,_,_,rfl,rfl,?_⟩
  refine⟨_,rfl,rfl,_,rfl,?_⟩
  by_cases hy:y=0
  ·subst hy
   rw[decide_eq_true rfl]
   refine P7 ⟨_,rfl,_,_,rfl,rfl,(by show (0:Int)<2;decide),rfl,_,rfl,?_⟩
   refine aU6 (fun _=>?_) (fun _=>?_)
   ·refine⟨_,rfl,.inl ⟨rfl,_,SqL.of (s3 _ _ h2)⟩,_,rfl,l,zs,_,rfl,rfl,s3 _ _ h2,by omega,?_⟩
    refine⟨_,rfl,_,_,rfl,rfl,_,rfl,?_⟩
    rw[decide_eq_false (by omega)]
    refine J8 (J8 ?_)
    exact⟨_,rfl,_,_,rfl,rfl,⟨by decide,by decide⟩,yes _⟩
   ·refine⟨_,rfl,_,_,rfl,rfl,_,rfl,?_⟩
    rw[decide_eq_false (by omega)]
    refine J8 (J8 ?_)
    exact⟨_,rfl,_,_,rfl,rfl,⟨by decide,by decide⟩,no _⟩
  ·rw[decide_eq_false (by intro z;injection z;omega)]
   refine J8 (J8 ?_)
   refine⟨_,rfl,_,_,rfl,rfl,_,rfl,?_⟩
   refine aU6 (fun _=>?_) (fun _=>J8 ?_)
   ·refine⟨_,rfl,_,rfl,c,i,4,rfl,by decide,fun r r1 r2=>?_⟩
    refine⟨_,rfl,_,_,rfl,rfl,_,rfl,?_⟩
    refine aU6 (fun _=>?_) (fun _=>?_)
    ·refine⟨_,rfl,.inl ⟨rfl,_,SqL.of (s3 _ _ h2)⟩,_,rfl,l,zs,_,rfl,rfl,s3 _ _ h2,by omega,?_⟩
     exact⟨_,rfl,_,_,rfl,rfl,⟨by decide,by decide⟩,yes _⟩
    ·exact⟨_,rfl,_,_,rfl,rfl,⟨by decide,by decide⟩,no _⟩
   ·exact⟨_,rfl,_,_,rfl,rfl,⟨by decide,by decide⟩,no _⟩
 ·rintro σ H2 ⟨rest,a,b,zs,ks,rfl,s2,h0,t0,h2,t2,sb⟩
  exact⟨_,rfl,q l zs ks H2 s2 hl h2 t2 (by rw[i8 (by omega)]at sb;exact sb)⟩
end
theorem aJ6:∀ {ks:List (List Int)},(∀ k∈ks,Up n k)->ks.map up=ks
 | [],_=>rfl
 | k::ks,h=>by
  rw[i7,aJ6 fun x hx=>h x (b8 _ hx)]
  rw[cd2 (h k b9)]
structure Tld (n:Nat) (ks:List (List Int)):Prop where
 ups:∀ k∈ks,Up n k
 nd:ks.Nodup
 srt:ks.Pairwise (fun a b=>Tim.J5 b a=false)
theorem ai8 {x:Wl}(h:S1 ns x)(hx:x≠.free):¬ S1 ns .free:=fun f=>by
 cases x with
 | below p =>
  obtain⟨⟨y,h1,h2⟩,_⟩:=h
  have:=f.1 p y h1
  omega
 | odd=>exact f.2.1 h.2
 | wall r =>
  have:=f.2.2 r h.2.2.1 h.2.2.2.1
  have:=h.2.2.2.2.1
  omega
 | free=>exact hx rfl
def mv2 (ns:List Int)(m:Int)(k:List Int):List Int:=mvd (mvd ns (k.getD 0 0) m) (k.getD 1 0) m
open Classical in
noncomputable def ap4 (ns:List Int)(m:Int)(k:List Int):Bool:=decide (¬ S1 (mv2 ns m k) .free)
open Classical in
theorem bt6 {m:Int}(h:S1 (mv2 ns m k) .free):ap4 ns m k=false:=by
 unfold ap4
 exact decide_eq_false fun z=>z h
open Classical in
theorem bt5 {m:Int}(h:¬ S1 (mv2 ns m k) .free):ap4 ns m k=true:=by
 unfold ap4
 exact decide_eq_true h
noncomputable def wld (ns:List Int)(m:Int):List (List Int):=(C5 ns.length).filter (ap4 ns m)
theorem an9 (ns:List Int)(p m:Int):(mvd ns p m).length=ns.length:=by unfold mvd;rw[A3]
seal L2.PE L2.PA L2.PS L2.PSs L2.PT
section
variable {K:W.Frag} {mg:Str->Option Value} {base:Heap}
def bg1 (K:W.Frag)(CB CW:Addr):Sp:=fun vs H Q E=>∃ (a:Addr) (ns:List Int),vs=[.ref a]/\Sq K H a ns/\(M5 ns->S1 ns .free->∀ H':Hp,y7 H H'->Q .non H')/\(¬ M5 ns->E (.ref CB) none H)/\(M5 ns->¬ S1 ns .free->∀ H':Hp,y7 H H'->E (.ref CW) none H')
theorem cf3:r6 ["tally"] ["tally"] (m9 bo7):=.mk'
theorem bX3 {fW CW:Addr}(F:Fun K "check_has_web" "check_has_web" bo7 f fd)(FW:Fq K mg "wall_of" az0 fW fdW ["tally"])(GW:o9 P w K mg base (CXE P w) 3 fW fdW ["tally"] (ay5 K CB))
  (mX:mg "NoWeb"=some (.ref CW))(cX:af2 K CW):o9 P w K mg base (CXE P w) 4 f fd ["tally"] (bg1 K CB CW):=by
 refine F.okX cf3 (fun cdv A outer s H vs Q E hr h=>?_)
 obtain⟨a,ns,rfl,hS,q,qb,e⟩:=h
 refine⟨_,m5 (G8 (A4 aw5 (v7 GW hr (by rfl) FW S6 (a5 (pv 0) c6)) az8 (by rfl)) (m5 (ag3 (by rfl) mX cX)) B8),?_⟩
 refine⟨_,rfl,a,ns,rfl,hS,fun ht v x H' s' hx hv=>?_,qb⟩
 rcases hv with⟨rfl,rfl⟩ | ⟨h,p,rfl,_⟩
 ·exact⟨rfl,_,rfl,J8 (q ht hx H' s')⟩
 ·exact⟨rfl,_,rfl,P7 (e ht (ai8 hx h) H' s')⟩
def bg0 (K:W.Frag):Sp:=fun vs H Q _=>∃ (a:Addr) (i j:Nat) (m:Int) (ns:List Int),vs=[.ref a,.int i,.int j,.int m]/\Sq K H a ns/\M5 ns/\i<ns.length/\j<ns.length /\
 ∀ (l:Addr) (H':Hp),y7 H H'->H l=none->H' l=some (.lst ((mv2 ns m [(i:Int),(j:Int)]).map V.int))->Q (.ref l) H'
theorem cf0:r6 ["tally","one","other","more"] ["tally","one","other","more"] (m9 bo6):=.mk'
theorem bW7 {fM CN:Addr}(F:Fun K "moved_both" "moved_both" bo6 f fd)(FM:Fq K mg "moved" bw3 fM fdM ["tally","place","more"])(GM:o9 P w K mg base (CXE P w) 3 fM fdM ["tally","place","more"] (bv2 K CB CN)):o9 P w K mg base CX0 4 f fd ["tally","one","other","more"] (bg0 K):=by
 refine F.ok cf0 (fun cdv A outer s H vs Q E hr h=>?_)
 obtain⟨a,i,j,m,ns,rfl,hS,ht,hi,hj,q⟩:=h
 refine⟨_,m5 (x8 (v7 GM hr (by rfl) FM (Z0 (P:=P) (w:=w)) (a5 (v7 GM hr (by rfl) FM (Z0 (P:=P) (w:=w)) (a5 (pv 0) (a5 (pv 1) (a5 (pv 3) c6)))) (a5 (pv 2) (a5 (pv 3) c6))))),?_⟩
 refine⟨_,rfl,_,rfl,_,rfl,a,(i:Int),m,ns,rfl,hS,fun _ _ l1 H1 s1 f1 g1=>?_,fun h=>absurd ht h,fun _ h=>absurd ⟨by omega,by omega⟩ h⟩
 have e:=an9 ns i m
 have ht1:M5 (mvd ns i m):=⟨by rw[e];exact ht.1,by rw[e];exact ht.2⟩
 refine⟨_,rfl,_,rfl,l1,(j:Int),m,mvd ns i m,rfl,.inl (SqL.of g1),fun _ _ l2 H2 s2 f2 g2=>?_,fun h=>absurd ht1 h,fun _ h=>absurd ⟨by omega,by rw[e];omega⟩ h⟩
 exact q l2 H2 (s1.trans s2) (s1.free f2) g2
def Wlk (K:W.Frag)(ns:List Int)(m:Int)(CB CW:Addr)(H:Hp)(Q:VK)(E:XK):Prop:=
 (M5 ns->S1 ns .free->∀ (l:Addr) (zs:List V) (H':Hp),y7 H H'->H l=none->H' l=some (.lst zs)->u5 K H' zs (wld ns m)->Q (.ref l) H')/\(¬ M5 ns->E (.ref CB) none H)/\(M5 ns->¬ S1 ns .free->∀ H':Hp,y7 H H'->E (.ref CW) none H')
def bf7 (K:W.Frag)(CB CW:Addr):Sp:=fun vs H Q E=>∃ (a:Addr) (m:Int) (ns:List Int),vs=[.ref a,.int m]/\Sq K H a ns/\Wlk K ns m CB CW H Q E
theorem bQ0:r6 ["tally","more","pairs"] ["tally","more"] (m9 bo5):=.mk'
set_option maxHeartbeats 1000000 in
theorem bW3 {fH fP fW fM CW:Addr} {fdH:FuncData} (F:Fun K "pairs_walled" "pairs_walled" bo5 f fd) (B:Bn mg) (FH:Fq K mg "check_has_web" bo7 fH fdH ["tally"]) (GH:o9 P w K mg base (CXE P w) 4 fH fdH ["tally"] (bg1 K CB CW))
    (FP:Fq K mg "all_pairs" aR9 fP fdP ["places"])
    (FW:Fq K mg "wall_of" az0 fW fdW ["tally"]) (GW:o9 P w K mg base (CXE P w) 4 fW fdW ["tally"] (ay5 K CB))
    (FM:Fq K mg "moved_both" bo6 fM fdM ["tally","one","other","more"]) (GM:o9 P w K mg base CX0 4 fM fdM ["tally","one","other","more"] (bg0 K)):o9 P w K mg base (CXE P w) 5 f fd ["tally","more"] (bf7 K CB CW):=by
  have GP:o9 P w K mg base CX0 4 fP fdP ["places"] (am6 K):=(bK8 FP.F B).mono (by decide)
  refine F.okX bQ0 (fun cdv A outer s H vs Q E hr h=>?_)
  obtain⟨a,m,ns,rfl,hS,q,qb,qe⟩:=h
  have hsl:=J1
  have nd3:(["pair","tally","more"]:List Str).Nodup:=by decide +kernel
  refine⟨_,d9 (K2 (v7 GH hr (by rfl) FH S6 (a5 (pv 0) c6)))
    (d9 (B5 (i:=2) bQ0.nd rfl (Or.inl rfl) (v7 GP hr (by rfl) FP E7 (a5 (A2 A7 (by rfl) B.len PySem.boot_len (a5 (pv 0) c6)) c6)))
    (m5 (x8 (N4 (N':=["pair","tally","more"]) (lk:=[none,some 0,some 1]) rfl (Q2 (pv 2)) (by rfl) rfl (by decide +kernel) (by exact⟨rfl,rfl,trivial⟩) (by rfl) (by exact LkL.ok ⟨⟨rfl,Or.inl rfl,rfl,Or.inl rfl⟩,⟨rfl,Or.inl rfl,rfl,Or.inl rfl⟩,trivial⟩)
      (fun _ _ _=>B0 (i:=0) nd3 rfl (Or.inl rfl)) (fun _ _ _=>ac7 (A4 aw5 (v7 GW hr (by rfl) FW (Z0 (P:=P) (w:=w)) (a5 (v7 GM hr (by rfl) FM E7 (a5 (pv 1) (a5 (bi1 K rfl (pv 0) m6 (fun _ _=>rfl)) (a5 (bi1 K rfl (pv 0) m6 (fun _ _=>rfl)) (a5 (pv 2) c6))))) c6)) az8 (by rfl))) (fun _ _ _=>pv 0))))),?_⟩
  refine⟨_,rfl,a,ns,rfl,hS,fun ht hf H1 s1=>?_,qb,fun ht hf H1 s1=>qe ht hf H1 s1⟩
  refine⟨_,rfl,a,_,rfl,hS.same s1,ns.length,by rw[a6];rfl,ht.2,fun l zs H2 s2 f2 g2 t2=>?_⟩
  refine B2 ?_
  have hlp:=U0 ns.length ht.2
  have hzl:=t2.len
  have s12:=s1.trans s2
  refine⟨_,rfl,l,rfl,⟨_,SqL.of g2⟩,fun D hD=>N1 (K:=K) (a:=l) (D:=D) (ys:=zs) (fun n xs σ' H'=>(∃ v,σ'=[v,some (.ref a),some (.int m)])/\y7 H2 H'/\H' D=some (.lst xs)/\u5 K H' xs (((C5 ns.length).take n).filter (ap4 ns m)))
    ⟨⟨none, rfl⟩, d6 hD, b7, by rw [at8]; exact .nil⟩ (by omega) (fun n xs σ' H' hn ⟨_, s6, h6, t6⟩ => ⟨SqL.of (s6 _ _ g2), h6, by
      have e1:=t6.len
      have e2:=E8 (ap4 ns m) ((C5 ns.length).take n)
      rw[n6]at e2
      omega⟩) ?_ ?_⟩
  · rintro n xs x σ' H' N kN hx ⟨⟨v,rfl⟩,s6,h6,t6⟩
    obtain⟨pa,pk,rfl,hk',hq⟩:=t2.get hx
    obtain⟨i,j,hij,hjn,rfl⟩:=aj0 (d5 hk')
    have at0:atI (([(i:Int),(j:Int)]:List Int).map V.int) 0=some (.int i):=G3 (j:=0) rfl
    have at1:atI (([(i:Int),(j:Int)]:List Int).map V.int) 1=some (.int j):=G3 (j:=1) rfl
    have hq6:=s6.seqT hq
    refine B2 ?_
    refine⟨_,rfl,_,rfl,pa,_,_,_,rfl,rfl,hq6,at0,_,rfl,pa,_,_,_,rfl,rfl,hq6,at1,_,rfl,a,i,j,m,ns,rfl,hS.same (s12.trans s6),ht,by omega,hjn,fun l3 H3 s3 f3 g3=>?_⟩
    have el:(mv2 ns m [(i:Int),(j:Int)]).length=ns.length:=by unfold mv2;rw[an9,an9]
    have ht3:M5 (mv2 ns m [(i:Int),(j:Int)]):=⟨by rw[el];exact ht.1,by rw[el];exact ht.2⟩
    refine⟨l3,_,rfl,.inl (SqL.of g3),fun _ v x H4 s4 hx4 hv4=>⟨rfl,_,rfl,?_⟩,fun h=>absurd ht3 h⟩
    have s34:=s3.trans s4
    have etk:((C5 ns.length).take (n+1)).filter (ap4 ns m)=((C5 ns.length).take n).filter (ap4 ns m)++(if ap4 ns m [(i:Int),(j:Int)]=true then [[(i:Int),(j:Int)]] else []):=by
      rw[o6,hk',B4]
      show _++List.filter (ap4 ns m) [[(i:Int),(j:Int)]]=_
      rw[cc2,ac1]
    rcases hv4 with⟨rfl,rfl⟩ | ⟨h,p,rfl,_⟩
    · have hw:ap4 ns m [(i:Int),(j:Int)]=false:=bt6 hx4
      rw[hw,if_neg j5,B3]at etk
      refine J8 (kN _ _ _ ⟨⟨_,rfl⟩,s6.trans s34,s34 _ _ h6,?_⟩)
      rw[etk]
      exact s34.tups t6
    · have hw:ap4 ns m [(i:Int),(j:Int)]=true:=bt5 (ai8 hx4 h)
      rw[hw,if_pos rfl]at etk
      refine P7 ⟨_,rfl,s34 _ _ h6,kN _ _ _ ⟨⟨_,rfl⟩,(s6.trans s34).upd hD,b7,?_⟩⟩
      rw[etk]
      exact u5.updL (s34 _ _ h6) (u5.append (s34.tups t6) (u5.one (s34.seqT hq6)))
  · rintro xs σ' H3 ⟨⟨v,rfl⟩,s3,g3,t3⟩
    rw[i8 (by omega)]at t3
    exact q ht hf D xs H3 (s12.trans s3) (s12.free hD) g3 t3
def bg8 (K:W.Frag)(CB CW:Addr)(m:Int):Sp:=fun vs H Q E=>∃ (a:Addr) (ns:List Int),vs=[.ref a]/\Sq K H a ns/\Wlk K ns m CB CW H Q E
theorem cg0:r6 ["tally"] ["tally"] (m9 bw9):=.mk'
theorem ce9:r6 ["tally"] ["tally"] (m9 bw2):=.mk'
theorem bX9 {fD CW:Addr}{fdD:FuncData}(F:Fun K "always" "always" bw9 f fd)(FD:Fq K mg "pairs_walled" bo5 fD fdD ["tally","more"])(GD:o9 P w K mg base (CXE P w) 5 fD fdD ["tally","more"] (bf7 K CB CW)):o9 P w K mg base (CXE P w) 6 f fd ["tally"] (bg8 K CB CW 1):=by
 refine F.okX cg0 (fun cdv A outer s H vs Q E hr h=>?_)
 obtain⟨a,ns,rfl,hS,q⟩:=h
 refine⟨_,m5 (x8 (v7 GD hr (by rfl) FD S6 (a5 (pv 0) (a5 m6 c6)))),?_⟩
 exact⟨_,rfl,a,1,ns,rfl,hS,q⟩
theorem bW6 {fD CW:Addr}{fdD:FuncData}(F:Fun K "never" "never" bw2 f fd)(FD:Fq K mg "pairs_walled" bo5 fD fdD ["tally","more"])(GD:o9 P w K mg base (CXE P w) 5 fD fdD ["tally","more"] (bf7 K CB CW)):o9 P w K mg base (CXE P w) 6 f fd ["tally"] (bg8 K CB CW (-1)):=by
 refine F.okX ce9 (fun cdv A outer s H vs Q E hr h=>?_)
 obtain⟨a,ns,rfl,hS,q⟩:=h
 refine⟨_,m5 (x8 (v7 GD hr (by rfl) FD S6 (a5 (pv 0) (a5 (bx5 aZ1 m6) c6)))),?_⟩
 exact⟨_,rfl,_,rfl,a,-1,ns,rfl,hS,q⟩
end
end Web
namespace Web
open PySem L2
open Grf (Gph deg)
theorem bT0 (p z:Int):p∈up [p,z]:=by
 show p∈[if z<p then z else p,if z > p then z else p]
 by_cases h:z<p
 ·rw[if_pos h,if_neg (by omega)];simp
 ·rw[if_neg h];simp
theorem bY0 {q:Nat}{es:List Int}(nd:es.Nodup)(hq:(q:Int)∉es)(hsub:∀ z∈es,up [(p:Int),z]∈ks)(hc:N2 ks p=es.length):up [(p:Int),(q:Int)]∉ks:=fun hm=>by
 have nd2:(es++[(q:Int)]).Nodup:=ah8.mpr ⟨nd,by simp,fun a ha b hb e=>hq (by rw[<- j6.mp hb,<- e];exact ha)⟩
 have l1:((es++[(q:Int)]).map fun z=>up [(p:Int),z]).Nodup:=G1.mpr (nd2.imp fun h e=>h (by
  rcases up_eq e with z | z
  ·exact z.2
  ·exact z.2.trans z.1))
 have:=aA5 l1 (m:=ks.filter fun k=>decide ((p:Int)∈k)) fun x hx=>by
  obtain⟨z,hz,rfl⟩:=k8.mp hx
  refine u4.mpr ⟨?_,decide_eq_true (bT0 _ _)⟩
  rcases k7.mp hz with m | m
  ·exact hsub z m
  ·rw[j6.mp m];exact hm
 rw[a6,j7,Q0,<- aP1]at this
 have e:av3 (fun k=>decide ((p:Int)∈k)) ks=es.length:=hc
 omega
theorem aG6 (zs:List Int)(p q:Nat):V5 [(p:Int),(q:Int)] zs=J7 zs p q:=rfl
structure aN6 (K:W.Frag) (H:Hp) (r:Addr) (ns:List Int) (ks:List (List Int)):Prop where
 at_:∃ t zs,H r=some (.tup [.int ns.length,.ref t])/\H t=some (.tup zs)/\u5 K H zs ks
 told:Tld ns.length ks
 tal:tal ns.length ks=ns
theorem aN6.grow {K:W.Frag}{PT r:Addr}(h:aN6 K H r ns ks)(g:E9 PT H H')(t:Tb PT H):aN6 K H' r ns ks:=by
 obtain⟨u,zs,h1,h2,h3⟩:=h.at_
 obtain⟨ps,hP,hx⟩:=id t
 exact⟨⟨u,zs,g _ _ (fun z=>by rw[z,hP]at h1;cases h1) h1,g _ _ (fun z=>by rw[z,hP]at h2;cases h2) h2,W7 g t h3⟩,h.told,h.tal⟩
theorem aN6.same {K:W.Frag}{r:Addr}(h:aN6 K H r ns ks)(s:y7 H H'):aN6 K H' r ns ks:=by
 obtain⟨u,zs,h1,h2,h3⟩:=h.at_
 exact⟨⟨u,zs,s _ _ h1,s _ _ h2,s.tups h3⟩,h.told,h.tal⟩
noncomputable def lwE (ns:List Int)(i j:Nat):Bool->List Int
 | true=>(J7 (bp8 ns) i j).take (ns.getD i 0 - 1).toNat++[(j:Int)]
 | false=>(J7 (bp8 ns) i j).take (ns.getD i 0).toNat
def bE7 (ns:List Int)(i j:Nat)(b:Bool)(ks:List (List Int)):Prop:=ks.Perm ((aV5 ns i (lwE ns i j b)).map up)
section
variable {K:W.Frag} {mg:Str->Option Value} {base:Heap}
def bA5 (n:Nat)(a b:Int):Prop:=bc1 n a/\bc1 n b/\a≠b
def bg3 (CN:Addr):Sp:=fun vs H Q E=>∃ (n:Nat) (a b:Int),vs=[.int n,.int a,.int b]/\(bA5 n a b->Q .non H)/\(¬ bA5 n a b->E (.ref CN) none H)
theorem cf7:r6 ["places","one","other"] ["places","one","other"] (m9 bp0):=.mk'
theorem bX7 {fC fI CN:Addr}(F:Fun K "check_pair" "check_pair" bp0 f fd)(FC:Fq K mg "check_place" bo9 fC fdC ["places","number"])(FI:Fq K mg "is_place" aE8 fI fdI ["places","number"])
  (mN:mg "NoPlace"=some (.ref CN))(cN:af2 K CN):o9 P w K mg base (CXE P w) 3 f fd ["places","one","other"] (bg3 CN):=by
 have GC:o9 P w K mg base (CXE P w) 2 fC fdC ["places","number"] (aZ9 CN):=bi7 FC.F FI mN cN
 refine F.okX cf7 (fun cdv A outer s H vs Q E hr h=>?_)
 obtain⟨n,a,b,rfl,q,qe⟩:=h
 refine⟨_,d9 (K2 (v7 GC hr (by rfl) FC S6 (a5 (pv 0) (a5 (pv 1) c6))))
  (d9 (K2 (v7 GC hr (by rfl) FC S6 (a5 (pv 0) (a5 (pv 2) c6))))
  (m5 (G8 (A4 Z1 (pv 1) (pv 2) (E1 _)) (m5 (ag3 (by rfl) mN cN)) B8))),?_⟩
 refine⟨_,rfl,_,rfl,n,a,rfl,fun h1=>?_,fun h=>qe fun z=>h z.1⟩
 refine⟨_,rfl,_,rfl,n,b,rfl,fun h2=>?_,fun h=>qe fun z=>h z.2.1⟩
 refine⟨_,rfl,_,rfl,rfl,_,rfl,?_⟩
 rw[aC5]
 by_cases e:a=b
 ·rw[decide_eq_true e]
  exact P7 (qe fun z=>z.2.2 e)
 ·rw[decide_eq_false e]
  exact J8 (q ⟨h1,h2,e⟩)
def bo2 (K:W.Frag)(PT:Addr)(b:Bool):Sp:=fun vs H Q _=>∃ (a:Addr) (ns:List Int) (i j:Nat) (g:Nat->Nat->Bool),vs=[.ref a,.int i,.int j]/\Sq K H a ns/\M5 ns/\i<ns.length/\j<ns.length/\i≠j/\Gph g/\(∀ v,v<ns.length->deg ns.length g v=ns.getD v 0)/\g i j=b/\Tb PT H /\
 ∀ (r:Addr) (ks:List (List Int)) (H':Hp),E9 PT H H'->Tb PT H'->aN6 K H' r ns ks->decide (up [(i:Int),(j:Int)]∈ks)=b->bE7 ns i j b ks->Q (.ref r) H'
theorem bv9:r6 ["tally","one","other","ends"] ["tally","one","other"] (m9 aR5):=.mk'
theorem bU6:r6 ["tally","one","other"] ["tally","one","other"] (m9 aR3):=.mk'
set_option maxHeartbeats 1000000 in
theorem bK2 {fF fY PT:Addr}{fdY:FuncData}(F:Fun K "laid_with" "laid_with" aR5 f fd)(FF:Fq K mg "first_of_order" al4 fF fdF ["tally","many","passed_over"])(GF:o9 P w K mg base (CXE P w) 3 fF fdF ["tally","many","passed_over"] (ac5 K PT))
  (FY:Fq K mg "laid_around" aG4 fY fdY ["tally","place","ends"])(GY:o9 P w K mg base CX0 4 fY fdY ["tally","place","ends"] (aK0 K PT)):o9 P w K mg base CX0 5 f fd ["tally","one","other"] (bo2 K PT true):=by
 have GF':o9 P w K mg base (CXE P w) 4 fF fdF ["tally","many","passed_over"] (ac5 K PT):=GF.mono (by decide)
 refine F.ok bv9 (fun cdv A outer s H vs Q E hr h=>?_)
 obtain⟨a,ns,i,j,g,rfl,hS,ht,hi,hj,hij,hg,hd,hb,tb,q⟩:=h
 have hsl:=J1
 refine⟨_,d9 (B5 (i:=3) bv9.nd rfl (Or.inl rfl) (v7 GF' hr (by rfl) FF (Z0 (P:=P) (w:=w)) (a5 (pv 0) (a5 (C0 aq8 (bb3 K rfl (pv 0) (pv 1) (fun _ _=>rfl)) m6) (a5 (P6 (a5 (pv 1) (a5 (pv 2) c6))) c6)))))
  (m5 (x8 (v7 GY hr (by rfl) FY E7 (a5 (pv 0) (a5 (pv 1) (a5 (C0 bb5 (pv 3) (P6 (a5 (pv 2) c6))) c6)))))),?_⟩
 refine⟨_,rfl,_,rfl,_,rfl,ao0 hS hi ⟨_,_,rfl,rfl,_,rfl,_,rfl,(by show 2<=f6;decide),fun pl fpl=>?_⟩⟩
 have s1:=d6 (o:=.lst [.int (i:Int),.int (j:Int)]) fpl
 have tb1:=tb.same s1
 have h0:1<=ns.getD i 0:=by
  rw[<- hd i hi]
  have:=Grf.ak1 (f:=fun v=>Grf.b2 (g i v)) hj (fun i _=>Grf.B1 _)
  have e:Grf.b2 (g i j)=1:=by rw[hb];rfl
  have t:Grf.b2 (g i j)<=deg ns.length g i:=this
  omega
 obtain⟨k,hk⟩:∃ k:Nat,ns.getD i 0 - 1=(k:Int):=⟨(ns.getD i 0 - 1).toNat,by omega⟩
 refine⟨a,pl,ns,[(i:Int),(j:Int)],k,by show [V.ref a,V.int (ns.getD i 0 - 1),V.ref pl]=_;rw[hk],hS.same s1,ht,SqL.of b7,tb1,fun zs D H2 g2 tb2 fD hp hs gD=>?_⟩
 rw[aG6]at gD
 obtain⟨_,hw⟩:=bM2 hg hd hb hi hj hij hp hs
 rw[hk,j2]at hw
 obtain⟨nd,he,hlen,hgr⟩:=hw _ rfl
 have hel:((J7 zs i j).take k++[(j:Int)]).length<=24:=by
  have h1:=aB8 ⟨g,hg,hd⟩ hi
  have:=ht.2
  omega
 refine⟨_,rfl,_,rfl,_,rfl,_,rfl,(by show 1<=f6;decide),fun l1 f1=>?_⟩
 have s3:=d6 (o:=.lst [.int (j:Int)]) f1
 refine⟨D,l1,_,_,rfl,rfl,s3 _ _ gD,b7,by rw[a6,Q0];rw[j7]at hel;show _<=f6;simp at hel ⊢;omega,fun l2 f2=>?_⟩
 have s4:=d6 (o:=.lst (((J7 zs i j).take k).map V.int++[.int (j:Int)])) f2
 have e4:((J7 zs i j).take k).map V.int++[V.int (j:Int)]=((J7 zs i j).take k++[(j:Int)]).map V.int:=by rw[i9];rfl
 have s34:=s3.trans s4
 have g24:E9 PT H _:=((s1.grow PT).trans g2).trans (s34.grow PT)
 refine⟨a,l2,ns,(J7 zs i j).take k++[(j:Int)],i,rfl,hS.grow g24 tb,ht,hi,by rw[<- e4];exact SqL.of b7,nd,hel,he,hlen,hgr,tb2.same s34,fun r t zs' ks H' gr' tb' k1 k2 tt pm so ta ups nd'=>?_⟩
 refine q r ks H' (g24.trans gr') tb' ⟨⟨t,zs',k1,k2,tt⟩,⟨ups,nd',so⟩,ta⟩ (decide_eq_true (pm.mem_iff.mpr ?_)) (by unfold bE7 lwE;rw[<- aL0 hp hs,hk,j2];exact pm)
 refine k8.mpr ⟨[(i:Int),(j:Int)],k7.mpr (.inl ?_),rfl⟩
 exact k8.mpr ⟨(j:Int),k7.mpr (.inr (j6.mpr rfl)),rfl⟩
set_option maxHeartbeats 1000000 in
theorem bK0 {fF fY PT:Addr}{fdY:FuncData}(F:Fun K "laid_without" "laid_without" aR3 f fd)(FF:Fq K mg "first_of_order" al4 fF fdF ["tally","many","passed_over"])(GF:o9 P w K mg base (CXE P w) 3 fF fdF ["tally","many","passed_over"] (ac5 K PT))
  (FY:Fq K mg "laid_around" aG4 fY fdY ["tally","place","ends"])(GY:o9 P w K mg base CX0 4 fY fdY ["tally","place","ends"] (aK0 K PT)):o9 P w K mg base CX0 5 f fd ["tally","one","other"] (bo2 K PT false):=by
 have GF':o9 P w K mg base (CXE P w) 4 fF fdF ["tally","many","passed_over"] (ac5 K PT):=GF.mono (by decide)
 refine F.ok bU6 (fun cdv A outer s H vs Q E hr h=>?_)
 obtain⟨a,ns,i,j,g,rfl,hS,ht,hi,hj,hij,hg,hd,hb,tb,q⟩:=h
 have hsl:=J1
 refine⟨_,m5 (x8 (v7 GY hr (by rfl) FY E7 (a5 (pv 0) (a5 (pv 1) (a5 (v7 GF' hr (by rfl) FF (Z0 (P:=P) (w:=w)) (a5 (pv 0) (a5 (bb3 K rfl (pv 0) (pv 1) (fun _ _=>rfl)) (a5 (P6 (a5 (pv 1) (a5 (pv 2) c6))) c6)))) c6))))),?_⟩
 refine⟨_,rfl,_,rfl,_,rfl,_,rfl,_,rfl,ao0 hS hi ⟨_,rfl,_,rfl,(by show 2<=f6;decide),fun pl fpl=>?_⟩⟩
 have s1:=d6 (o:=.lst [.int (i:Int),.int (j:Int)]) fpl
 have tb1:=tb.same s1
 have h0:=X6 (al7 ⟨g,hg,hd⟩) hi
 obtain⟨k,hk⟩:∃ k:Nat,ns.getD i 0=(k:Int):=⟨(ns.getD i 0).toNat,by omega⟩
 refine⟨a,pl,ns,[(i:Int),(j:Int)],k,by rw[hk];rfl,hS.same s1,ht,SqL.of b7,tb1,fun zs D H2 g2 tb2 fD hp hs gD=>?_⟩
 rw[aG6]at gD
 have hw:=bd0 hg hd hb hi hj hij hp hs
 rw[hk,j2]at hw
 obtain⟨nd,he,hlen,hqe,hgr⟩:=hw _ rfl
 have hlen':(((J7 zs i j).take k).length:Int)=ns.getD i 0:=by rw[hk];exact hlen
 have hel:((J7 zs i j).take k).length<=24:=by
  have h1:=aB8 ⟨g,hg,hd⟩ hi
  have:=ht.2
  omega
 have g12:E9 PT H H2:=(s1.grow PT).trans g2
 refine⟨a,D,ns,(J7 zs i j).take k,i,rfl,hS.grow g12 tb,ht,hi,SqL.of gD,nd,hel,he,hlen',hgr,tb2,fun r t zs' ks H' gr' tb' k1 k2 tt pm so ta ups nd'=>?_⟩
 refine q r ks H' (g12.trans gr') tb' ⟨⟨t,zs',k1,k2,tt⟩,⟨ups,nd',so⟩,ta⟩ (decide_eq_false (bY0 nd hqe (fun z hz=>pm.mem_iff.mpr (k8.mpr ⟨[(i:Int),z],k7.mpr (.inl (k8.mpr ⟨z,hz,rfl⟩)),rfl⟩)) ?_)) (by unfold bE7 lwE;rw[<- aL0 hp hs,hk,j2];exact pm)
 have e:=aQ3 (n:=ns.length) (i:=i) (ks:=ks) hi
 rw[ta]at e
 omega
end
end Web
namespace Web
open PySem L2
open Grf (Gph deg)
theorem aL3 {ts:List Int}(hij:i≠j)(hi:i<ts.length)(hj:j<ts.length)(m:Int):Mvd ts (mv2 ts m [(i:Int),(j:Int)]) i j m:=by
 have e0:([(i:Int),(j:Int)]:List Int).getD 0 0=(i:Int):=rfl
 have e1:([(i:Int),(j:Int)]:List Int).getD 1 0=(j:Int):=rfl
 unfold mv2 mvd
 rw[e0,e1,j2,j2]
 refine⟨by rw[A3,A3],fun v hv=>?_⟩
 have g:∀ (xs:List Int) (k:Nat) (x:Int),k<xs.length->(xs.set k x).getD v 0=if v=k then x else xs.getD v 0:=fun xs k x hk=>by
  rw[c9,c9,W5]
  by_cases e:k=v
  ·rw[if_pos e,if_pos e.symm,if_pos hk];rfl
  ·rw[if_neg e,if_neg (Ne.symm e)]
 have g2:(ts.set i (ts.getD i 0+m)).getD j 0=ts.getD j 0:=by
  rw[c9,D8 (by omega),<- c9]
 rw[g _ _ _ (by rw[A3];exact hj),g2,g _ _ _ hi]
 by_cases c1:v=j
 ·rw[if_pos c1,if_neg (show ¬ v=i by omega),if_pos c1,c1];omega
 ·rw[if_neg c1,if_neg c1]
  by_cases c2:v=i
  ·rw[if_pos c2,if_pos c2,c2];omega
  ·rw[if_neg c2,if_neg c2];omega
theorem aL4 (ns:List Int)(m:Int)(k:List Int):(mv2 ns m k).length=ns.length:=by unfold mv2;rw[an9,an9]
theorem has_both (hij:i≠j)(hi:i<ns.length)(hj:j<ns.length)(h0:Gr ns) :
  (Gr (mv2 ns 1 [(i:Int),(j:Int)])->∃ g,Gph g/\(∀ v,v<ns.length->deg ns.length g v=ns.getD v 0)/\g i j=false)/\(Gr (mv2 ns (-1) [(i:Int),(j:Int)])->∃ g,Gph g/\(∀ v,v<ns.length->deg ns.length g v=ns.getD v 0)/\g i j=true):=by
 obtain⟨g,hg,dg⟩:=h0
 refine⟨fun⟨h,hh,dh⟩=>?_,fun⟨h,hh,dh⟩=>?_⟩
 ·have hm:=aL3 hij hi hj 1
  rw[hm.1]at dh
  exact aV3 hi hj hij hg dg hh fun v hv=>by rw[dh v hv];exact hm.2 v hv
 ·have hm:=aL3 hij hi hj (-1)
  have hl:=hm.1
  have hm':Mvd (mv2 ns (-1) [(i:Int),(j:Int)]) ns i j 1:=⟨hl.symm,fun v hv=>by
   rw[hl]at hv
   rw[hm.2 v hv]
   split<;>split<;>omega⟩
  obtain⟨f,hf,df,fij⟩:=aV3 (ns:=mv2 ns (-1) [(i:Int),(j:Int)]) (i:=i) (j:=j) (by omega) (by omega) hij hh dh hg fun v hv=>by rw[hl]at hv ⊢;rw[dg v hv];exact hm'.2 v (by omega)
  exact⟨Grf.O1 f i j true,Grf.J2 hf hij,ay7 hm' hij (by omega) (by omega) hf df (by rw[fij];rfl),Grf.am8⟩
seal L2.PE L2.PA L2.PS L2.PSs L2.PT
section
variable {K:W.Frag} {mg:Str->Option Value} {base:Heap}
def PTk (K:W.Frag)(PT:Addr)(ns:List Int)(i j:Nat)(H:Hp)(Q:VK):Prop:=
 (∀ (m:Int) (x:Str),(m=1/\x="all")\/(m = -1/\x="none"/\S1 (mv2 ns 1 [(i:Int),(j:Int)]) .free)->¬ S1 (mv2 ns m [(i:Int),(j:Int)]) .free->∀ (r p:Addr) (y:Wl) (H':Hp),E9 PT H H'->Tb PT H'->S1 (mv2 ns m [(i:Int),(j:Int)]) y->y≠.free->H' r=some (.tup [.str x,.ref p])->H' p=some (.tup (wlT y))->Q (.ref r) H') /\
 (S1 (mv2 ns 1 [(i:Int),(j:Int)]) .free->S1 (mv2 ns (-1) [(i:Int),(j:Int)]) .free->∀ (r w1 w2:Addr) (k1 k2:List (List Int)) (H':Hp),E9 PT H H'->Tb PT H'->aN6 K H' w1 ns k1->aN6 K H' w2 ns k2->up [(i:Int),(j:Int)]∈k1->up [(i:Int),(j:Int)]∉k2->bE7 ns i j true k1->bE7 ns i j false k2->H' r=some (.tup [.str "some",.ref w1,.ref w2])->Q (.ref r) H')
def bU4 (K:W.Frag)(PT CB CW CN:Addr):Sp:=fun vs H Q E=>∃ (a:Addr) (ns:List Int) (x y:Int),vs=[.ref a,.int x,.int y]/\Sq K H a ns/\Tb PT H/\(¬ M5 ns->E (.ref CB) none H)/\(M5 ns->¬ S1 ns .free->∀ H',y7 H H'->E (.ref CW) none H')/\(M5 ns->S1 ns .free->¬ bA5 ns.length x y->∀ H',y7 H H'->E (.ref CN) none H')/\(M5 ns->S1 ns .free->∀ i j:Nat,x=i->y=j->i<ns.length->j<ns.length->i≠j->PTk K PT ns i j H Q)
theorem bU9:r6 ["tally","one","other","wall"] ["tally","one","other"] (m9 sPT):=.mk'
set_option maxHeartbeats 2000000 in
theorem cg8 {fH fP fW fM fL fO CW CN PT:Addr}{fdH fdO:FuncData}(F:Fun K "pair_told" "pair_told" sPT f fd)(B:Bn mg)(FH:Fq K mg "check_has_web" bo7 fH fdH ["tally"])(GH:o9 P w K mg base (CXE P w) 5 fH fdH ["tally"] (bg1 K CB CW))
  (FP:Fq K mg "check_pair" bp0 fP fdP ["places","one","other"])(GP:o9 P w K mg base (CXE P w) 5 fP fdP ["places","one","other"] (bg3 CN))
  (FW:Fq K mg "wall_of" az0 fW fdW ["tally"])(GW:o9 P w K mg base (CXE P w) 5 fW fdW ["tally"] (ay5 K CB))
  (FM:Fq K mg "moved_both" bo6 fM fdM ["tally","one","other","more"])(GM:o9 P w K mg base CX0 5 fM fdM ["tally","one","other","more"] (bg0 K))
  (FL:Fq K mg "laid_with" aR5 fL fdL ["tally","one","other"])(GL:o9 P w K mg base CX0 5 fL fdL ["tally","one","other"] (bo2 K PT true))
  (FO:Fq K mg "laid_without" aR3 fO fdO ["tally","one","other"])(GO:o9 P w K mg base CX0 5 fO fdO ["tally","one","other"] (bo2 K PT false)):o9 P w K mg base (CXE P w) 6 f fd ["tally","one","other"] (bU4 K PT CB CW CN):=by
 refine F.okX bU9 (fun cdv A outer s H vs Q E hr h=>?_)
 obtain⟨a,ns,x0,y0,rfl,hS,tb,qb,qw0,qn,q⟩:=h
 have hsl:=J1
 refine⟨_,d9 (K2 (v7 GH hr (by rfl) FH S6 (a5 (pv 0) c6)))
  (d9 (K2 (v7 GP hr (by rfl) FP S6 (a5 (A2 A7 (by rfl) B.len PySem.boot_len (a5 (pv 0) c6)) (a5 (pv 1) (a5 (pv 2) c6)))))
  (d9 (B5 (i:=3) bU9.nd rfl (Or.inl rfl) (v7 GW hr (by rfl) FW (Z0 (P:=P) (w:=w)) (a5 (v7 GM hr (by rfl) FM E7 (a5 (pv 0) (a5 (pv 1) (a5 (pv 2) (a5 m6 c6))))) c6)))
  (d9 (G8 (A4 aw5 (pv 3) az8 (by rfl)) (m5 (x8 (L0 (a5 X0 (a5 (pv 3) c6))))) B8)
  (d9 (B5 (i:=3) bU9.nd rfl (Or.inl rfl) (v7 GW hr (by rfl) FW (Z0 (P:=P) (w:=w)) (a5 (v7 GM hr (by rfl) FM E7 (a5 (pv 0) (a5 (pv 1) (a5 (pv 2) (a5 (bx5 aZ1 m6) c6))))) c6)))
  (d9 (G8 (A4 aw5 (pv 3) az8 (by rfl)) (m5 (x8 (L0 (a5 X0 (a5 (pv 3) c6))))) B8)
  (m5 (x8 (L0 (a5 X0 (a5 (v7 GL hr (by rfl) FL E7 (a5 (pv 0) (a5 (pv 1) (a5 (pv 2) c6)))) (a5 (v7 GO hr (by rfl) FO E7 (a5 (pv 0) (a5 (pv 1) (a5 (pv 2) c6)))) c6))))))))))),?_⟩
 refine⟨_,rfl,a,ns,rfl,hS,fun ht hf H1 s1=>?_,qb,fun ht hn H1 s1=>qw0 ht hn H1 s1⟩
 have hS1:=hS.same s1
 refine⟨_,rfl,a,_,rfl,hS1,_,rfl,_,rfl,ns.length,x0,y0,by rw[a6];rfl,fun hpr=>?_,fun hpr=>qn ht hf hpr H1 s1⟩
 obtain⟨⟨i0,i1⟩,⟨j0,j1⟩,hxy⟩:=hpr
 obtain⟨i,rfl⟩:∃ i:Nat,x0=(i:Int):=⟨x0.toNat,by omega⟩
 obtain⟨j,rfl⟩:∃ j:Nat,y0=(j:Int):=⟨y0.toNat,by omega⟩
 have hi:i<ns.length:=by omega
 have hj:j<ns.length:=by omega
 have hij:i≠j:=by omega
 have tl2:∀ m:Int,M5 (mv2 ns m [(i:Int),(j:Int)]):=fun m=>⟨by rw[aL4];exact ht.1,by rw[aL4];exact ht.2⟩
 obtain⟨qw,qs⟩:=q ht hf i j rfl rfl hi hj hij
 refine⟨_,rfl,_,rfl,_,rfl,a,i,j,1,ns,rfl,hS1,ht,hi,hj,fun l2 H2 s2 f2 g2=>?_⟩
 refine⟨l2,_,rfl,.inl (SqL.of g2),fun _ v x H3 s3 hx3 hv3=>⟨_,rfl,rfl,_,rfl,?_⟩,fun h=>absurd (tl2 1) h⟩
 have s13:=s1.trans (s2.trans s3)
 rcases hv3 with⟨rfl,rfl⟩ | ⟨hx,p,rfl,gp⟩
 ·refine J8 ?_
  have hS3:=hS.same s13
  refine⟨_,rfl,_,rfl,_,rfl,_,rfl,a,i,j,-1,ns,rfl,hS3,ht,hi,hj,fun l4 H4 s4 f4 g4=>?_⟩
  refine⟨l4,_,rfl,.inl (SqL.of g4),fun _ v x H5 s5 hx5 hv5=>⟨_,rfl,rfl,_,rfl,?_⟩,fun h=>absurd (tl2 (-1)) h⟩
  have s15:=s13.trans (s4.trans s5)
  rcases hv5 with⟨rfl,rfl⟩ | ⟨hx,p,rfl,gp⟩
  ·refine J8 ?_
   obtain⟨b1,b2⟩:=has_both hij hi hj (ao1 hf)
   obtain⟨g,hg,dg,gij⟩:=b2 (ao1 hx5)
   obtain⟨g',hg',dg',gij'⟩:=b1 (ao1 hx3)
   have tb5:=tb.same s15
   refine⟨_,rfl,_,rfl,_,rfl,a,ns,i,j,g,rfl,hS.same s15,ht,hi,hj,hij,hg,dg,gij,tb5,fun r1 k1 H6 g6 tb6 w1 d1 l1=>?_⟩
   have g16:E9 PT H H6:=(s15.grow PT).trans g6
   refine⟨_,rfl,_,rfl,_,rfl,a,ns,i,j,g',rfl,hS.grow g16 tb,ht,hi,hj,hij,hg',dg',gij',tb6,fun r2 k2 H7 g7 tb7 w2 d2 l2=>?_⟩
   refine⟨by show 3<=f6;omega,fun r fr=>?_⟩
   have s8:=d6 (o:=.tup [.str "some",.ref r1,.ref r2]) fr
   exact qs hx3 hx5 r r1 r2 k1 k2 _ ((g16.trans g7).trans (s8.grow PT)) (tb7.same s8) ((w1.grow g7 tb6).same s8) (w2.same s8) (of_decide_eq_true d1) (of_decide_eq_false d2) l1 l2 b7
  ·refine P7 ⟨_,rfl,by show 2<=f6;omega,fun r fr=>?_⟩
   have s6:=d6 (o:=.tup [.str "none",.ref p]) fr
   exact qw (-1) "none" (.inr ⟨rfl,rfl,hx3⟩) (ai8 hx5 hx) r p x _ ((s15.trans s6).grow PT) (tb.same (s15.trans s6)) hx5 hx b7 (s6 _ _ gp)
 ·refine P7 ⟨_,rfl,by show 2<=f6;omega,fun r fr=>?_⟩
  have s6:=d6 (o:=.tup [.str "all",.ref p]) fr
  exact qw 1 "all" (.inl ⟨rfl,rfl⟩) (ai8 hx3 hx) r p x _ ((s13.trans s6).grow PT) (tb.same (s13.trans s6)) hx3 hx b7 (s6 _ _ gp)
end
end Web
namespace Web
open PySem L2
theorem by3 (K:W.Frag)(hK:X.K=K):OpR X (Y7 .Add) (bQ5 K):=by subst hK;exact bJ8
seal L2.PE L2.PA L2.PS L2.PSs L2.PT
section
variable {K:W.Frag} {mg:Str->Option Value} {base:Heap}
def bv4 (CM:Addr):Sp:=fun vs H Q E=>∃ n:Nat,vs=[.int n]/\(n<=7->Q .non H)/\(7<n->E (.ref CM) none H)
theorem cf4:r6 ["places"] ["places"] (m9 bw7):=.mk'
theorem bX4 {CM:Addr}{tk:Tok}(F:Fun K "check_few" "check_few" bw7 f fd)(mc:mg "MOST_COUNTED"=some (.int 7 tk))(mM:mg "TooMany"=some (.ref CM))(cM:af2 K CM):o9 P w K mg base (CXE P w) 1 f fd ["places"] (bv4 CM):=by
 refine F.okX cf4 (fun cdv A outer s H vs Q E hr h=>?_)
 obtain⟨n,rfl,q,qe⟩:=h
 refine⟨_,m5 (G8 (A4 aS9 (pv 0) (aw2 (v:=.int 7) (by rfl) mc ⟨tk,rfl⟩) (E1 _)) (m5 (ag3 (by rfl) mM cM)) B8),?_⟩
 refine⟨_,rfl,_,_,rfl,rfl,_,rfl,?_⟩
 by_cases h:(7:Int)<(n:Int)
 ·rw[decide_eq_true h]
  exact P7 (qe (by omega))
 ·rw[decide_eq_false h]
  exact J8 (q (by omega))
def bg4 (K:W.Frag)(CB CM:Addr):Sp:=fun vs H Q E=>∃ (a:Addr) (ns:List Int),vs=[.ref a]/\Sq K H a ns/\(M5 ns->ns.length<=7->Q .non H)/\(¬ M5 ns->E (.ref CB) none H)/\(M5 ns->7<ns.length->E (.ref CM) none H)
theorem cf8:r6 ["tally"] ["tally"] (m9 bp1):=.mk'
theorem bX8 {fT fF CM:Addr}(F:Fun K "check_counted" "check_counted" bp1 f fd)(B:Bn mg)(FT:Fq K mg "check_tally" az5 fT fdT ["tally"])(GT:o9 P w K mg base (CXE P w) 1 fT fdT ["tally"] (aG0 K CB))
  (FF:Fq K mg "check_few" bw7 fF fdF ["places"])(GF:o9 P w K mg base (CXE P w) 1 fF fdF ["places"] (bv4 CM)):o9 P w K mg base (CXE P w) 2 f fd ["tally"] (bg4 K CB CM):=by
 refine F.okX cf8 (fun cdv A outer s H vs Q E hr h=>?_)
 obtain⟨a,ns,rfl,hS,q,qb,qm⟩:=h
 refine⟨_,d9 (K2 (v7 GT hr (by rfl) FT S6 (a5 (pv 0) c6)))
  (m5 (K2 (v7 GF hr (by rfl) FF S6 (a5 (A2 A7 (by rfl) B.len PySem.boot_len (a5 (pv 0) c6)) c6)))),?_⟩
 refine⟨_,rfl,a,ns,rfl,hS,fun ht=>?_,qb⟩
 exact⟨_,rfl,a,_,rfl,hS,ns.length,congrArg (fun z:Nat=>[V.int (z:Int)]) (a6 ..),q ht,qm ht⟩
def bP8 (K:W.Frag)(n:Nat):Sp:=fun vs H Q _=>∃ (a:Addr) (ps:List Int) (m:Int),vs=[.ref a,.int m]/\H a=some (.lst (ps.map V.int))/\ps.length<=n/\n<=6/\∀ (l:Addr) (zs:List V) (H':Hp),y7 H H'->H l=none->H' l=some (.lst zs)->u5 K H' zs (chs ps m)->Q (.ref l) H'
theorem am9:r6 ["places","many","found","ahead","place"] ["places","many"] (m9 bw8):=.mk'
set_option maxHeartbeats 4000000 in
theorem bX6 {fχ:Addr} {fdχ:FuncData} (Fχ:Fq K mg "choices" bw8 fχ fdχ ["places","many"]) (B:Bn mg):∀ n:Nat,o9 P w K mg base CX0 (n+1) fχ fdχ ["places","many"] (bP8 K n):=by
 intro n
 induction n with
 | zero =>
  refine Fχ.F.ok am9 (fun cdv A outer s H vs Q E hr h=>?_)
  ·obtain⟨a,ps,m,rfl,ga,hpl,_,q⟩:=h
   have hsl:=J1
   have hps:ps=[]:=D3.mp (Nat.le_zero.mp hpl)
   subst hps
   refine⟨_,d9 (G8 (A4 Z1 (pv 1) m6 (E1 _)) (m5 (x8 (P6 (a5 (L0 c6) c6)))) B8)
    (d9 (B5 (i:=2) am9.nd rfl (Or.inl rfl) (P6 c6))
    (d9 (aa0 PassesOwn.never rfl (an4 (by rfl) B.enum (a5 (pv 0) c6)) (aq6 rfl (K3 (B0 (i := 3) am9.nd rfl (Or.inl rfl)) (K3 (B0 (i := 4) am9.nd rfl (Or.inr rfl)) ad0)))
     K1)
    (m5 (x8 (pv 2))))),?_⟩
   refine⟨_,rfl,rfl,_,rfl,?_⟩
   rw[aC5]
   by_cases hm:m=0
   ·rw[decide_eq_true hm]
    refine P7 ⟨(by show 0<=f6;omega),fun t ft=>⟨(by show 1<=f6;omega),fun l fl=>?_⟩⟩
    have s1:=d6 (o:=.tup []) ft
    have s2:=d6 (o:=.lst [.ref t]) fl
    refine q l [.ref t] _ (s1.trans s2) (s1.free fl) b7 ?_
    rw[hm,ah0]
    exact u5.one (SqT.of (s2 _ _ b7))
   rw[decide_eq_false hm]
   refine J8 ⟨(by show 0<=f6;omega),fun lf flf=>?_⟩
   have s1:=d6 (o:=.lst []) flf
   have g1:(upd H lf (.lst [])) lf=some (.lst []):=b7
   generalize upd H lf (.lst [])=H1 at s1 g1 ⊢
   refine⟨_,rfl,a,rfl,⟨_,SqL.of (s1 _ _ ga)⟩,aC2 (K:=K) (a:=a) (xs:=[]) (fun _ σ Ha=>σ=[some (.ref a),some (.int m),some (.ref lf),none,none]/\Ha=H1) ⟨rfl,rfl⟩ (fun i σ Ha _ ⟨_,e⟩=>by rw[e];exact SqL.of (s1 _ _ ga)) (fun i x t σ Ha hx=>by cases hx) ?_⟩
   rintro σ Ha ⟨rfl,rfl⟩
   refine⟨_,rfl,q lf [] Ha s1 flf g1 ?_⟩
   unfold chs
   rw[if_neg hm]
   exact .nil
 | succ n ih =>
  refine Fχ.F.ok am9 (fun cdv A outer s H vs Q E hr h=>?_)
  ·obtain⟨a,ps,m,rfl,ga,hpl,hn6,q⟩:=h
   have hsl:=J1
   have nd2:(["rest","place"]:List Str).Nodup:=by decide +kernel
   have h64:2 ^ ps.length<=64:=p8 (at9 (by decide) (p8 hpl hn6)) (by decide)
   refine⟨_,d9 (G8 (A4 Z1 (pv 1) m6 (E1 _)) (m5 (x8 (P6 (a5 (L0 c6) c6)))) B8)
    (d9 (B5 (i:=2) am9.nd rfl (Or.inl rfl) (P6 c6))
    (d9 (aa0 PassesOwn.never rfl (an4 (by rfl) B.enum (a5 (pv 0) c6)) (aq6 rfl (K3 (B0 (i := 3) am9.nd rfl (Or.inl rfl)) (K3 (B0 (i := 4) am9.nd rfl (Or.inr rfl)) ad0)))
     (m5 (bb2 (i:=2) am9.nd rfl (Or.inl rfl) (N4 (N':=["rest","place"]) (lk:=[none,some 4]) rfl (Q2 (v7 ih hr (by rfl) Fχ E7 (a5 (ab1 ai4 (pv 0) (ac9 (C0 X1 (pv 3) m6)) an3) (a5 (C0 aq8 (pv 1) m6) c6)))) (by rfl) rfl (by decide +kernel) (by exact⟨rfl,trivial⟩) (by rfl) (by exact LkL.ok ⟨⟨rfl,Or.inl rfl,rfl,Or.inl rfl⟩,trivial⟩) (fun _ _ _=>B0 (i:=0) nd2 rfl (Or.inl rfl)) (fun _ _ _=>U4) (fun _ _ _=>C0 (by3 K rfl) (L0 (a5 (pv 1) c6)) (pv 0))) bc3)))
    (m5 (x8 (pv 2))))),?_⟩
   refine⟨_,rfl,rfl,_,rfl,?_⟩
   rw[aC5]
   by_cases hm:m=0
   ·rw[decide_eq_true hm]
    refine P7 ⟨(by show 0<=f6;omega),fun t ft=>⟨(by show 1<=f6;omega),fun l fl=>?_⟩⟩
    have s1:=d6 (o:=.tup []) ft
    have s2:=d6 (o:=.lst [.ref t]) fl
    refine q l [.ref t] _ (s1.trans s2) (s1.free fl) b7 ?_
    rw[hm,ah0]
    exact u5.one (SqT.of (s2 _ _ b7))
   rw[decide_eq_false hm]
   refine J8 ⟨(by show 0<=f6;omega),fun lf flf=>?_⟩
   have s1:=d6 (o:=.lst []) flf
   have g1:(upd H lf (.lst [])) lf=some (.lst []):=b7
   generalize upd H lf (.lst [])=H1 at s1 g1 ⊢
   refine⟨_,rfl,a,rfl,⟨_,SqL.of (s1 _ _ ga)⟩,aC2 (K:=K) (a:=a) (xs:=ps.map V.int) (fun i σ Ha=>∃ (zs:List V) (e3 e4:Option V),σ=[some (.ref a),some (.int m),some (.ref lf),e3,e4]/\y7 H Ha/\Ha lf=some (.lst zs)/\u5 K Ha zs (acL ps m i)) ⟨[],none,none,rfl,s1,g1,.nil⟩ (fun i σ Ha _ ⟨_,_,_,_,s,_⟩=>SqL.of (s _ _ ga)) ?_ ?_⟩
   ·rintro i x t σ Ha hx ⟨zs,e3,e4,rfl,sa,gla,tz⟩ ht
    obtain⟨p,hp,rfl⟩:=Z5 hx
    have hi:i<ps.length:=(c7.mp hp).1
    have ep:ps.getD i 0=p:=by rw[c9,hp];rfl
    have st:=d6 (o:=.tup [.int i,.int p]) ht
    have hlen:=bm0 ps m i (by omega)
    have hzl:=tz.len
    have hI:i*2 ^ ps.length<=6*64:=Nat.mul_le_mul (by omega) h64
    refine⟨t,_,rfl,SqT.of b7,rfl,_,_,rfl,_,_,rfl,rfl,?_⟩
    have gla2:=st _ _ gla
    have tz2:=st.tups tz
    have sa2:=sa.trans st
    generalize upd Ha t (.tup [.int i,.int p])=Hb at gla2 tz2 sa2 ⊢
    refine⟨_,rfl,_,rfl,_,rfl,_,_,rfl,rfl,_,rfl,a,_,rfl,SqL.of (sa2 _ _ ga),fun l2 f2=>?_⟩
    have ec:ao3 (ps.map V.int) (some ((i:Int)+1)) none=(ps.drop (i+1)).map V.int:=by rw[show ((i:Int)+1)=((i+1:Nat):Int) by omega,aa2]
    rw[ec]
    have s2:=d6 (o:=.lst ((ps.drop (i+1)).map V.int)) f2
    refine⟨_,rfl,_,_,rfl,rfl,l2,ps.drop (i+1),m - 1,rfl,b7,by rw[A8];omega,by omega,fun lc zc Hc sc flc glc tc=>?_⟩
    have hcl:=ax5 (ps.drop (i+1)) (m - 1)
    have h642:2 ^ (ps.drop (i+1)).length<=64:=p8 (at9 (by decide) (by rw[A8];omega)) h64
    have hzc:=tc.len
    have s2c:=s2.trans sc
    refine⟨lc,rfl,⟨_,SqL.of glc⟩,fun D hD=>N1 (K:=K) (a:=lc) (D:=D) (ys:=zc) (fun j xs σ' H'=>(∃ v,σ'=[v,some (.int p)])/\y7 Hc H'/\H' D=some (.lst xs)/\u5 K H' xs (((chs (ps.drop (i+1)) (m - 1)).take j).map (p::·))) ⟨⟨none,rfl⟩,d6 hD,b7,.nil⟩ (by omega)
     (fun j xs σ' H' hj ⟨_,s6,h6,t6⟩=>⟨SqL.of (s6 _ _ glc),h6,by have:=t6.len;rw[a6,n6]at this;omega⟩) ?_ ?_⟩
    ·rintro j xs y σ' H' N kN hy ⟨⟨v,rfl⟩,s6,h6,t6⟩
     obtain⟨b,E,rfl,hE,hq⟩:=tc.get hy
     have hEl:E.length<=6:=by
      have h1:=ab7 (d5 hE)
      have h2:∀ {ps:List Int} {m:Int} {E:List Int},E∈chs ps m->E.length<=ps.length:=fun {ps}=>by
       induction ps with
       | nil =>
        intro m E h
        unfold chs at h
        split at h
        ·rw[j6.mp h];exact c5 _
        ·exact absurd h C8
       | cons x ps ih2 =>
        intro m E h
        rw[O4]at h
        rcases k7.mp h with h | h
        ·obtain⟨E',h1,rfl⟩:=k8.mp h
         have:=ih2 h1
         rw[a9,a9]
         omega
        ·have:=ih2 h
         rw[a9]
         omega
      have h3:=h2 (d5 hE)
      rw[A8]at h3
      omega
     refine B2 (P9 ?_)
     refine⟨_,rfl,(by show 1<=f6;omega),fun t1 ft1=>?_⟩
     have s7:=d6 (o:=.tup [.int p]) ft1
     refine⟨_,rfl,t1,b,[.int p],E.map V.int,rfl,rfl,SqT.of b7,(s6.trans s7).seqT hq,(by intro z;cases z),by rw[a6];show 1+E.length<=_;omega,fun hnil=>?_,fun hnil r fr=>?_⟩
     ·have h6':=s7 _ _ h6
      refine⟨h6',kN _ _ _ ⟨⟨_,rfl⟩,(s6.trans s7).upd hD,b7,?_⟩⟩
      have e0:E=[]:=List.map_eq_nil_iff.mp hnil
      rw[o6,hE,i9,e0]
      exact u5.updL h6' (u5.append (s7.tups t6) (u5.one (SqT.of b7)))
     ·have s8:=d6 (o:=.tup ([.int p]++E.map V.int)) fr
      have h6':=(s7.trans s8) _ _ h6
      refine⟨h6',kN _ _ _ ⟨⟨_,rfl⟩,(s6.trans (s7.trans s8)).upd hD,b7,?_⟩⟩
      rw[o6,hE,i9]
      exact u5.updL h6' (u5.append ((s7.trans s8).tups t6) (u5.one (SqT.of b7)))
    ·rintro xs σ' Hd ⟨⟨v,rfl⟩,s6,h6,t6⟩
     rw[i8 (by omega)]at t6
     have hxl:=t6.len
     rw[a6]at hxl
     have sbd:=s2c.trans s6
     have gld:=sbd _ _ gla2
     refine⟨lf,D,zs,xs,rfl,rfl,gld,h6,by omega,?_⟩
     refine⟨zs++xs,_,_,rfl,(sa2.trans sbd).upd flf,b7,?_⟩
     rw[aX8,ep]
     exact u5.updL gld (u5.append (sbd.tups tz2) t6)
   ·rintro σ Ha ⟨zs,e3,e4,rfl,sa,gla,tz⟩
    rw[a6,bm1 ps hm]at tz
    exact⟨_,rfl,q lf zs Ha sa flf gla tz⟩
def bv5 (K:W.Frag):Sp:=fun vs H Q _=>∃ (a:Addr) (x:Int) (c:List Int),vs=[.ref a]/\Sq K H a (x::c)/\c.length<=6/\∀ (l:Addr) (zs:List V) (H':Hp),y7 H H'->H l=none->H' l=some (.lst zs)->u5 K H' zs (chs (J3 1 c.length) x)->Q (.ref l) H'
theorem ck5:r6 ["left"] ["left"] (m9 sFE):=.mk'
theorem cg9 {fC:Addr}(F:Fun K "first_ends" "first_ends" sFE f fd)(B:Bn mg)(FC:Fq K mg "choices" bw8 fC fdC ["places","many"]):o9 P w K mg base CX0 8 f fd ["left"] (bv5 K):=by
 have GC:o9 P w K mg base CX0 7 fC fdC ["places","many"] (bP8 K 6):=bX6 FC B 6
 refine F.ok ck5 (fun cdv A outer s H vs Q E hr h=>?_)
 obtain⟨a,x,c,rfl,hS,hc,q⟩:=h
 refine⟨_,m5 (x8 (v7 GC hr (by rfl) FC E7 (a5 (T9 (aF0 rfl) (by rfl) B.list (by rfl) (a5 (bJ4 (by rfl) B.range (a5 m6 (a5 (A2 A7 (by rfl) B.len PySem.boot_len (a5 (pv 0) c6)) c6))) c6)) (a5 (Y9 K rfl (pv 0) m6 (fun _ _=>rfl)) c6)))),?_⟩
 refine⟨_,rfl,a,_,rfl,hS,1,((x::c).length:Int),congrArg (fun z:Nat=>[V.int 1,V.int (z:Int)]) (a6 ..),fun r3 f3=>?_⟩
 have s3:=d6 (o:=.rng 1 ((x::c).length:Int)) f3
 refine⟨r3,1,((x::c).length:Int),c.length,rfl,b7,by rw[a9];omega,by omega,by decide,by decide,fun l4 f4=>?_⟩
 have s4:=d6 (o:=.lst ((J3 1 c.length).map V.int)) f4
 have s34:=s3.trans s4
 refine⟨_,rfl,ao0 (ns:=x::c) (j:=0) (hS.same s34) (by rw[a9];omega) ⟨l4,J3 1 c.length,x,rfl,b7,by unfold J3;rw[a6,D9];exact hc,by decide,fun l zs H' s f g t=>?_⟩⟩
 exact q l zs H' (s34.trans s) (s34.free f) g t
end
end Web
namespace Web
open L2
def bin:Nat->Int->Nat
 | 0,m=>if m=0 then 1 else 0
 | n+1,m=>bin n (m - 1)+bin n m
theorem aN3:∀ (ps:List Int) (m:Int),(chs ps m).length=bin ps.length m
 | [],m=>by
  unfold chs
  show _=if m=0 then 1 else 0
  split<;>rfl
 | p::ps,m=>by
  rw[O4,j7,a6,aN3 ps,aN3 ps]
  rfl
theorem ax6:∀ (n:Nat) {m:Int},m<0\/(n:Int)<m->bin n m=0
 | 0,m,h=>by unfold bin;rw[if_neg (by omega)]
 | n+1,m,h=>by unfold bin;rw[ax6 n (by omega),ax6 n (by omega)]
def bnd (n:Nat):Nat:=([1,1,2,3,6,10,20]:List Nat).getD n 0
theorem bl8:∀ n:Nat,n<7->∀ k:Nat,k<7->bin n (k:Int)<=bnd n:=by decide +kernel
theorem bl5 (ps:List Int)(h:ps.length<=6)(m:Int):(chs ps m).length<=bnd ps.length:=by
 rw[aN3]
 by_cases c:m<0\/(ps.length:Int)<m
 ·rw[ax6 _ c];exact o5 _
 ·obtain⟨k,rfl⟩:∃ k:Nat,m=(k:Int):=⟨m.toNat,by omega⟩
  exact bl8 _ (by omega) k (by omega)
def Tn:Nat->Nat
 | 0=>0
 | m+1=>1+bnd m*Tn m
theorem bR1:∀ m:Nat,m<8->Tn m<=19421:=by decide +kernel
theorem aX5:∀ m:Nat,m<7->∀ k:Nat,k<=m->bnd k<=bnd m:=by decide +kernel
theorem ay3 (f:List Int->Nat):∀ l:List (List Int),(l.map fun E=>((f E:Nat):Int)).sum=((l.map f).sum:Nat)
 | []=>rfl
 | E::l=>by rw[i7,u7,i7,u7,ay3 f l];omega
end Web
namespace Web
open PySem L2
theorem bc7 {k:Nat}(hr:X7 k A):A.units+1<aj9:=by have:=hr.units;omega
theorem aB6 (xs:List Int):(xs.map (Sum.inl:Int->Key)).map kV=xs.map V.int:=by rw[C2];rfl
theorem bj2:∀ {xs ys:List Int},xs.map (Sum.inl:Int->Key)=ys.map Sum.inl->xs=ys
 | [],[],_=>rfl
 | [],_::_,h=>by cases h
 | _::_,[],h=>by cases h
 | x::xs,y::ys,h=>by
  rw[i7,i7]at h
  injection h with h1 h2
  injection h1 with h1
  rw[h1,bj2 h2]
theorem ce6:10000001<=f6:=by decide
def Kn (kvs:List (List Key × V)):Prop:=∀ (key:List Int) (v:V),W9 kvs (key.map Sum.inl)=some v->v=.int (cnt key)
theorem Kn.nil:Kn []:=fun _ _ h=>by cases h
theorem Kn.put (h:Kn kvs)(key:List Int):Kn (putK kvs (key.map Sum.inl) (.int (cnt key))):=fun key' v e=>by
 rw[aQ0]at e
 by_cases c:key'.map (Sum.inl:Int->Key)=key.map Sum.inl
 ·rw[if_pos c]at e
  injection e with e
  rw[bj2 c,<- e]
 ·rw[if_neg c]at e
  exact h key' v e
section
variable {K:W.Frag} {d:Addr} (gQ:E9 d H H') (hdQ:H d=some (.dT kvs))
include gQ hdQ
theorem aC0 (h:H a=some (.lst xs)):H' a=some (.lst xs):=gQ a _ (fun z=>by rw[z,hdQ]at h;cases h) h
theorem bB8 (h:H a=some (.tup xs)):H' a=some (.tup xs):=gQ a _ (fun z=>by rw[z,hdQ]at h;cases h) h
theorem bd3 (h:SqT K H a xs):SqT K H' a xs:=by
 rcases h with(h | ⟨o,h⟩) | h
 ·exact .inl (.inl (gQ a _ (fun z=>by rw[z,hdQ]at h;cases h) h))
 ·exact .inl (.inr ⟨o,gQ a _ (fun z=>by rw[z,hdQ]at h;cases h) h⟩)
 ·exact .inr h
end
theorem bk5 {d:Addr}(h:H d=none)(g:E9 d H H'):y7 H H':=fun b o e=>g b o (fun z=>by rw[z,h]at e;cases e) e
theorem bB7 {d D:Addr}{o:HO}(g:E9 d H H')(h:H D=none):E9 d H (upd H' D o):=fun b u hb hu=>by
 rw[p6 (t4 hu h)]
 exact g b u hb hu
theorem bZ4 {d:Addr}{o:HO}(g:E9 d H H'):E9 d H (upd H' d o):=fun b u hb hu=>by
 rw[p6 hb]
 exact g b u hb hu
seal L2.PE L2.PA L2.PS L2.PSs L2.PT
section
variable {K:W.Frag} {mg:Str->Option Value} {base:Heap}
def KnQ (kvs:List (List Key × V))(d:Addr)(H:Hp)(m v:Nat)(Q:VK):Prop:=∀ (kvs':List (List Key × V)) (H':Hp),E9 d H H'->H' d=some (.dT kvs')->Kn kvs'->kvs'.length<=kvs.length+m->Q (.int v) H'
def bg2 (K:W.Frag)(m:Nat):Sp:=fun vs H Q _=>∃ (a d:Addr) (ns:List Int) (kvs:List (List Key × V)),vs=[.ref a,.ref d]/\Sq K H a ns/\ns.length<=m/\m<=7/\H d=some (.dT kvs)/\Kn kvs/\kvs.length+Tn m<=10000000/\KnQ kvs d H (Tn m) (cnt ns) Q
def bg6 (K:W.Frag)(m:Nat):Sp:=fun vs H Q _=>∃ (a e d:Addr) (x:Int) (c E:List Int) (kvs:List (List Key × V)),vs=[.ref a,.ref e,.ref d]/\Sq K H a (x::c)/\c.length<=m/\m<=6/\SqT K H e (E.map V.int)/\H d=some (.dT kvs)/\Kn kvs/\kvs.length+Tn m<=10000000/\KnQ kvs d H (Tn m) (cnt (M6 1 E c)) Q
theorem cf9:r6 ["left","ends","known"] ["left","ends","known"] (m9 bp2):=.mk'
theorem by9 {fL fC:Addr}{m:Nat}(F:Fun K "count_behind" "count_behind" bp2 f fd)(B:Bn mg)(FL:Fq K mg "left_of_others" az3 fL fdL ["tally","place","ends"])
  (FC:Fq K mg "count_of" bo8 fC fdC ["left","known"])(GC:o9 P w K mg base CX0 (n+1) fC fdC ["left","known"] (bg2 K m)):o9 P w K mg base CX0 (n+2) f fd ["left","ends","known"] (bg6 K m):=by
 have GL:o9 P w K mg base CX0 (n+1) fL fdL ["tally","place","ends"] (aZ7 K):=(bi5 FL.F B).mono (by omega)
 refine F.ok cf9 (fun cdv A outer s H vs Q E hr h=>?_)
 obtain⟨a,e,d,x,c,E,kvs,rfl,hS,hc,hm,hE,gd,kn,hl,q⟩:=h
 refine⟨_,m5 (x8 (v7 GC hr (by rfl) FC E7 (a5 (v7 GL hr (by rfl) FL E7 (a5 (pv 0) (a5 m6 (a5 (pv 1) c6)))) (a5 (pv 2) c6)))),?_⟩
 refine⟨_,rfl,_,rfl,a,e,x::c,E,0,rfl,hS,by rw[a9];omega,.inr hE,fun l H1 s1 fl gl=>?_⟩
 rw[bz4]at gl
 refine⟨_,rfl,l,d,M6 1 E c,kvs,rfl,.inl (SqL.of gl),by rw[ab6];exact hc,by omega,s1 _ _ gd,kn,hl,fun kvs' H' g' gd' kn' hl'=>?_⟩
 exact q kvs' H' ((s1.grow d).trans g') gd' kn' hl'
theorem bw1:r6 ["left","known","numbers"] ["left","known"] (m9 bo8):=.mk'
theorem bu2 {K:W.Frag}(h:Sq K H a ns):ca5 K (.ref a) H (!(ns.map V.int).isEmpty):=h.elim (fun h=>.inl ⟨_,h,rfl⟩) fun h=>.inr (.inl ⟨_,h,rfl⟩)
set_option maxHeartbeats 4000000 in
theorem bX5 {fχ fγ fE fB fL:Addr} {fdχ fdγ fdE fdB:FuncData} (Fχ:Fq K mg "count_of" bo8 fχ fdχ ["left","known"]) (B:Bn mg) (Fγ:Fq K mg "falling" az4 fγ fdγ ["tally"])
  (FE:Fq K mg "first_ends" sFE fE fdE ["left"]) (GE:o9 P w K mg base CX0 8 fE fdE ["left"] (bv5 K))
  (FB:Fq K mg "count_behind" bp2 fB fdB ["left","ends","known"]) (FL:Fq K mg "left_of_others" az3 fL fdL ["tally","place","ends"]):∀ m:Nat,o9 P w K mg base CX0 (2*m+9) fχ fdχ ["left","known"] (bg2 K m):=by
 intro m
 induction m with
 | zero =>
  refine Fχ.F.ok bw1 (fun cdv A outer s H vs Q E hr h=>?_)
  ·obtain⟨a,d,ns,kvs,rfl,hS,hn,_,gd,kn,hl,q⟩:=h
   have e0:ns=[]:=D3.mp (Nat.le_zero.mp hn)
   subst e0
   refine⟨_,d9 (G8 (ac8 (an2 (pv 0) (fun _=>rfl))) (m5 (x8 m6)) B8) K1,?_⟩
   refine⟨_,rfl,_,bu2 hS,P7 ?_⟩
   exact q kvs H (E9.refl d H) gd kn (L7 _ _)
 | succ m ih =>
  have GB:o9 P w K mg base CX0 (2*m+10) fB fdB ["left","ends","known"] (bg6 K m):=by9 (n:=2*m+8) FB.F B FL Fχ ih
  have GE':o9 P w K mg base CX0 (2*m+10) fE fdE ["left"] (bv5 K):=GE.mono (by omega)
  have GF:o9 P w K mg base CX0 (2*m+10) fγ fdγ ["tally"] (aZ8 K):=(bi6 Fγ.F B).mono (by omega)
  refine Fχ.F.ok bw1 (fun cdv A outer s H vs Q E hr h=>?_)
  ·obtain⟨a,d,ns,kvs,rfl,hS,hn,hm7,gd,kn,hl,q⟩:=h
   have hsl:=J1
   have hbig:=ce6
   have nd3:(["ends","numbers","known"]:List Str).Nodup:=by decide +kernel
   refine⟨_,d9 (G8 (ac8 (an2 (pv 0) (fun _=>rfl))) (m5 (x8 m6)) B8)
    (d9 (B5 (i:=2) bw1.nd rfl (Or.inr rfl) (T9 aa3 (by rfl) B.tuple (by rfl) (a5 (v7 GF hr (by rfl) Fγ E7 (a5 (pv 0) c6)) c6)))
    (aw1 (G8 (bV6 (bp5 (bc7 hr) (pv 2) (pv 1))) (m5 (bJ2 (bc7 hr) (pv 1) (pv 2) (A2 (ah1 rfl) (by rfl) B.sum (by rfl) (a5
      (N4 (N' := ["ends", "numbers", "known"]) (lk := [none, some 2, some 1]) rfl (Q2 (v7 GE' hr (by rfl) FE E7 (a5 (pv 2) c6))) (by rfl) rfl (by decide +kernel) (by exact ⟨rfl, rfl, trivial⟩) (by rfl) (by exact LkL.ok ⟨⟨rfl, Or.inl rfl, rfl, Or.inl rfl⟩, ⟨rfl, Or.inl rfl, rfl, Or.inl rfl⟩, trivial⟩)
       (fun _ _ _=>B0 (i:=0) nd3 rfl (Or.inl rfl)) (fun _ _ _=>U4) (fun _ _ _=>v7 GB hr (by rfl) FB E7 (a5 (pv 1) (a5 (pv 0) (a5 (pv 2) c6))))) c6)) rfl)) B8)
    (m5 (x8 (bJ5 (bc7 hr) (pv 1) (pv 2) (fun _ _=>rfl)))))),?_⟩
   refine⟨_,rfl,_,bu2 hS,?_⟩
   rcases ns with _ | ⟨n0,nr⟩
   ·refine P7 ?_
    exact q kvs H (E9.refl d H) gd kn (L7 _ _)
   refine J8 ⟨_,rfl,a,_,rfl,hS,by rw[a9]at hn ⊢;omega,fun lf H1 s1 flf glf=>?_⟩
   refine⟨lf,_,rfl,.inl ⟨SqL.of glf,fun nb fnb=>?_⟩⟩
   have s2:=d6 (o:=.tup ((up2 (n0::nr)).reverse.map V.int)) fnb
   have gnb:(upd H1 nb (.tup ((up2 (n0::nr)).reverse.map V.int))) nb=some (.tup ((up2 (n0::nr)).reverse.map V.int)):=b7
   have s12:=s1.trans s2
   generalize upd H1 nb (.tup ((up2 (n0::nr)).reverse.map V.int))=H2 at s12 gnb ⊢
   refine B2 ?_
   have gd2:=s12 _ _ gd
   have hperm:((up2 (n0::nr)).reverse).Perm (n0::nr):=(Q7 _).trans (PySem.W.sortI_perm _)
   have hcnt:cnt (n0::nr)=cnt (up2 (n0::nr)).reverse:=ar7 _ _ hperm.symm
   have hul:((up2 (n0::nr)).reverse).length=(n0::nr).length:=hperm.length_eq
   generalize hus:(up2 (n0::nr)).reverse=us at gnb hcnt hul
   rcases us with _ | ⟨x,c⟩
   ·cases hul
   have hcl:c.length<=m:=by rw[a9]at hul;rw[a9]at hn;rw[a9]at hul;omega
   have hT:Tn (m+1)=1+bnd m*Tn m:=rfl
   have hbm:bnd c.length<=bnd m:=aX5 m (by omega) _ hcl
   refine⟨fun σ Hn=>∃ kvs',σ=[some (.ref a),some (.ref d),some (.ref nb)]/\E9 d H Hn/\Hn d=some (.dT kvs')/\Kn kvs'/\kvs'.length<=kvs.length+Tn (m+1)/\Hn nb=some (.tup ((x::c).map V.int))/\(W9 kvs' ((x::c).map Sum.inl)).isSome=true,?_,?_⟩
   ·refine⟨_,rfl,_,rfl,d,_,rfl,aO0.t (k:=(x::c).map Sum.inl) gd2 (by rw[aB6];exact gnb),_,rfl,?_⟩
    cases hv:W9 kvs ((x::c).map Sum.inl) with
    | some v =>
     exact J8 ⟨kvs,rfl,s12.grow d,gd2,kn,L7 _ _,gnb,by rw[hv];rfl⟩
    | none =>
     refine P7 ⟨_,rfl,nb,x,c,rfl,.inr (SqT.of gnb),by omega,fun le ze H3 s3 fle gle te=>?_⟩
     have gd3:=s3 _ _ gd2
     have gnb3:=s3 _ _ gnb
     have hze:=te.len
     have hEl:=bl5 (J3 1 c.length) (by unfold J3;rw[a6,D9];omega) x
     have hrl:(J3 1 c.length).length=c.length:=by unfold J3;rw[a6,D9]
     rw[hrl]at hEl
     have hb20:bnd m<=20:=by
      have:∀ m:Nat,m<7->bnd m<=20:=by decide +kernel
      exact this m (by omega)
     have dne:∀ {D:Addr},H3 D=none->D≠d:=fun {D} h z=>by rw[z,gd3]at h;cases h
     refine⟨le,rfl,⟨_,SqL.of gle⟩,fun D hD=>N1 (K:=K) (a:=le) (D:=D) (ys:=ze) (fun i xs σ' H'=>(∃ v,σ'=[v,some (.ref nb),some (.ref d)])/\E9 d H3 H'/\H' D=some (.lst xs)/\xs=(((chs (J3 1 c.length) x).take i).map fun E=>((cnt (M6 1 E c):Nat):Int)).map V.int/\∃ kvs',H' d=some (.dT kvs')/\Kn kvs'/\kvs'.length<=kvs.length+i*Tn m)
      ⟨⟨none,rfl⟩,(d6 hD).grow d,b7,rfl,kvs,by rw[p6 (dne hD).symm];exact gd3,kn,L7 _ _⟩ (by omega)
      (fun i xs σ' H' hi ⟨_,g1,h1,e1,_⟩=>⟨SqL.of (aC0 g1 gd3 gle),h1,by rw[e1,a6,a6,n6];omega⟩) ?_ ?_⟩
     ·rintro i xs y σ' H' N kN hy ⟨⟨v,rfl⟩,g1,h1,rfl,kvs',gd',kn',hl'⟩
      obtain⟨b,E,rfl,hE,hq⟩:=te.get hy
      have hi:i<ze.length:=(c7.mp hy).1
      have hiT:i*Tn m+Tn m<=bnd m*Tn m:=by
       rw[<- Y1]
       exact au0 _ (by omega)
      refine B2 (P9 ?_)
      refine⟨_,rfl,_,rfl,_,rfl,nb,b,d,x,c,E,kvs',rfl,.inr (SqT.of (bB8 g1 gd3 gnb3)),hcl,by omega,bd3 g1 gd3 hq,gd',kn',by omega,fun kvs2 H4 g4 gd4 kn4 hl4=>?_⟩
      have h4:H4 D=some (.lst _):=aC0 g4 gd' h1
      refine⟨h4,kN _ _ _ ⟨⟨_,rfl⟩,bB7 (g1.trans g4) hD,b7,?_,kvs2,by rw[p6 (dne hD).symm];exact gd4,kn4,by rw[Y1];omega⟩⟩
      rw[o6,hE,i9,i9]
      rfl
     ·rintro xs σ' H4 ⟨⟨v,rfl⟩,g4,h4,rfl,kvs4,gd4,kn4,hl4⟩
      rw[i8 (by omega)]at h4
      refine⟨D,_,rfl,SqL.of h4,?_⟩
      have hsum:((chs (J3 1 c.length) x).map fun E=>((cnt (M6 1 E c):Nat):Int)).sum=((cnt (x::c):Nat):Int):=by
       rw[ay3 (fun E=>cnt (M6 1 E c)),aj5,cnt_cons]
      rw[hsum]
      have hlk:ze.length*Tn m<=bnd m*Tn m:=au0 _ (by omega)
      have gnb4:=bB8 g4 gd3 gnb3
      refine⟨_,rfl,_,rfl,d,_,rfl,bE9.t (k:=(x::c).map Sum.inl) (v:=.int (cnt (x::c))) gd4 (by rw[aB6];exact gnb4) (by omega),?_⟩
      refine⟨_,rfl,bZ4 (((s12.trans s3).grow d).trans g4),b7,kn4.put _,?_,?_,?_⟩
      ·have:=ag6 kvs4 ((x::c).map Sum.inl) (.int (cnt (x::c)))
       omega
      ·rw[p6 (fun z=>by rw[z,gd4]at gnb4;cases gnb4)];exact gnb4
      ·rw[aQ0,if_pos rfl];rfl
   ·rintro σ Hn ⟨kvs',rfl,gn,gdn,knn,hln,gnbn,hs⟩
    obtain⟨v,hv⟩:=v9.mp hs
    obtain rfl:=knn _ _ hv
    refine⟨_,rfl,_,rfl,d,.int (cnt (x::c)),rfl,by rw[<- hv];exact aO0.t (k:=(x::c).map Sum.inl) gdn (by rw[aB6];exact gnbn),?_⟩
    rw[<- hcnt]
    exact q kvs' Hn gn gdn knn hln
def bP7 (K:W.Frag)(CB CM:Addr):Sp:=fun vs H Q E=>∃ (a:Addr) (ns:List Int),vs=[.ref a]/\Sq K H a ns/\(M5 ns->ns.length<=7->∀ H':Hp,y7 H H'->Q (.int (cnt ns)) H')/\(¬ M5 ns->E (.ref CB) none H)/\(M5 ns->7<ns.length->E (.ref CM) none H)
theorem cf2:r6 ["tally"] ["tally"] (m9 bw6):=.mk'
theorem bX2 {fC fN CM:Addr}{fdN:FuncData}(F:Fun K "how_many" "how_many" bw6 f fd)(FC:Fq K mg "check_counted" bp1 fC fdC ["tally"])(GC:o9 P w K mg base (CXE P w) 23 fC fdC ["tally"] (bg4 K CB CM))
  (FN:Fq K mg "count_of" bo8 fN fdN ["left","known"])(GN:o9 P w K mg base CX0 23 fN fdN ["left","known"] (bg2 K 7)):o9 P w K mg base (CXE P w) 24 f fd ["tally"] (bP7 K CB CM):=by
 refine F.okX cf2 (fun cdv A outer s H vs Q E hr h=>?_)
 obtain⟨a,ns,rfl,hS,q,qb,qm⟩:=h
 refine⟨_,d9 (K2 (v7 GC hr (by rfl) FC S6 (a5 (pv 0) c6)))
  (m5 (x8 (v7 GN hr (by rfl) FN E7 (a5 (pv 0) (a5 aS6 c6))))),?_⟩
 refine⟨_,rfl,a,ns,rfl,hS,fun ht h7=>?_,qb,qm⟩
 refine⟨_,rfl,fun d fd=>?_⟩
 have s1:=d6 (o:=.dT []) fd
 refine⟨a,d,ns,[],rfl,hS.same s1,h7,by decide,b7,Kn.nil,by show 0+Tn 7<=_;have:=bR1 7 (by decide);omega,fun kvs' H' g' gd' kn' hl'=>?_⟩
 exact q ht h7 H' (bk5 fd ((s1.grow d).trans g'))
end
end Web
namespace Web
open L2
theorem aA0:∀ c:List Int,(outs c).map Prod.fst=c
 | []=>rfl
 | x::c=>by
  show x::((outs c).map fun p=>(p.1,x::p.2)).map Prod.fst=_
  rw[C2]
  show x::(outs c).map Prod.fst=_
  rw[aA0 c]
def gg (a:Int)(c:List Int)(x:Int):Nat:=two a x (c.erase x)
theorem bu1 {a x:Int}{l:List Int}(h:(x::l).Perm c):two a x l=gg a c x:=by
 have:=h.erase x
 rw[List.erase_cons_head]at this
 exact bt9 this
theorem bU3 (a:Int)(c:List Int):(c.map (gg a c)).sum=a.toNat*cnt (a::c):=by
 have h:=aJ7 (c:=c) (f:=cnt) (a:=a) ar7
 rw[cnt_cons,<- h]
 conv=>lhs;rw[<- aA0 c]
 rw[C2,aA0 c]
 refine congrArg bs8 (o8 fun p hp=>?_)
 exact(bu1 (aG5 hp)).symm
def bJ6 (ns:List Int)(i:Nat):List Int:=((n8 ns.length).filter fun k=>decide (k≠i)).map fun k=>ns.getD k 0
def R8 (ns:List Int)(i j:Nat):List Int:=((n8 ns.length).filter fun k=>decide (k≠i) && decide (k≠j)).map fun k=>ns.getD k 0
theorem bp3 (ns:List Int):(n8 ns.length).map (fun k=>ns.getD k 0)=ns:=by
 have:=map_getD (fun z=>z) ns
 rw[aI8]at this
 exact this
theorem ai7 (h:i<ns.length):(ns.getD i 0::bJ6 ns i).Perm ns:=by
 conv=>rhs;rw[<- bp3 ns]
 refine List.Perm.map (fun k=>ns.getD k 0) (l₁:=i::(n8 ns.length).filter fun k=>decide (k≠i)) ?_
 refine(ae3 ?_ Y5).mpr fun k=>?_
 ·refine C7.mpr ⟨fun z=>?_,Y5.filter _⟩
  have:=(u4.mp z).2
  simp at this
 ·rw[d3,u4,u6,decide_eq_true_eq]
  by_cases e:k=i
  ·subst e;exact⟨fun _=>h,fun _=>.inl rfl⟩
  ·exact⟨fun z=>(z.resolve_left e).1,fun z=>.inr ⟨z,e⟩⟩
theorem ai6 (hi:i<ns.length)(hj:j<ns.length)(hij:i≠j):(ns.getD j 0::R8 ns i j).Perm (bJ6 ns i):=by
 refine List.Perm.map (fun k=>ns.getD k 0) (l₁:=j::(n8 ns.length).filter fun k=>decide (k≠i) && decide (k≠j)) (l₂:=(n8 ns.length).filter fun k=>decide (k≠i)) ?_
 refine(ae3 ?_ (Y5.filter _)).mpr fun k=>?_
 ·refine C7.mpr ⟨fun z=>?_,Y5.filter _⟩
  have:=(u4.mp z).2
  simp at this
 ·rw[d3,u4,u4,u6,x6,decide_eq_true_eq,decide_eq_true_eq]
  by_cases e:k=j
  ·subst e;exact⟨fun _=>⟨hj,Ne.symm hij⟩,fun _=>.inl rfl⟩
  ·exact⟨fun z=>⟨(z.resolve_left e).1,(z.resolve_left e).2.1⟩,fun z=>.inr ⟨z.1,z.2,e⟩⟩
theorem by1 (ns:List Int)(i j:Nat):R8 ns i j=R8 ns j i:=by
 unfold R8
 congr 1
 exact cb2 fun k _=>Bool.and_comm _ _
def inH (ns:List Int)(i j:Nat):Nat:=two (ns.getD i 0) (ns.getD j 0) (R8 ns i j)
theorem bk1 (ns:List Int)(i j:Nat):inH ns i j=inH ns j i:=by unfold inH;rw[bH7,by1]
theorem bB1 (hi:i<ns.length)(hj:j<ns.length)(hij:i≠j):inH ns i j<=cnt ns:=by
 refine p8 (bT3 _ _ _) (af5 (ar7 _ _ ?_))
 exact((ai6 hi hj hij).cons _).trans (ai7 hi)
theorem bM1 (hi:i<ns.length):(((n8 ns.length).filter fun k=>decide (k≠i)).map fun j=>inH ns i j).sum=(ns.getD i 0).toNat*cnt ns:=by
 have h:=bU3 (ns.getD i 0) (bJ6 ns i)
 rw[ar7 _ _ (ai7 hi)]at h
 rw[<- h]
 unfold bJ6
 rw[C2]
 refine congrArg bs8 (o8 fun j hj=>?_)
 obtain⟨h1,h2⟩:=u4.mp hj
 have h3:j≠i:=of_decide_eq_true h2
 exact bu1 (ai6 hi (u6.mp h1) (Ne.symm h3))
end Web
namespace Web
open PySem L2
def ot2 (ns:List Int)(i j k:Nat):List Int:=((n8 k).filter fun k=>decide (k≠i) && decide (k≠j)).map fun k=>ns.getD k 0
theorem by2 (ns:List Int)(i j k:Nat):ot2 ns i j (k+1)=ot2 ns i j k++(if k≠i/\k≠j then [ns.getD k 0] else []):=by
 unfold ot2
 rw[E4,B4,i9]
 by_cases h:k≠i/\k≠j
 ·rw[if_pos h,C9 (by rw[x6,decide_eq_true_eq,decide_eq_true_eq];exact h)];rfl
 ·rw[if_neg h,D0 (by rw[x6,decide_eq_true_eq,decide_eq_true_eq];exact h)];rfl
theorem bJ7 (ns:List Int)(i j k:Nat):(ot2 ns i j k).length<=k:=by
 unfold ot2
 rw[a6]
 exact p8 (E8 _ _) (by rw[C1];exact c5 _)
theorem bD5 {x:List (List Int)}{E:List Int}(h:x[i]?=some E):(x.take (i+1)).filter (fun E=>decide ((1:Int)∈E))=(x.take i).filter (fun E=>decide ((1:Int)∈E))++(if (1:Int)∈E then [E] else []):=by
 rw[o6,h,O9,B4]
 by_cases c:(1:Int)∈E
 ·rw[if_pos c,C9 (by rw[decide_eq_true_eq];exact c)];rfl
 ·rw[if_neg c,D0 (by rw[decide_eq_true_eq];exact c)];rfl
seal L2.PE L2.PA L2.PS L2.PSs L2.PT
section
variable {K:W.Frag} {mg:Str->Option Value} {base:Heap}
def bP6 (K:W.Frag)(CB CM CN:Addr):Sp:=fun vs H Q E=>∃ (a:Addr) (ns:List Int) (p r:Int),vs=[.ref a,.int p,.int r]/\Sq K H a ns/\(M5 ns->ns.length<=7->bA5 ns.length p r->∀ H':Hp,y7 H H'->Q (.int (inH ns p.toNat r.toNat)) H')/\(¬ M5 ns->E (.ref CB) none H)/\(M5 ns->7<ns.length->E (.ref CM) none H)/\(M5 ns->ns.length<=7->¬ bA5 ns.length p r->E (.ref CN) none H)
theorem bh0:r6 ["tally","one","other","others","left","known"] ["tally","one","other"] (m9 bw5):=.mk'
set_option maxHeartbeats 4000000 in
theorem bX1 {fC fP fE fB CM CN:Addr} {fdE fdB:FuncData} (F:Fun K "in_how_many" "in_how_many" bw5 f fd) (B:Bn mg) (FC:Fq K mg "check_counted" bp1 fC fdC ["tally"]) (GC:o9 P w K mg base (CXE P w) 22 fC fdC ["tally"] (bg4 K CB CM))
  (FP:Fq K mg "check_pair" bp0 fP fdP ["places","one","other"]) (GP:o9 P w K mg base (CXE P w) 22 fP fdP ["places","one","other"] (bg3 CN))
  (FE:Fq K mg "first_ends" sFE fE fdE ["left"]) (GE:o9 P w K mg base CX0 22 fE fdE ["left"] (bv5 K))
  (FB:Fq K mg "count_behind" bp2 fB fdB ["left","ends","known"]) (GB:o9 P w K mg base CX0 22 fB fdB ["left","ends","known"] (bg6 K 6)):o9 P w K mg base (CXE P w) 23 f fd ["tally","one","other"] (bP6 K CB CM CN):=by
 refine F.okX bh0 (fun cdv A outer s H vs Q E hr h=>?_)
 obtain⟨a,ns,p,r,rfl,hS,q,qb,qm,qn⟩:=h
 have hsl:=J1
 have hun:=hr.units
 have nd4:(["place","number","one","other"]:List Str).Nodup:=by decide +kernel
 have nd3:(["ends","left","known"]:List Str).Nodup:=by decide +kernel
 refine⟨_,d9 (K2 (v7 GC hr (by rfl) FC S6 (a5 (pv 0) c6)))
  (d9 (K2 (v7 GP hr (by rfl) FP S6 (a5 (A2 A7 (by rfl) B.len PySem.boot_len (a5 (pv 0) c6)) (a5 (pv 1) (a5 (pv 2) c6)))))
  (d9 (aK7 (i:=3) bh0.nd rfl rfl (by rfl) (N':=["place","number","one","other"]) (lk:=[none,none,some 1,some 2]) rfl (bQ6 (an4 (by rfl) B.enum (a5 (pv 0) c6)) (aS4 (by rfl) B.enum (a5 (pv 0) c6))) (by rfl) rfl (by decide +kernel) (by exact⟨rfl,rfl,trivial⟩) (by rfl) (by exact LkL.ok ⟨⟨rfl,Or.inl rfl,rfl,Or.inl rfl⟩,⟨rfl,Or.inl rfl,rfl,Or.inl rfl⟩,trivial⟩)
    (fun _ _ _=>bi0 (n:=2) K rfl rfl (K3 (B0 (i:=0) nd4 rfl (Or.inl rfl)) (K3 (B0 (i:=1) nd4 rfl (Or.inl rfl)) ad0))) (fun _ _ _=>ac7 (A4 (aA1 K hr.around rfl rfl) (pv 0) (L0 (a5 (pv 2) (a5 (pv 3) c6))) (by rfl))) (fun _ _ _=>pv 1))
  (d9 (B5 (i:=4) bh0.nd rfl (Or.inr rfl) (C0 bb5 (P6 (a5 (Y9 K rfl (pv 0) (pv 1) (fun _ _=>rfl)) (a5 (Y9 K rfl (pv 0) (pv 2) (fun _ _=>rfl)) c6))) (pv 3)))
  (d9 (B5 (i:=5) bh0.nd rfl (Or.inr rfl) aS6)
  (m5 (x8 (A2 (ah1 rfl) (by rfl) B.sum (by rfl) (a5
    (N4 (N' := ["ends", "left", "known"]) (lk := [none, some 4, some 5]) rfl (Q2 (v7 GE hr (by rfl) FE E7 (a5 (pv 4) c6))) (by rfl) rfl (by decide +kernel) (by exact ⟨rfl, rfl, trivial⟩) (by rfl) (by exact LkL.ok ⟨⟨rfl, Or.inl rfl, rfl, Or.inl rfl⟩, ⟨rfl, Or.inl rfl, rfl, Or.inl rfl⟩, trivial⟩)
     (fun _ _ _=>B0 (i:=0) nd3 rfl (Or.inl rfl)) (fun _ _ _=>ac7 (A4 (bi3 K hr.around rfl rfl) m6 (pv 0) (by rfl))) (fun _ _ _=>v7 GB hr (by rfl) FB E7 (a5 (pv 1) (a5 (pv 0) (a5 (pv 2) c6))))) c6)))))))),?_⟩
 refine⟨_,rfl,a,ns,rfl,hS,fun ht h7=>?_,qb,qm⟩
 refine⟨_,rfl,a,_,rfl,hS,_,rfl,_,rfl,ns.length,p,r,congrArg (fun z:Nat=>[V.int (z:Int),V.int p,V.int r]) (a6 ..),fun hp=>?_,qn ht h7⟩
 obtain⟨⟨p0,p1⟩,⟨r0,r1⟩,hne⟩:=id hp
 obtain⟨i,rfl⟩:∃ i:Nat,p=(i:Int):=⟨p.toNat,by omega⟩
 obtain⟨j,rfl⟩:∃ j:Nat,r=(j:Int):=⟨r.toNat,by omega⟩
 have q':=q ht h7 hp
 rw[j2,j2]at q'
 refine Or.imp (fun h=>⟨_,rfl,h⟩) (fun h=>⟨_,rfl,h⟩) (aC7 (K:=K) (a:=a) (ys:=ns.map V.int) hS (by rw[a6];omega)
  (fun D k xs σ' H'=>(∃ v u,σ'=[v,u,some (.int (i:Int)),some (.int (j:Int))])/\y7 H H'/\H' D=some (.lst xs)/\xs=(ot2 ns i j k).map V.int) (fun D hD=>⟨⟨none,none,rfl⟩,d6 hD,b7,rfl⟩)
  (fun D k xs σ' H' hD hk ⟨_,s1,h1,e1⟩=>⟨s1,h1,by rw[e1,a6];exact bJ7 ns i j k⟩) ?_ ?_)
 ·rintro D k xs x t σ' H' N hD kN hx ⟨⟨v,u,rfl⟩,s1,h1,rfl⟩ htt
  obtain⟨z,hz,rfl⟩:=Z5 hx
  have ez:ns.getD k 0=z:=by rw[c9,hz];rfl
  have s2:=d6 (o:=.tup [.int k,.int z]) htt
  refine⟨t,_,rfl,SqT.of b7,rfl,_,_,rfl,_,_,rfl,rfl,?_⟩
  refine⟨_,rfl,_,rfl,_,rfl,(by show 2<=f6;decide),fun t2 ft2=>?_⟩
  have s3:=d6 (o:=.tup (([(i:Int),(j:Int)]:List Int).map V.int)) ft2
  refine aA4 (es:=[(i:Int),(j:Int)]) hun (.inr (SqT.of b7)) ⟨_,rfl,?_⟩
  have h1':=(s2.trans s3) _ _ h1
  have e3:=by2 ns i j k
  rw[ez]at e3
  by_cases c:(k:Int)∈([(i:Int),(j:Int)]:List Int)
  ·rw[decide_eq_true c]
   refine J8 (kN _ _ _ ⟨⟨_,_,rfl⟩,s1.trans (s2.trans s3),h1',?_⟩)
   rw[e3,if_neg (fun h=>by
    rcases d3.mp c with z | z
    ·exact h.1 (by omega)
    ·exact h.2 (by have:=j6.mp z;omega)),B3]
  ·rw[decide_eq_false c]
   refine P7 ⟨_,rfl,h1',kN _ _ _ ⟨⟨_,_,rfl⟩,(s1.trans (s2.trans s3)).upd hD,b7,?_⟩⟩
   rw[e3,if_pos ⟨fun h=>c (by rw[h];exact b9),fun h=>c (by rw[h];exact b8 _ (j6.mpr rfl))⟩,i9]
   rfl
 ·rintro D xs σ' H1 hD ⟨⟨v,u,rfl⟩,s1,h1,rfl⟩
  rw[a6]at h1
  replace h1:H1 D=some (.lst ((R8 ns i j).map V.int)):=h1
  have hol:(R8 ns i j).length+1+1=ns.length:=by
   have e1:=(ai6 (ns:=ns) (i:=i) (j:=j) (by omega) (by omega) (by omega)).length_eq
   have e2:=(ai7 (ns:=ns) (i:=i) (by omega)).length_eq
   rw[a9]at e1 e2
   omega
  refine⟨_,rfl,_,rfl,ao0 (hS.same s1) (by omega) ⟨_,rfl,_,rfl,ao0 (hS.same s1) (by omega) ⟨(by show 2<=f6;decide),fun l2 fl2=>?_⟩⟩⟩
  have s2:=d6 (o:=.lst [.int (ns.getD i 0),.int (ns.getD j 0)]) fl2
  refine⟨_,rfl,l2,D,_,_,rfl,rfl,b7,s2 _ _ h1,by rw[a6];show 2+(R8 ns i j).length<=_;omega,fun l3 fl3=>?_⟩
  have s3:=d6 (o:=.lst ([.int (ns.getD i 0),.int (ns.getD j 0)]++(R8 ns i j).map V.int)) fl3
  have g3:(upd (upd H1 l2 (.lst [.int (ns.getD i 0),.int (ns.getD j 0)])) l3 (.lst ([.int (ns.getD i 0),.int (ns.getD j 0)]++(R8 ns i j).map V.int))) l3=some (.lst ((ns.getD i 0::ns.getD j 0::R8 ns i j).map V.int)):=b7
  have s13:=(s1.trans s2).trans s3
  generalize upd (upd H1 l2 (.lst [.int (ns.getD i 0),.int (ns.getD j 0)])) l3 (.lst ([.int (ns.getD i 0),.int (ns.getD j 0)]++(R8 ns i j).map V.int))=H3 at s13 g3 ⊢
  refine B2 ?_
  refine fun d fd=>?_
  have s4:=d6 (o:=.dT []) fd
  have gd4:(upd H3 d (.dT [])) d=some (.dT []):=b7
  have g4:=s4 _ _ g3
  have fdH:H d=none:=s13.free fd
  have s14:=s13.trans s4
  generalize upd H3 d (.dT [])=H4 at gd4 g4 s14 ⊢
  refine B2 ?_
  refine⟨_,rfl,l3,ns.getD i 0,ns.getD j 0::R8 ns i j,rfl,.inl (SqL.of g4),by rw[a9];omega,fun le ze H5 s5 fle gle te=>?_⟩
  have gd5:=s5 _ _ gd4
  have g5:=s5 _ _ g4
  have hze:=te.len
  have hrl:(J3 1 (ns.getD j 0::R8 ns i j).length).length<=6:=by unfold J3;rw[a6,D9,a9];omega
  have hEl:=bl5 (J3 1 (ns.getD j 0::R8 ns i j).length) hrl (ns.getD i 0)
  have hb20:bnd (J3 1 (ns.getD j 0::R8 ns i j).length).length<=20:=by
   have:∀ m:Nat,m<7->bnd m<=20:=by decide +kernel
   exact this _ (by omega)
  have dne:∀ {D:Addr},H5 D=none->D≠d:=fun {D} h z=>by rw[z,gd5]at h;cases h
  have hT:=bR1 6 (by decide)
  refine⟨le,rfl,⟨_,SqL.of gle⟩,fun D2 hD2=>N1 (K:=K) (a:=le) (D:=D2) (ys:=ze) (fun k xs σ' H'=>(∃ v,σ'=[v,some (.ref l3),some (.ref d)])/\E9 d H5 H'/\H' D2=some (.lst xs)/\xs=((((chs (J3 1 (ns.getD j 0::R8 ns i j).length) (ns.getD i 0)).take k).filter fun E=>decide ((1:Int)∈E)).map fun E=>((cnt (M6 1 E (ns.getD j 0::R8 ns i j)):Nat):Int)).map V.int/\∃ kvs',H' d=some (.dT kvs')/\Kn kvs'/\kvs'.length<=k*Tn 6)
   ⟨⟨none,rfl⟩,(d6 hD2).grow d,b7,rfl,[],by rw[p6 (dne hD2).symm];exact gd5,Kn.nil,o5 _⟩ (by omega)
   (fun k xs σ' H' hk ⟨_, g1, h1, e1, _⟩ => ⟨SqL.of (aC0 g1 gd5 gle), h1, by
    rw[e1,a6,a6]
    exact p8 (E8 _ _) (List.length_take_le _ _)⟩) ?_ ?_⟩
  ·rintro k xs y σ' H' N kN hy ⟨⟨v,rfl⟩,g1,h1,rfl,kvs',gd',kn',hl'⟩
   obtain⟨b,E,rfl,hE,hq⟩:=te.get hy
   have hk:k<ze.length:=(c7.mp hy).1
   have hkT:k*Tn 6<=20*19421:=Nat.mul_le_mul (by omega) hT
   refine B2 ?_
   refine⟨_,rfl,bk0 (es:=E) (z:=1) hun (.inr (bd3 g1 gd5 hq)) ⟨_,rfl,?_⟩⟩
   have e3:=bD5 hE
   by_cases c:(1:Int)∈E
   ·rw[decide_eq_true c]
    rw[if_pos c]at e3
    refine P7 ⟨_,rfl,_,rfl,_,rfl,l3,b,d,ns.getD i 0,ns.getD j 0::R8 ns i j,E,kvs',rfl,.inl (SqL.of (aC0 g1 gd5 g5)),by rw[a9];omega,by decide,bd3 g1 gd5 hq,gd',kn',by omega,fun kvs2 H6 g6 gd6 kn6 hl6=>?_⟩
    have h6:H6 D2=some (.lst _):=aC0 g6 gd' h1
    refine⟨h6,kN _ _ _ ⟨⟨_,rfl⟩,bB7 (g1.trans g6) hD2,b7,?_,kvs2,by rw[p6 (dne hD2).symm];exact gd6,kn6,by rw[Y1];omega⟩⟩
    rw[e3,i9,i9]
    rfl
   ·rw[decide_eq_false c]
    rw[if_neg c,B3]at e3
    refine J8 (kN _ _ _ ⟨⟨_,rfl⟩,g1,h1,by rw[e3],kvs',gd',kn',by rw[Y1];omega⟩)
  ·rintro xs σ' H6 ⟨⟨v,rfl⟩,g6,h6,rfl,kvs6,gd6,kn6,hl6⟩
   rw[i8 (by omega)]at h6
   refine⟨D2,_,rfl,SqL.of h6,?_⟩
   have hsum:(((chs (J3 1 (ns.getD j 0::R8 ns i j).length) (ns.getD i 0)).filter fun E=>decide ((1:Int)∈E)).map fun E=>((cnt (M6 1 E (ns.getD j 0::R8 ns i j)):Nat):Int)).sum=((inH ns i j:Nat):Int):=by
    rw[ay3 (fun E=>cnt (M6 1 E (ns.getD j 0::R8 ns i j))),a9,aX2]
    rfl
   rw[hsum]
   exact q' H6 (bk5 fdH (((s14.trans s5).grow d).trans g6))
end
end Web
namespace Web
open L2
theorem bE1:∀ {c:List Int} {f:List Int->Nat} {a:Int} {M:Nat},(∀ l,l.length=c.length->f l<=M)->Ws f c a<=bin c.length a*M
 | [],f,a,M,h=>by
  unfold Ws
  show _<=(if a=0 then 1 else 0)*M
  split
  ·rw[Nat.one_mul];exact h [] rfl
  ·exact o5 _
 | x::c,f,a,M,h=>by
  unfold Ws
  show _<=(bin c.length (a - 1)+bin c.length a)*M
  rw[Nat.add_mul]
  exact Nat.add_le_add (bE1 fun l hl=>h _ (by rw[a9,a9,hl])) (bE1 fun l hl=>h _ (by rw[a9,a9,hl]))
theorem ca2 (n:Nat)(h:n<=6)(m:Int):bin n m<=bnd n:=by
 by_cases c:m<0\/(n:Int)<m
 ·rw[ax6 _ c];exact o5 _
 ·obtain⟨k,rfl⟩:∃ k:Nat,m=(k:Int):=⟨m.toNat,by omega⟩
  exact bl8 _ (by omega) k (by omega)
def bM9:Nat->Nat
 | 0=>1
 | n+1=>bnd n*bM9 n
theorem bD2:∀ (n:Nat) (d:List Int),d.length=n->n<=7->cnt d<=bM9 n
 | 0,d,h,_=>by rw[D3.mp h];exact c5 _
 | n+1,[],h,_=>by cases h
 | n+1,a::c,h,hn=>by
  rw[a9]at h
  rw[cnt_cons]
  refine p8 (bE1 (M:=bM9 n) fun l hl=>bD2 n l (by omega) (by omega)) ?_
  exact au0 _ (p8 (ca2 _ (by omega) _) (aX5 _ (by omega) _ (by omega)))
theorem bM8:∀ n:Nat,n<8->bM9 n<=7200:=by decide +kernel
theorem br9 {d:List Int}(h:d.length<=7):cnt d<=7200:=p8 (bD2 _ d rfl h) (bM8 _ (by omega))
theorem bi9:∀ A:List Int,HT.lexLt A A=false
 | []=>rfl
 | x::A=>by rw[HT.X3,if_pos rfl];exact bi9 A
theorem aB1:∀ {A B:List Int},HT.lexLt A B=true->HT.lexLt B A=false
 | [],[],h=>by cases h
 | [],_::_,_=>rfl
 | _::_,[],h=>by cases h
 | x::A,y::B,h=>by
  rw[HT.X3]at h ⊢
  by_cases e:x=y
  ·rw[if_pos e]at h
   rw[if_pos e.symm]
   exact aB1 h
  ·rw[if_neg e]at h
   rw[if_neg (Ne.symm e)]
   have:=of_decide_eq_true h
   exact decide_eq_false (by omega)
theorem aN2:∀ {ps:List Int},ps.Pairwise (·<·)->∀ m:Int,(chs ps m).Pairwise fun A B=>HT.lexLt A B=true
 | [],_,m=>by
  unfold chs
  split
  ·exact List.pairwise_singleton _ _
  ·exact List.Pairwise.nil
 | p::ps,h,m=>by
  have h':=y9.mp h
  rw[O4,o7]
  refine⟨?_,aN2 h'.2 m,fun A hA B hB=>?_⟩
  ·exact List.Pairwise.map _ (fun a b hab=>by rw[HT.X3,if_pos rfl];exact hab) (aN2 h'.2 (m - 1))
  ·obtain⟨A',hA',rfl⟩:=k8.mp hA
   have h1:=ab7 hA'
   have h2:=ab7 hB
   cases B with
   | nil=>rw[ao9]at h2;omega
   | cons b B =>
    have hb:=h'.1 b (ad7 hB b b9)
    rw[HT.X3,if_neg (by omega)]
    exact decide_eq_true hb
theorem aS2 (s:Int)(n:Nat):(J3 s n).Pairwise (·<·):=by
 unfold J3
 refine List.Pairwise.map _ (fun a b hab=>?_) (List.pairwise_lt_range' (step:=1) (by decide))
 omega
theorem aW0 {L:List (List Int)}(h:L.Pairwise fun A B=>HT.lexLt A B=true):∀ {i:Nat} {E:List Int},L[i]?=some E->L.filter (fun F=>HT.lexLt F E)=L.take i:=by
 induction L with
 | nil=>intro i E e;cases e
 | cons F L ih =>
  intro i E e
  have h':=y9.mp h
  cases i with
  | zero =>
   injection e with e
   subst e
   rw[at8]
   refine am1.mpr fun G hG z=>?_
   rcases d3.mp hG with rfl | hG
   ·rw[bi9]at z;cases z
   ·rw[aB1 (h'.1 G hG)]at z;cases z
  | succ i =>
   have hE:=d5 (show L[i]?=some E from e)
   rw[C9 (p:=fun F=>HT.lexLt F E) (h'.1 E hE),ih h'.2 (show L[i]?=some E from e),List.take_succ_cons]
theorem aH2 {α:Type}(w pre:α->Nat)(t:Nat):∀ (n:Nat) (L:List α),L.length=n->(∀ i x,L[i]?=some x->pre x=((L.take i).map w).sum)->t<(L.map w).sum->∃ x,x∈L/\(L.filter fun x=>decide (pre x<=t)).getLast?=some x/\pre x<=t/\t - pre x<w x
 | 0,L,hn,_,ht=>by rw[D3.mp hn]at ht;exact absurd ht (aY4 _)
 | n+1,L,hn,hp,ht=>by
  rcases List.eq_nil_or_concat L with rfl | ⟨L',x,rfl⟩
  ·cases hn
  ·rw[List.concat_eq_append]at hn hp ht ⊢
   rw[j7,Q0]at hn
   have hx:=hp L'.length x (by rw[D6 (c5 _),aO3];rfl)
   rw[J0 (c5 _),i8 (c5 _)]at hx
   rw[i9,K6]at ht
   have hs:(bR9 w [x]).sum=w x:=by rw[i7,u7,T4,ae8];omega
   rw[hs]at ht
   by_cases c:pre x<=t
   ·refine⟨x,k9 _ b9,?_,c,by omega⟩
    rw[B4,C9 (p:=fun x=>decide (pre x<=t)) (decide_eq_true c),ac1,List.getLast?_append]
    rfl
   ·obtain⟨y,h1,h2,h3,h4⟩:=aH2 w pre t n L' (by omega) (fun i z hz=>by
     have hi:i<L'.length:=(c7.mp hz).1
     rw[hp i z (by rw[S2 hi];exact hz),J0 (by omega)]) (by omega)
    refine⟨y,D7 _ h1,?_,h3,h4⟩
    rw[B4,D0 (by rw[decide_eq_true_eq];exact c),ac1,B3]
    exact h2
def ahd (x:Int)(c E:List Int):Nat:=(((chs (J3 1 c.length) x).filter fun F=>HT.lexLt F E).map fun F=>cnt (M6 1 F c)).sum
theorem aX7 {x:Int}{E:List Int}(h:(chs (J3 1 c.length) x)[i]?=some E):ahd x c E=(((chs (J3 1 c.length) x).take i).map fun F=>cnt (M6 1 F c)).sum:=by
 unfold ahd
 rw[aW0 (aN2 (aS2 1 c.length) x) h]
theorem bE0 {x:Int}{t:Nat}(ht:t<cnt (x::c)):∃ E,E∈chs (J3 1 c.length) x/\((chs (J3 1 c.length) x).filter fun E=>decide (ahd x c E<=t)).getLast?=some E/\ahd x c E<=t/\t - ahd x c E<cnt (M6 1 E c):=
 aH2 (fun F=>cnt (M6 1 F c)) (ahd x c) t _ _ rfl (fun i E h=>aX7 h) (by rw[aj5,<- cnt_cons];exact ht)
theorem aN4:∀ {ps:List Int},ps.Pairwise (·<·)->∀ {m:Int} {E:List Int},E∈chs ps m->E.Pairwise (·<·)
 | [],_,m,E,h=>by
  unfold chs at h
  split at h
  ·rw[j6.mp h];exact List.Pairwise.nil
  ·exact absurd h C8
 | p::ps,hp,m,E,h=>by
  have hp':=y9.mp hp
  rw[O4]at h
  rcases k7.mp h with h | h
  ·obtain⟨E',h1,rfl⟩:=k8.mp h
   exact y9.mpr ⟨fun y hy=>hp'.1 y (ad7 h1 y hy),aN4 hp'.2 h1⟩
  ·exact aN4 hp'.2 h
theorem bJ0 {s x:Int}(h:x∈J3 s n):s<=x/\x<s+n:=by
 unfold J3 at h
 obtain⟨k,hk,rfl⟩:=k8.mp h
 have:=ah7.mp hk
 omega
def as8 (p:Nat)(E:List Int):List (List Int):=E.map fun e=>[(p:Int),(p:Int)+e]
end Web
namespace L2
open PySem PySem.Spec PyProof.Rows
end L2
namespace Web
open PySem L2
def nb1 (x:Nat):List Int->List Int
 | [i,j]=>(if i=(x:Int) then [j] else [])++(if j=(x:Int) then [i] else [])
 | _=>[]
def nbF (ks:List (List Int))(x:Nat):List Int:=ks.flatMap (nb1 x)
structure NN (H:Hp) (a:Addr) (ps:List Addr) (T:Nat->List Int) (n:Nat):Prop where
 lst:H a=some (.lst (ps.map V.ref))
 len:ps.length=n
 row:∀ (i:Nat) (p:Addr),ps[i]?=some p->H p=some (.lst ((T i).map V.int))
 nd:ps.Nodup
 out:a∉ps
def ak0:Nat->List (List Int)->List (List Int)
 | _,[]=>[]
 | p,E::Es=>as8 p E++ak0 (p+1) Es
def Vld:List (List Int)->List Int->Prop
 | [],c=>c=[]
 | _::_,[]=>False
 | E::Es,x::c=>E∈chs (J3 1 c.length) x/\Vld Es (M6 1 E c)
def rk:List (List Int)->List Int->Nat
 | [],_=>0
 | _::_,[]=>0
 | E::Es,x::c=>ahd x c E+rk Es (M6 1 E c)
theorem aQ6 {α:Type}(f:α->Nat)(L:List α)(h:i<=j):((L.take i).map f).sum<=((L.take j).map f).sum:=by
 obtain⟨k,rfl⟩:=bt1 h
 rw[List.take_add,i9,K6]
 omega
theorem sum_take_succ {α:Type}(f:α->Nat){L:List α}{x:α}(h:L[i]?=some x):((L.take (i+1)).map f).sum=((L.take i).map f).sum+f x:=by
 rw[o6,h,O9,i9,K6,i7,T4,u7,ae8]
 omega
theorem bN5 {x:Int}{E:List Int}(h:E∈chs (J3 1 c.length) x):ahd x c E+cnt (M6 1 E c)<=cnt (x::c):=by
 obtain⟨i,hi⟩:=List.getElem?_of_mem h
 have e:=sum_take_succ (fun F=>cnt (M6 1 F c)) hi
 have hl:i+1<=(chs (J3 1 c.length) x).length:=(c7.mp hi).1
 have h2:=aQ6 (fun F=>cnt (M6 1 F c)) (chs (J3 1 c.length) x) hl
 rw[aO7,aj5,<- cnt_cons]at h2
 rw[aX7 hi]
 omega
theorem bx0:∀ {Es:List (List Int)} {c:List Int},Vld Es c->rk Es c<cnt c
 | [],c,h=>by
  have h:c=[]:=h
  rw[h]
  show 0<1
  decide
 | _::_,[],h=>h.elim
 | E::Es,x::c,h=>by
  have h1:=bN5 h.1
  have h2:=bx0 h.2
  show ahd x c E+rk Es (M6 1 E c)<_
  omega
def GdE:List (List Int)->Prop
 | []=>True
 | E::Es=>(E.Pairwise (·<·)/\∀ e∈E,1<=e/\e<=(Es.length:Int))/\GdE Es
theorem aJ5:∀ {Es:List (List Int)} {c:List Int},Vld Es c->Es.length=c.length
 | [],c,h=>by
  have h:c=[]:=h
  rw[h];rfl
 | _::_,[],h=>h.elim
 | E::Es,x::c,h=>by
  have:=aJ5 h.2
  rw[ab6]at this
  rw[a9,a9,this]
theorem aZ0:∀ {Es:List (List Int)} {c:List Int},Vld Es c->GdE Es
 | [],_,_=>trivial
 | _::_,[],h=>h.elim
 | E::Es,x::c,h=>by
  have hl:=aJ5 h.2
  rw[ab6]at hl
  refine⟨⟨aN4 (aS2 1 _) h.1,fun e he=>?_⟩,aZ0 h.2⟩
  have:=bJ0 (ad7 h.1 e he)
  omega
theorem aL7:∀ {Es:List (List Int)} {p n:Nat},GdE Es->p+Es.length=n->∀ k∈ak0 p Es,∃ i j:Nat,p<=i/\i<j/\j<n/\k=[(i:Int),(j:Int)]
 | [],_,_,_,_,k,hk=>by cases hk
 | E::Es,p,n,h,hn,k,hk=>by
  rw[a9]at hn
  rcases k7.mp (show k∈as8 p E++ak0 (p+1) Es from hk) with z | z
  ·obtain⟨e,he,rfl⟩:=k8.mp z
   have:=h.1.2 e he
   exact⟨p,p+e.toNat,c5 _,by omega,by omega,by rw[show ((p+e.toNat:Nat):Int)=(p:Int)+e by omega]⟩
  ·obtain⟨i,j,h1,h2,h3,h4⟩:=aL7 h.2 (show p+1+Es.length=n by omega) k z
   exact⟨i,j,by omega,h2,h3,h4⟩
theorem bL4 {Es:List (List Int)}(h:GdE Es)(hn:Es.length=n):∀ k∈ak0 0 Es,Up n k:=fun k hk=>by
 obtain⟨i,j,_,h2,h3,h4⟩:=aL7 h (show 0+Es.length=n by omega) k hk
 exact⟨i,j,h2,h3,h4⟩
theorem aL8:∀ {Es:List (List Int)} {p:Nat},GdE Es->Asc (ak0 p Es)
 | [],_,_=>List.Pairwise.nil
 | E::Es,p,h=>by
  refine o7.mpr ⟨?_,aL8 h.2,fun a ha b hb=>?_⟩
  ·refine List.Pairwise.map _ (fun a b hab=>?_) h.1.1
   unfold Tim.J5
   rw[if_pos rfl]
   unfold Tim.J5
   rw[if_neg (by omega)]
   exact decide_eq_true (by omega)
  ·obtain⟨e,he,rfl⟩:=k8.mp ha
   obtain⟨i,j,h1,_,_,rfl⟩:=aL7 h.2 rfl b hb
   unfold Tim.J5
   rw[if_neg (by omega)]
   exact decide_eq_true (by omega)
def aZ6 (p m:Nat)(L:List (List Int)):List Int:=(n8 m).map fun j=>(N2 L (p+j):Int)
theorem aF7 (n:Nat)(L:List (List Int)):aZ6 0 n L=tal n L:=by
 unfold aZ6 tal
 exact o8 fun j _=>by rw[F5]
theorem bd7 (p q:Nat):∀ {E:List Int},E.Pairwise (·<·)->(∀ e∈E,1<=e)->N2 (as8 p E) (p+1+q)=if 1+(q:Int)∈E then 1 else 0:=by
 intro E h h1
 have nd:E.Nodup:=L3.mpr (h.imp fun h=>by omega)
 rw[<- nd.count]
 unfold N2 as8 List.count
 rw[List.countP_map]
 refine cb3 fun e he=>?_
 have:=h1 e he
 simp only[Function.comp,decide_eq_true_eq,d3,C8,or_false,beq_iff_eq]
 omega
theorem aF8 {m:Nat}{E:List Int}{Es:List (List Int)}(h:GdE (E::Es)):aZ6 p (m+1) (ak0 p (E::Es))=(E.length:Int)::(n8 m).map fun j:Nat=>(if 1+(j:Int)∈E then 1 else 0)+(N2 (ak0 (p+1) Es) (p+1+j):Int):=by
 unfold aZ6
 rw[V8,i7,C2]
 congr 1
 ·show ((N2 (as8 p E++ak0 (p+1) Es) (p+0):Nat):Int)=_
  rw[ag9]
  have e1:N2 (as8 p E) (p+0)=E.length:=by
   unfold N2
   rw[List.countP_eq_length.mpr]
   ·exact a6 _
   ·intro k hk
    obtain⟨e,he,rfl⟩:=k8.mp hk
    exact decide_eq_true (b9)
  have e2:N2 (ak0 (p+1) Es) (p+0)=0:=by
   unfold N2
   refine List.countP_eq_zero.mpr fun k hk=>?_
   obtain⟨i,j,h1,h2,_,rfl⟩:=aL7 h.2 rfl k hk
   simp only[decide_eq_true_eq,d3,C8,or_false]
   omega
  rw[e1,e2]
  rfl
 ·refine o8 fun j _=>?_
  show ((N2 (as8 p E++ak0 (p+1) Es) (p+(j+1)):Nat):Int)=_
  rw[show p+(j+1)=p+1+j by omega,ag9,bd7 p j h.1.1 (fun e he=>(h.1.2 e he).1)]
  split<;>omega
theorem bd2 {m:Nat}(f:Nat->Int)(h:i<m):((n8 m).map f).getD i 0=f i:=by
 rw[c9,q8,N6 h]
 rfl
theorem bC5 {p m:Nat}{E:List Int}(g:Nat->Int):M6 1 E ((n8 m).map fun j:Nat=>(if 1+(j:Int)∈E then 1 else 0)+g j)=(n8 m).map g:=by
 rw[ao2,a6,C1]
 refine o8 fun j hj=>?_
 rw[bd2 _ (u6.mp hj)]
 split<;>omega
theorem aN1:∀ {n:Nat} {s:Int} {E:List Int},E.Pairwise (·<·)->(∀ e∈E,s<=e/\e<s+n)->E∈chs (J3 s n) E.length
 | 0,s,E,_,h=>by
  cases E with
  | nil=>exact j6.mpr rfl
  | cons e E=>have:=h e b9;omega
 | n+1,s,[],_,_=>by
  rw[show (([]:List Int).length:Int)=0 from rfl,ah0]
  exact j6.mpr rfl
 | n+1,s,e::E,hp,h=>by
  have hp':=y9.mp hp
  have he:=h e b9
  rw[aq4,O4]
  by_cases z:e=s
  ·subst z
   refine D7 _ (k8.mpr ⟨E,?_,rfl⟩)
   have:=aN1 (n:=n) (s:=e+1) hp'.2 fun x hx=>by
    have h1:=hp'.1 x hx
    have h2:=h x (b8 _ hx)
    omega
   rw[show (((e::E).length:Nat):Int) - 1=(E.length:Int) by rw[a9];omega]
   exact this
  ·refine k9 _ (aN1 (n:=n) (s:=s+1) hp fun x hx=>?_)
   have h2:=h x hx
   rcases d3.mp hx with rfl | hx
   ·omega
   ·have h1:=hp'.1 x hx
    omega
theorem bB6:∀ {Es:List (List Int)} {p:Nat},GdE Es->Vld Es (aZ6 p Es.length (ak0 p Es))
 | [],p,_=>rfl
 | E::Es,p,h=>by
  rw[a9,aF8 h]
  refine⟨?_,?_⟩
  ·rw[a6,C1]
   exact aN1 h.1.1 fun e he=>by have:=h.1.2 e he;omega
  ·rw[bC5 (p:=p)]
   exact bB6 (p:=p+1) h.2
theorem bf2:∀ {Es:List (List Int)} {c:List Int} {p:Nat},Vld Es c->aZ6 p c.length (ak0 p Es)=c
 | [],c,p,h=>by
  have h:c=[]:=h
  rw[h]
  rfl
 | _::_,[],_,h=>h.elim
 | E::Es,x::c,p,h=>by
  have hg:=aZ0 h
  have ih:=bf2 (p:=p+1) h.2
  have hm:=ab7 h.1
  rw[a9,aF8 hg,hm]
  congr 1
  rw[ab6,ao2]at ih
  unfold aZ6 at ih
  refine List.ext_getElem (by rw[a6,C1]) fun j h1 h2=>?_
  have e:=List.map_inj_left.mp ih j (u6.mpr h2)
  rw[List.getElem_map,U9,e,c9,i6 h2,Option.getD_some]
  split<;>omega
def endsF (ks:List (List Int))(p:Nat):List Int:=((nbF ks p).filter fun e=>decide ((p:Int)<e)).map fun e=>e - (p:Int)
def EsF (ks:List (List Int))(p m:Nat):List (List Int):=(L8 p m).map (endsF ks)
theorem aC4 (hk:Up n k):endsF (k::ks) p=(if k.getD 0 0=(p:Int) then [k.getD 1 0 - (p:Int)] else [])++endsF ks p:=by
 obtain⟨i,j,hij,hj,rfl⟩:=hk
 unfold endsF nbF
 rw[ah9,B4,i9]
 congr 1
 show bR9 _ (List.filter _ ((if (i:Int)=(p:Int) then [(j:Int)] else [])++(if (j:Int)=(p:Int) then [(i:Int)] else [])))=if (i:Int)=(p:Int) then [(j:Int) - (p:Int)] else []
 by_cases h1:(i:Int)=(p:Int)
 ·rw[if_pos h1,if_pos h1,if_neg (by omega),B3,C9 (p:=fun e=>decide ((p:Int)<e)) (decide_eq_true (by omega))]
  rfl
 ·rw[if_neg h1,if_neg h1,K5]
  by_cases h2:(j:Int)=(p:Int)
  ·rw[if_pos h2,D0 (by rw[decide_eq_true_eq];omega)]
   rfl
  ·rw[if_neg h2]
   rfl
theorem W6:∀ {ks:List (List Int)} {p:Nat} {e:Int},(∀ k∈ks,Up n k)->(e∈endsF ks p↔[(p:Int),(p:Int)+e]∈ks)
 | [],p,e,_=>by
  constructor
  ·intro h;cases h
  ·intro h;cases h
 | k::ks,p,e,hU=>by
  have hk:=hU k b9
  rw[aC4 hk,k7,W6 fun k h=>hU k (b8 _ h),d3]
  refine or_congr ?_ Iff.rfl
  obtain⟨i,j,hij,hj,rfl⟩:=hk
  show e∈(if (i:Int)=(p:Int) then [(j:Int) - (p:Int)] else [])↔_
  constructor
  ·intro h
   split at h
   ·have:=j6.mp h
    rename_i e1
    rw[e1,this]
    congr 2
    omega
   ·cases h
  ·intro h
   injection h with h1 h2
   injection h2 with h2
   rw[if_pos h1.symm]
   exact j6.mpr (by omega)
theorem ar4:∀ {ks:List (List Int)} {p:Nat},Asc ks->(∀ k∈ks,Up n k)->(endsF ks p).Pairwise (·<·)
 | [],p,_,_=>List.Pairwise.nil
 | k::ks,p,h,hU=>by
  have h':=y9.mp h
  have hk:=hU k b9
  have hU':∀ k∈ks,Up n k:=fun k h=>hU k (b8 _ h)
  rw[aC4 hk]
  by_cases c:k.getD 0 0=(p:Int)
  ·rw[if_pos c]
   refine y9.mpr ⟨fun e he=>?_,ar4 h'.2 hU'⟩
   have hm:=(W6 hU').mp he
   have hl:=h'.1 _ hm
   obtain⟨i,j,hij,hj,rfl⟩:=hk
   have c:(i:Int)=(p:Int):=c
   unfold Tim.J5 at hl
   rw[if_pos c]at hl
   unfold Tim.J5 at hl
   show (j:Int) - (p:Int)<e
   by_cases z:(j:Int)=(p:Int)+e
   ·rw[if_pos z]at hl
    cases hl
   ·rw[if_neg z]at hl
    have:=of_decide_eq_true hl
    omega
  ·rw[if_neg c]
   exact ar4 h'.2 hU'
theorem be4 (ha:Asc ks)(hU:∀ k∈ks,Up n k):∀ {m p:Nat},p+m=n->GdE (EsF ks p m)
 | 0,p,_=>trivial
 | m+1,p,h=>by
  refine⟨⟨ar4 ha hU,fun e he=>?_⟩,be4 ha hU (p:=p+1) (by omega)⟩
  obtain⟨i,j,hij,hj,q⟩:=hU _ ((W6 hU).mp he)
  injection q with q1 q2
  injection q2 with q2
  show 1<=e/\e<=(((L8 (p+1) m).map (endsF ks)).length:Int)
  rw[a6,D9]
  omega
theorem bi8 (f:Nat->List Int):∀ {m p:Nat},k∈ak0 p ((L8 p m).map f)↔∃ q:Nat,p<=q/\q<p+m/\∃ e∈f q,k=[(q:Int),(q:Int)+e]
 | 0,p=>by
  constructor
  ·intro h;cases h
  ·rintro⟨q,h1,h2,_⟩;omega
 | m+1,p=>by
  rw[ak7,i7]
  show k∈as8 p (f p)++ak0 (p+1) ((L8 (p+1) m).map f)↔_
  rw[k7,bi8 f]
  constructor
  ·rintro(h | ⟨q,h1,h2,h3⟩)
   ·obtain⟨e,he,rfl⟩:=k8.mp h
    exact⟨p,c5 _,by omega,e,he,rfl⟩
   ·exact⟨q,by omega,by omega,h3⟩
  ·rintro⟨q,h1,h2,e,he,rfl⟩
   by_cases z:q=p
   ·subst z
    exact .inl (k8.mpr ⟨e,he,rfl⟩)
   ·exact .inr ⟨q,by omega,by omega,e,he,rfl⟩
theorem bq2 {a b:List Int}(h:Tim.J5 a b=true)(g:Tim.J5 b a=true):False:=by
 have e:∀ a b:List Int,Tim.J5 a b=HT.lexLt a b:=by
  intro a
  induction a with
  | nil=>intro b;cases b<;>rfl
  | cons x a ih =>
   intro b
   cases b with
   | nil=>rfl
   | cons y b=>unfold Tim.J5;rw[HT.X3,ih]
 rw[e]at h g
 rw[aB1 h]at g
 cases g
theorem bl9:∀ {l m:List (List Int)},Asc l->Asc m->(∀ x,x∈l↔x∈m)->l=m
 | [],[],_,_,_=>rfl
 | [],y::m,_,_,h=>by have:=(h y).mpr b9;cases this
 | x::l,[],_,_,h=>by have:=(h x).mp b9;cases this
 | x::l,y::m,h1,h2,h=>by
  have p1:=y9.mp h1
  have p2:=y9.mp h2
  have e:x=y:=by
   rcases d3.mp ((h x).mp b9) with e | e
   ·exact e
   ·rcases d3.mp ((h y).mpr b9) with e' | e'
    ·exact e'.symm
    ·exact(bq2 (p2.1 x e) (p1.1 y e')).elim
  subst e
  rw[bl9 p1.2 p2.2 fun z=>?_]
  have hz:=h z
  constructor
  ·intro q
   rcases d3.mp (hz.mp (b8 _ q)) with e | e
   ·have:=p1.1 z q
    rw[e,Tim.ag5]at this
    cases this
   ·exact e
  ·intro q
   rcases d3.mp (hz.mpr (b8 _ q)) with e | e
   ·have:=p2.1 z q
    rw[e,Tim.ag5]at this
    cases this
   ·exact e
theorem bL5 (ha:Asc ks)(hU:∀ k∈ks,Up n k):ak0 0 (EsF ks 0 n)=ks:=by
 refine bl9 (aL8 (be4 ha hU (F5 n))) ha fun k=>?_
 unfold EsF
 rw[bi8]
 constructor
 ·rintro⟨q,_,_,e,he,rfl⟩
  exact(W6 hU).mp he
 ·intro hk
  obtain⟨i,j,hij,hj,rfl⟩:=hU k hk
  have e1:[(i:Int),(j:Int)]=[(i:Int),(i:Int)+((j:Int) - (i:Int))]:=by congr 2;omega
  exact⟨i,o5 _,by omega,(j:Int) - (i:Int),(W6 hU).mpr (by rw[<- e1];exact hk),e1⟩
theorem bN6 (ks:List (List Int))(p m:Nat):(EsF ks p m).length=m:=by unfold EsF;rw[a6,D9]
theorem bm4 (ha:Asc ks)(hU:∀ k∈ks,Up n k):Vld (EsF ks 0 n) (tal n ks):=by
 have h:=bB6 (p:=0) (be4 ha hU (F5 n))
 rw[bN6,bL5 ha hU,aF7]at h
 exact h
inductive Run (V:Prop) (c0:List Int):List (List Int)->List Int->Nat->Prop
 | nil:Run V c0 [] c0 0
 | snoc {Es:List (List Int)} {x:Int} {c E:List Int} {r:Nat}:Run V c0 Es (x::c) r->(V->E∈chs (J3 1 c.length) x)->Run V c0 (Es++[E]) (M6 1 E c) (r+ahd x c E)
theorem bt8:∀ {n:Nat} {c:List Int} {t:Nat},c.length=n->t<cnt c->∃ Es,Vld Es c/\rk Es c=t
 | 0,c,t,hn,ht=>by
  have hc:=D3.mp hn
  subst hc
  have ht:t<1:=ht
  exact⟨[],rfl,by show 0=t;omega⟩
 | n+1,[],t,hn,_=>by cases hn
 | n+1,x::c,t,hn,ht=>by
  obtain⟨E,h1,_,h3,h4⟩:=bE0 ht
  obtain⟨Es,v,r⟩:=bt8 (n:=n) (c:=M6 1 E c) (t:=t - ahd x c E) (by rw[ab6];simpa using hn) h4
  exact⟨E::Es,⟨h1,v⟩,by show ahd x c E+rk Es (M6 1 E c)=t;omega⟩
def co (M:Int)(l:List Int):List Int:=l.map fun y=>M - y
theorem bC7 {ts:List Int}(hn:ts.length=n):0<cnt ts↔∃ ks,Asc ks/\(∀ k∈ks,Up n k)/\tal n ks=ts:=by
 constructor
 ·intro h
  obtain⟨Es,v,_⟩:=bt8 hn h
  have gd:=aZ0 v
  refine⟨ak0 0 Es,aL8 gd,bL4 gd ((aJ5 v).trans hn),?_⟩
  have:=bf2 (p:=0) v
  rw[aF7,hn]at this
  exact this
 ·rintro⟨ks,h1,h2,h3⟩
  have:=bm4 h1 h2
  rw[h3]at this
  exact aE1 (o5 _) (bx0 this)
theorem bD0 (x y:Int)(c:List Int):cnt (x::y::c)=two x y c+Ws (fun l=>cnt (y::l)) c x:=by
 rw[cnt_cons]
 rfl
theorem bu0 (a b:Int)(c:List Int):cnt ((a - 1)::(b - 1)::c)=two (a - 1) (b - 1) c+two a b c:=bD0 (a - 1) (b - 1) c
theorem aM9 (hi:i<ns.length)(hj:j<ns.length)(hij:i≠j):cnt (ns.getD i 0::ns.getD j 0::R8 ns i j)=cnt ns:=
 ar7 _ _ (((ai6 hi hj hij).cons _).trans (ai7 hi))
def R0 (ns:List Int)(i j:Nat):List Int:=(ns.set i (ns.getD i 0 - 1)).set j (ns.getD j 0 - 1)
theorem aj1 (ns:List Int)(i j:Nat):(R0 ns i j).length=ns.length:=by unfold R0;rw[A3,A3]
theorem X4 {k:Nat}(hi:i<ns.length)(hj:j<ns.length)(hij:i≠j):(R0 ns i j).getD k 0=if k=j then ns.getD j 0 - 1 else if k=i then ns.getD i 0 - 1 else ns.getD k 0:=by
 unfold R0
 by_cases e1:k=j
 ·subst e1
  rw[if_pos rfl,c9,P3 (by rw[A3];exact hj)]
  rfl
 ·rw[if_neg e1,c9,D8 (Ne.symm e1)]
  by_cases e2:k=i
  ·subst e2
   rw[if_pos rfl,P3 hi]
   rfl
  ·rw[if_neg e2,D8 (Ne.symm e2),c9]
theorem aU9 (hi:i<ns.length)(hj:j<ns.length)(hij:i≠j):cnt (R0 ns i j)=inH (R0 ns i j) i j+inH ns i j:=by
 have l:=aj1 ns i j
 rw[<- aM9 (by rw[l];exact hi) (by rw[l];exact hj) hij]
 have e1:(R0 ns i j).getD i 0=ns.getD i 0 - 1:=by rw[X4 hi hj hij,if_neg hij,if_pos rfl]
 have e2:(R0 ns i j).getD j 0=ns.getD j 0 - 1:=by rw[X4 hi hj hij,if_pos rfl]
 have e3:R8 (R0 ns i j) i j=R8 ns i j:=by
  unfold R8
  rw[l]
  refine o8 fun k hk=>?_
  have:=(u4.mp hk).2
  rw[x6,decide_eq_true_eq,decide_eq_true_eq]at this
  rw[X4 hi hj hij,if_neg this.2,if_neg this.1]
 unfold inH
 rw[e1,e2,e3]
 exact bu0 _ _ _
open Grf (Gph deg)
theorem bQ8 {ts:List Int}(hg:Gph g)(dg:∀ i,i<ts.length->deg ts.length g i=ts.getD i 0):∃ ks,Asc ks/\(∀ k∈ks,Up ts.length k)/\(∀ i j:Nat,i<j->j<ts.length->([(i:Int),(j:Int)]∈ks↔g i j=true))/\tal ts.length ks=ts:=by
 have hU:∀ k∈(C5 ts.length).filter (fun k=>g (k.getD 0 0).toNat (k.getD 1 0).toNat),Up ts.length k:=fun k hk=>aj0 (u4.mp hk).1
 have nd:((C5 ts.length).filter (fun k=>g (k.getD 0 0).toNat (k.getD 1 0).toNat)).Nodup:=(as0 (ar9 _)).filter _
 have mem:∀ i j:Nat,i<j->j<ts.length->([(i:Int),(j:Int)]∈(C5 ts.length).filter (fun k=>g (k.getD 0 0).toNat (k.getD 1 0).toNat)↔g i j=true):=fun i j h1 h2=>by
  rw[u4]
  have e:∀ x y:Nat,([(x:Int),(y:Int)].getD 0 0).toNat=x/\([(x:Int),(y:Int)].getD 1 0).toNat=y:=fun x y=>⟨j2 x,j2 y⟩
  rw[(e i j).1,(e i j).2]
  exact⟨fun z=>z.2,fun z=>⟨aw4 h1 h2,z⟩⟩
 have row:∀ i j:Nat,i<ts.length->j<ts.length->gW ((C5 ts.length).filter (fun k=>g (k.getD 0 0).toNat (k.getD 1 0).toNat)) i j=g i j:=fun i j hi hj=>by
  have up:∀ x y:Nat,[(x:Int),(y:Int)]∈(C5 ts.length).filter (fun k=>g (k.getD 0 0).toNat (k.getD 1 0).toNat)->x<y:=fun x y z=>by
   obtain⟨a,b,u1,u2,e⟩:=hU _ z
   injection e with e1 e2
   injection e2 with e2
   omega
  unfold gW
  rcases aj8 i j with l | l | l
  ·rw[decide_eq_false (show ¬ [(j:Int),(i:Int)]∈(C5 ts.length).filter (fun k=>g (k.getD 0 0).toNat (k.getD 1 0).toNat) from fun z=>by have:=up j i z;omega),aa4]
   cases hgij:g i j with
   | true=>exact decide_eq_true ((mem i j l hj).mpr hgij)
   | false=>exact decide_eq_false fun z=>by rw[(mem i j l hj).mp z]at hgij;cases hgij
  ·subst l
   rw[hg.irr,decide_eq_false (fun z=>by have:=up i i z;omega)];rfl
  ·rw[decide_eq_false (show ¬ [(i:Int),(j:Int)]∈(C5 ts.length).filter (fun k=>g (k.getD 0 0).toNat (k.getD 1 0).toNat) from fun z=>by have:=up i j z;omega),aD7,hg.sym i j]
   cases hgij:g j i with
   | true=>exact decide_eq_true ((mem j i l hi).mpr hgij)
   | false=>exact decide_eq_false fun z=>by rw[(mem j i l hi).mp z]at hgij;cases hgij
 refine⟨_,bN2 bO3 (ar9 _),hU,fun i j h1 h2=>mem i j h1 h2,?_⟩
 refine J9 fun i=>?_
 rcases E3 i ts.length with hi | hi
 ·rw[U3 hi,<- aM4 nd hU i,i6 hi]
  congr 1
  have:=dg i hi
  rw[c9,i6 hi]at this
  have t:deg ts.length g i=ts[i]:=this
  rw[<- t]
  exact Grf.u9 fun j hj=>by rw[row i j hi hj]
 ·rw[n9 (by rw[P0];exact hi),n9 hi]
theorem bj0:∀ {l:List Nat} {x:Nat},x∈l->x<=l.sum
 | y::l,x,h=>by
  rw[u7]
  rcases d3.mp h with e | e
  ·omega
  ·have:=bj0 e
   omega
theorem two_pos {a b:Int}(ha:Asc ks)(hU:∀ k∈ks,Up (a::b::c).length k)(ht:tal (a::b::c).length ks=a::b::c)(h01:[(0:Int),(1:Int)]∈ks):0<two a b c:=by
 have v:=bm4 ha hU
 rw[ht]at v
 have v':Vld (endsF ks 0::EsF ks 1 (b::c).length) (a::b::c):=v
 obtain⟨hE,hV⟩:=v'
 have h1:(1:Int)∈endsF ks 0:=(W6 hU).mpr h01
 have hp:0<cnt (M6 1 (endsF ks 0) (b::c)):=aE1 (o5 _) (bx0 hV)
 have e:=aX2 (b:=b) (a:=a) (s:=1) (c:=c) (f:=cnt)
 have hm:cnt (M6 1 (endsF ks 0) (b::c))∈(((chs (J3 1 (c.length+1)) a).filter fun E=>decide ((1:Int)∈E)).map fun E=>cnt (M6 1 E (b::c))):=k8.mpr ⟨_,u4.mpr ⟨hE,decide_eq_true h1⟩,rfl⟩
 have:=bj0 hm
 rw[e]at this
 unfold two
 omega
theorem am0 {ts:List Int}:0<cnt ts↔Gr ts:=by
 refine(bC7 rfl).trans ⟨fun⟨ks,h1,h2,h3⟩=>?_,fun h=>?_⟩
 ·rw[<- h3]
  exact bt7 (as0 h1) h2
 ·obtain⟨g,hg,dg⟩:=h
  obtain⟨ks,h1,h2,_,h4⟩:=bQ8 hg dg
  exact⟨ks,h1,h2,h4⟩
theorem aA7 (hij:i≠j):mv2 ns (-1) [(i:Int),(j:Int)]=R0 ns i j:=by
 have e0:([(i:Int),(j:Int)]:List Int).getD 0 0=(i:Int):=rfl
 have e1:([(i:Int),(j:Int)]:List Int).getD 1 0=(j:Int):=rfl
 unfold mv2 mvd R0
 rw[e0,e1,j2,j2]
 have g2:(ns.set i (ns.getD i 0 + -1)).getD j 0=ns.getD j 0:=by
  rw[c9,D8 hij,<- c9]
 rw[g2]
 rfl
theorem bT4 {a b:Int}(G:Gr (a::b::c))(G':Gr ((a - 1)::(b - 1)::c)):0<two a b c:=by
 have h:=(has_both (ns:=a::b::c) (i:=0) (j:=1) (by decide) (by rw[a9];omega) (by rw[a9,a9];omega) G).2
 rw[aA7 (by decide)]at h
 obtain⟨g,hg,dg,g01⟩:=h G'
 obtain⟨ks,h1,h2,h3,h4⟩:=bQ8 hg dg
 exact two_pos h1 h2 h4 ((h3 0 1 (by decide) (by rw[a9,a9];omega)).mpr g01)
theorem bk2 (hi:i<ns.length)(hj:j<ns.length)(hij:i≠j)(G:Gr ns)(G':Gr (R0 ns i j)):0<inH ns i j:=by
 have l:=aj1 ns i j
 have c1:=am0.mpr G
 have c2:=am0.mpr G'
 rw[<- aM9 hi hj hij]at c1
 rw[<- aM9 (by rw[l];exact hi) (by rw[l];exact hj) hij]at c2
 have e1:(R0 ns i j).getD i 0=ns.getD i 0 - 1:=by rw[X4 hi hj hij,if_neg hij,if_pos rfl]
 have e2:(R0 ns i j).getD j 0=ns.getD j 0 - 1:=by rw[X4 hi hj hij,if_pos rfl]
 have e3:R8 (R0 ns i j) i j=R8 ns i j:=by
  unfold R8
  rw[l]
  refine o8 fun k hk=>?_
  have:=(u4.mp hk).2
  rw[x6,decide_eq_true_eq,decide_eq_true_eq]at this
  rw[X4 hi hj hij,if_neg this.2,if_neg this.1]
 rw[e1,e2,e3]at c2
 exact bT4 (am0.mp c1) (am0.mp c2)
theorem bB0 (hi:i<ns.length)(hj:j<ns.length)(hij:i≠j)(G':¬ Gr (R0 ns i j)):inH ns i j=0:=by
 have:=aU9 hi hj hij
 have h0:¬ 0<cnt (R0 ns i j):=fun h=>G' (am0.mp h)
 omega
theorem aH0 (hij:i≠j)(hi:i<ns.length)(hj:j<ns.length):R0 (mv2 ns 1 [(i:Int),(j:Int)]) i j=ns:=by
 have hm:=aL3 hij hi hj 1
 have hl:=hm.1
 refine J9 fun k=>?_
 rcases E3 k ns.length with hk | hk
 ·have e:=X4 (ns:=mv2 ns 1 [(i:Int),(j:Int)]) (k:=k) (by omega) (by omega) hij
  have h1:=hm.2 i hi
  have h2:=hm.2 j hj
  have h3:=hm.2 k hk
  rw[if_pos rfl,if_neg hij]at h1
  rw[if_neg (Ne.symm hij),if_pos rfl]at h2
  have e':(R0 (mv2 ns 1 [(i:Int),(j:Int)]) i j).getD k 0=ns.getD k 0:=by
   rw[e]
   by_cases c1:k=j
   ·rw[if_pos c1,c1];omega
   ·rw[if_neg c1]
    by_cases c2:k=i
    ·rw[if_pos c2,c2];omega
    ·rw[if_neg c2,h3,if_neg c1,if_neg c2];omega
  have hk':k<(R0 (mv2 ns 1 [(i:Int),(j:Int)]) i j).length:=by rw[aj1];omega
  rw[c9,c9,i6 hk,i6 hk']at e'
  rw[i6 hk,i6 hk']
  exact congrArg some e'
 ·rw[n9 (by rw[aj1];omega),n9 hk]
structure InF (ns:List Int) (i j:Nat):Prop where
 all:¬ Gr (mv2 ns 1 [(i:Int),(j:Int)])->inH ns i j=cnt ns
 non:¬ Gr (mv2 ns (-1) [(i:Int),(j:Int)])->inH ns i j=0
 lt:Gr (mv2 ns 1 [(i:Int),(j:Int)])->inH ns i j<cnt ns
 pos:Gr (mv2 ns (-1) [(i:Int),(j:Int)])->0<inH ns i j
theorem bA9 (hi:i<ns.length)(hj:j<ns.length)(hij:i≠j)(G:Gr ns):InF ns i j:=by
 have hl:=aL4 ns 1 [(i:Int),(j:Int)]
 have e:=aU9 (ns:=mv2 ns 1 [(i:Int),(j:Int)]) (by rw[hl];exact hi) (by rw[hl];exact hj) hij
 rw[aH0 hij hi hj]at e
 have hle:=bB1 (ns:=mv2 ns 1 [(i:Int),(j:Int)]) (i:=i) (j:=j) (by rw[hl];exact hi) (by rw[hl];exact hj) hij
 refine⟨fun h=>?_,fun h=>?_,fun h=>?_,fun h=>?_⟩
 ·have:¬ 0<cnt (mv2 ns 1 [(i:Int),(j:Int)]):=fun z=>h (am0.mp z)
  omega
 ·rw[aA7 hij]at h
  exact bB0 hi hj hij h
 ·have:=bk2 (ns:=mv2 ns 1 [(i:Int),(j:Int)]) (i:=i) (j:=j) (by rw[hl];exact hi) (by rw[hl];exact hj) hij h (by rw[aH0 hij hi hj];exact G)
  omega
 ·rw[aA7 hij]at h
  exact bk2 hi hj hij G h
theorem bu5 (nd:ks.Nodup)(hU:∀ k∈ks,Up n k)(hij:i<j)(hj:j<n)(hm:[(i:Int),(j:Int)]∈ks):Gr (mv2 (tal n ks) (-1) [(i:Int),(j:Int)]):=by
 have hm2:=aL3 (ts:=tal n ks) (i:=i) (j:=j) (by omega) (by rw[P0];omega) (by rw[P0];omega) (-1)
 have hg:=bd5 hU
 have hd:∀ v,v<(tal n ks).length->deg (tal n ks).length (gW ks) v=(tal n ks).getD v 0:=fun v hv=>by
  rw[P0]at hv ⊢
  rw[aM4 nd hU v,c9,U3 hv]
  rfl
 have ht:gW ks i j=true:=by unfold gW;rw[decide_eq_true hm];rfl
 exact⟨Grf.O1 (gW ks) i j false,Grf.J2 hg (by omega),ay7 hm2 (by omega) (by rw[P0];omega) (by rw[P0];omega) hg hd (by rw[ht];rfl)⟩
theorem aV9 (F:List Int->Int)(g:Nat->List (List Int)):∀ m:Nat,(((n8 m).flatMap g).map F).sum=Grf.S m fun i=>((g i).map F).sum
 | 0=>rfl
 | m+1=>by
  rw[E4,ac0,i9,K6,aV9 F g m]
  show _=Grf.S m _+_
  congr 1
  rw[ah9,cc3,B3]
theorem bh4 (F:List Int->Int)(i:Nat):∀ m:Nat,((W2 i m).map F).sum=Grf.S m fun d=>F [(i:Int),(i:Int)+1+(d:Int)]
 | 0=>rfl
 | m+1=>by
  rw[aq2,i9,K6,bh4 F i m]
  show _=Grf.S m _+_
  congr 1
  rw[i7,T4,u7,ae8,aO9]
theorem aW1 (h:Nat->Nat)(i:Nat):∀ n:Nat,((((n8 n).filter fun k=>decide (k≠i)).map h).sum:Int)=Grf.S n fun j=>if j=i then 0 else (h j:Int)
 | 0=>rfl
 | n+1=>by
  rw[E4,B4,i9,K6]
  show _=Grf.S n _+_
  rw[<- aW1 h i n]
  show _=_+(if n=i then 0 else (h n:Int))
  by_cases e:n=i
  ·rw[if_pos e,D0 (by simpa using e)]
   simp
  ·rw[if_neg e,C9 (by simpa using e)]
   simp
theorem tri {f:Nat->Nat->Int}(sy:∀ i j,f i j=f j i):∀ n:Nat,2*Grf.S n (fun i=>Grf.S (n - (i+1)) fun d=>f i (i+1+d))=Grf.S n fun i=>Grf.S n fun j=>if j=i then 0 else f i j
 | 0=>rfl
 | n+1=>by
  have ih:=tri sy n
  have e1:Grf.S n (fun i=>Grf.S (n+1 - (i+1)) fun d=>f i (i+1+d))=Grf.S n (fun i=>(Grf.S (n - (i+1)) fun d=>f i (i+1+d))+f i n):=Grf.u9 fun i hi=>by
   rw[show n+1 - (i+1)=(n - (i+1))+1 by omega]
   show Grf.S (n - (i+1)) _+f i (i+1+(n - (i+1)))=_
   rw[show i+1+(n - (i+1))=n by omega]
  have e2:Grf.S n (fun i=>Grf.S (n+1) fun j=>if j=i then 0 else f i j)=Grf.S n (fun i=>(Grf.S n fun j=>if j=i then 0 else f i j)+f i n):=Grf.u9 fun i hi=>by
   show Grf.S n _+(if n=i then 0 else f i n)=_
   rw[if_neg (by omega)]
  have e3:Grf.S n (fun j=>if j=n then 0 else f n j)=Grf.S n (fun i=>f i n):=Grf.u9 fun j hj=>by rw[if_neg (by omega),sy]
  show 2*(Grf.S n (fun i=>Grf.S (n+1 - (i+1)) fun d=>f i (i+1+d))+Grf.S (n+1 - (n+1)) (fun d=>f n (n+1+d)))=Grf.S n (fun i=>Grf.S (n+1) fun j=>if j=i then 0 else f i j)+(Grf.S n (fun j=>if j=n then 0 else f n j)+(if n=n then 0 else f n n))
  rw[e1,e2,e3,Grf.U8,Grf.U8,if_pos rfl,show n+1 - (n+1)=0 by omega]
  have z:Grf.S 0 (fun d=>f n (n+1+d))=0:=rfl
  rw[z]
  omega
theorem ci6 (ns:List Int):Grf.S ns.length (fun i=>ns.getD i 0)=ns.sum:=by
 have:=bE6 (fun z=>z) ns
 rw[aI8]at this
 exact this
def inK (ns:List Int)(k:List Int):Int:=((inH ns (k.getD 0 0).toNat (k.getD 1 0).toNat:Nat):Int)
theorem bA8 {m:Int}(h0:AllP ns)(hs:ns.sum=2*m):((C5 ns.length).map (inK ns)).sum=(cnt ns:Int)*m:=by
 have e1:((C5 ns.length).map (inK ns)).sum=Grf.S ns.length (fun i=>Grf.S (ns.length - (i+1)) fun d=>((inH ns i (i+1+d):Nat):Int)):=by
  unfold C5
  rw[aV9]
  refine Grf.u9 fun i _=>?_
  rw[bh4]
  refine Grf.u9 fun d _=>?_
  show ((inH ns ((i:Int)).toNat ((i:Int)+1+(d:Int)).toNat:Nat):Int)=_
  rw[show ((i:Int)).toNat=i by omega,show ((i:Int)+1+(d:Int)).toNat=i+1+d by omega]
 have e2:=tri (f:=fun i j=>((inH ns i j:Nat):Int)) (fun i j=>by rw[bk1]) ns.length
 have e3:Grf.S ns.length (fun i=>Grf.S ns.length fun j=>if j=i then 0 else ((inH ns i j:Nat):Int))=Grf.S ns.length fun i=>(cnt ns:Int)*ns.getD i 0:=Grf.u9 fun i hi=>by
  rw[<- aW1 (fun j=>inH ns i j) i ns.length,bM1 hi,Int.natCast_mul,T6 (X6 h0 hi),aO8]
 rw[e3,Grf.ao5,ci6,hs,<- e1,cc0]at e2
 omega
end Web
namespace Web
open PySem L2
theorem bs2 (K:W.Frag)(hK:X.K=K):X8 X (.builtin "len") (fun xs H Q=>∃ p ys,xs=[.ref p]/\(SqL K H p ys\/SqT K H p ys)/\Q (.int ys.length) H):=by
 subst hK
 exact A7
theorem ar1 {m:Int}(hij:i<j)(hj:j<ns.length):[(i:Int),(j:Int)]∈wld ns m↔¬ S1 (mv2 ns m [(i:Int),(j:Int)]) .free:=by
 unfold wld
 rw[u4]
 constructor
 ·intro h f
  have:=h.2
  rw[bt6 f]at this
  cases this
 ·exact fun h=>⟨aw4 hij hj,bt5 h⟩
theorem bc5 {K:W.Frag}{Q:VK}{p:Addr}{T:List (List Int)}(neg:Bool)(hun:A.units+64<aj9)(hp:SqT K H p (k.map V.int))(ha:SqL K H a ys\/SqT K H a ys)(ht:u5 K H ys T)(q:Q (.bl (if neg then !decide (k∈T) else decide (k∈T))) H):ba8 K A neg (.ref p) (.ref a) H Q:=by
 refine⟨a,ys,dP k,T.map dP,rfl,ha,Dt.mkP hp,ht.dtAll,bY1 _,aH1 T,aZ2 hun (p8 (bZ8 _) (by decide)),?_⟩
 rw[bD9]
 exact q
theorem bls {a b:Bool}{A B:Prop}(e:a=b)(h:B):if (!decide (V.bl a=V.bl b))=true then A else B:=bj5 (by rw[e]) h
def bE2 (ns:List Int)(i j:Nat)(x:Str):Prop:=(x="all"/\¬ S1 (mv2 ns 1 [(i:Int),(j:Int)]) .free)\/(x="none"/\S1 (mv2 ns 1 [(i:Int),(j:Int)]) .free/\¬ S1 (mv2 ns (-1) [(i:Int),(j:Int)]) .free)\/(x="some"/\S1 (mv2 ns 1 [(i:Int),(j:Int)]) .free/\S1 (mv2 ns (-1) [(i:Int),(j:Int)]) .free)
theorem PTk.word {K:W.Frag}{PT:Addr}{Q:VK}(h:∀ (r:Addr) (x:Str) (vs:List V) (H':Hp),E9 PT H H'->Tb PT H'->H' r=some (.tup (.str x::vs))->bE2 ns i j x->Q (.ref r) H'):PTk K PT ns i j H Q:=by
 refine⟨fun m x hm hn r p y H' g t _ _ gr _=>h r x _ H' g t gr ?_,fun f1 f2 r w1 w2 k1 k2 H' g t _ _ _ _ _ _ gr=>h r "some" _ H' g t gr (.inr (.inr ⟨rfl,f1,f2⟩))⟩
 rcases hm with⟨rfl,rfl⟩ | ⟨rfl,rfl,f⟩
 ·exact .inl ⟨rfl,hn⟩
 ·exact .inr (.inl ⟨rfl,f,hn⟩)
def aF5 (a b:Int):Str:=if a=b then "all" else if a=0 then "none" else "some"
theorem bH5 (hF:InF ns i j)(hc:0<cnt ns)(hij:i<j)(hj:j<ns.length)(h:bE2 ns i j x):x=aF5 ((inH ns i j:Nat):Int) ((cnt ns:Nat):Int)/\decide ([(i:Int),(j:Int)]∈wld ns 1)=decide (V.str x=V.str "all")/\decide ([(i:Int),(j:Int)]∈wld ns (-1))=decide (V.str x=V.str "none"):=by
 rcases h with⟨rfl,h1⟩ | ⟨rfl,h1,h2⟩ | ⟨rfl,h1,h2⟩
 ·have e:=hF.all fun G=>h1 (aw7 G)
  have hp:S1 (mv2 ns (-1) [(i:Int),(j:Int)]) .free:=Classical.byContradiction fun z=>by
   have:=hF.non fun G=>z (aw7 G)
   omega
  refine⟨?_,?_,?_⟩
  ·unfold aF5;rw[if_pos (by omega)]
  ·rw[decide_eq_true ((ar1 hij hj).mpr h1),decide_eq_true rfl]
  ·rw[decide_eq_false (fun z=>(ar1 hij hj).mp z hp),decide_eq_false (by decide)]
 ·have e:=hF.non fun G=>h2 (aw7 G)
  refine⟨?_,?_,?_⟩
  ·unfold aF5;rw[if_neg (by omega),if_pos (by omega)]
  ·rw[decide_eq_false (fun z=>(ar1 hij hj).mp z h1),decide_eq_false (by decide)]
  ·rw[decide_eq_true ((ar1 hij hj).mpr h2),decide_eq_true rfl]
 ·have e1:=hF.lt (ao1 h1)
  have e2:=hF.pos (ao1 h2)
  refine⟨?_,?_,?_⟩
  ·unfold aF5;rw[if_neg (by omega),if_neg (by omega)]
  ·rw[decide_eq_false (fun z=>(ar1 hij hj).mp z h1),decide_eq_false (by decide)]
  ·rw[decide_eq_false (fun z=>(ar1 hij hj).mp z h2),decide_eq_false (by decide)]
seal L2.PE L2.PA L2.PS L2.PSs L2.PT
section
variable {K:W.Frag} {mg:Str->Option Value} {base:Heap}
def bv0:Sp:=fun vs H Q _=>∃ a b:Int,vs=[.int a,.int b]/\Q (.str (aF5 a b)) H
theorem bU7:r6 ["much","whole"] ["much","whole"] (m9 aR4):=.mk'
theorem bK1 (F:Fun K "_law_word" "_law_word" aR4 f fd):o9 P w K mg base CX0 1 f fd ["much","whole"] bv0:=by
 refine F.ok bU7 (fun cdv A outer s H vs Q E hr h=>?_)
 obtain⟨a,b,rfl,q⟩:=h
 refine⟨_,d9 (G8 (A4 Z1 (pv 0) (pv 1) (E1 _)) (m5 (x8 X0)) B8) (d9 (G8 (A4 Z1 (pv 0) m6 (E1 _)) (m5 (x8 X0)) B8) (m5 (x8 X0))),?_⟩
 unfold aF5 at q
 refine⟨_,rfl,_,rfl,rfl,_,rfl,?_⟩
 rw[aC5]
 by_cases e1:a=b
 ·rw[if_pos e1]at q
  rw[decide_eq_true e1]
  exact P7 q
 rw[if_neg e1]at q
 rw[decide_eq_false e1]
 refine J8 ⟨_,rfl,rfl,_,rfl,?_⟩
 rw[aC5]
 by_cases e2:a=0
 ·rw[if_pos e2]at q
  rw[decide_eq_true e2]
  exact P7 q
 ·rw[if_neg e2]at q
  rw[decide_eq_false e2]
  exact J8 q
def bf9 (K:W.Frag)(PT:Addr):Sp:=fun vs H Q _=>∃ (n:Nat) (lt:Addr) (c:Int) (zs:List V) (ks:List (List Int)),vs=[.int n,.ref lt,.int c]/\2<=n/\n<=7/\H lt=some (.lst zs)/\u5 K H zs ks/\ks.Sublist (C5 n)/\Tb PT H/\∀ H':Hp,E9 PT H H'->Tb PT H'->Q (.bl true) H'
theorem Q1:r6 ["places","ties","cell","tally","whole","pairs","lists","total","one","other","much","word"] ["places","ties","cell"] (m9 az2):=.mk'
set_option maxHeartbeats 4000000 in
theorem by6 {fV fL fH fP fA fN fJ fW fX CW CN CM PT:Addr} {fdV fdH fdA fdN fdJ fdX:FuncData} (F:Fun K "_law_right" "_law_right" az2 f fd) (B:Bn mg)
  (FV:Fq K mg "made" aG3 fV fdV ["places","ties"]) (GV:o9 P w K mg base CX0 24 fV fdV ["places","ties"] (aJ9 K))
  (FL:Fq K mg "tally_of" az1 fL fdL ["web"]) (GL:o9 P w K mg base CX0 24 fL fdL ["web"] (bP3 K))
  (FH:Fq K mg "how_many" bw6 fH fdH ["tally"]) (GH:o9 P w K mg base (CXE P w) 24 fH fdH ["tally"] (bP7 K CB CM))
  (FP:Fq K mg "_law_pairs" ap8 fP fdP ["places"]) (GP:o9 P w K mg base CX0 24 fP fdP ["places"] (am6 K))
  (FA:Fq K mg "always" bw9 fA fdA ["tally"]) (GA:o9 P w K mg base (CXE P w) 24 fA fdA ["tally"] (bg8 K CB CW 1))
  (FN:Fq K mg "never" bw2 fN fdN ["tally"]) (GN:o9 P w K mg base (CXE P w) 24 fN fdN ["tally"] (bg8 K CB CW (-1)))
  (FJ:Fq K mg "in_how_many" bw5 fJ fdJ ["tally","one","other"]) (GJ:o9 P w K mg base (CXE P w) 24 fJ fdJ ["tally","one","other"] (bP6 K CB CM CN))
  (FW:Fq K mg "_law_word" aR4 fW fdW ["much","whole"]) (GW:o9 P w K mg base CX0 24 fW fdW ["much","whole"] (bv0))
  (FX:Fq K mg "pair_told" sPT fX fdX ["tally","one","other"]) (GX:o9 P w K mg base (CXE P w) 24 fX fdX ["tally","one","other"] (bU4 K PT CB CW CN)):o9 P w K mg base CX0 25 f fd ["places","ties","cell"] (bf9 K PT):=by
 refine F.ok Q1 (fun cdv A outer s H vs Q E hr h=>?_)
 obtain⟨n,lt,c,zs,ks,rfl,n2,n7,g1,t1,hsub,tb,q⟩:=h
 have hsl:=J1
 have hun:=hr.units
 have nd3:(["k","pairs","cell"]:List Str).Nodup:=by decide +kernel
 refine⟨_,d9 (B5 (i:=3) Q1.nd rfl (Or.inl rfl) (v7 GL hr (by rfl) FL E7 (a5 (v7 GV hr (by rfl) FV E7 (a5 (pv 0) (a5 (pv 1) c6))) c6)))
  (d9 (B5 (i:=4) Q1.nd rfl (Or.inl rfl) (v7 GH hr (by rfl) FH (Z0 (P:=P) (w:=w)) (a5 (pv 3) c6)))
  (d9 (B5 (i:=5) Q1.nd rfl (Or.inr rfl) (v7 GP hr (by rfl) FP E7 (a5 (pv 0) c6)))
  (aw1 (G8 (A4 aS9 (pv 0) m6 (E1 _)) (m5 (B5 (i:=5) Q1.nd rfl (Or.inr rfl) (N4 (N':=["k","pairs","cell"]) (lk:=[none,some 5,some 2]) rfl (ab0 rfl B.range (a5 m6 c6)) (by rfl) rfl (by decide +kernel) (by exact⟨rfl,rfl,trivial⟩) (by rfl) (by exact LkL.ok ⟨⟨rfl,Or.inl rfl,rfl,Or.inl rfl⟩,⟨rfl,Or.inl rfl,rfl,Or.inl rfl⟩,trivial⟩) (fun _ _ _=>B0 (i:=0) nd3 rfl (Or.inl rfl)) (fun _ _ _=>U4) (fun _ _ _=>Y9 K rfl (pv 1) (C0 V4 (C0 X1 (C0 an6 (pv 2) m6) (C0 ad3 m6 (pv 0))) (A2 (bs2 K rfl) (by rfl) B.len PySem.boot_len (a5 (pv 1) c6))) (fun _ _=>rfl))))) B8)
  (d9 (B5 (i:=6) Q1.nd rfl (Or.inl rfl) (P6 (a5 (v7 GA hr (by rfl) FA (Z0 (P:=P) (w:=w)) (a5 (pv 3) c6)) (a5 (v7 GN hr (by rfl) FN (Z0 (P:=P) (w:=w)) (a5 (pv 3) c6)) c6))))
  (d9 (B5 (i:=7) Q1.nd rfl (Or.inl rfl) m6)
  (d9 (aa0 PassesOwn.never rfl (Q2 (pv 5)) (aq6 rfl (K3 (B0 (i := 8) Q1.nd rfl (Or.inl rfl)) (K3 (B0 (i := 9) Q1.nd rfl (Or.inl rfl)) ad0)))
   (d9 (B5 (i:=10) Q1.nd rfl (Or.inl rfl) (v7 GJ hr (by rfl) FJ (Z0 (P:=P) (w:=w)) (a5 (pv 3) (a5 (pv 9) (a5 (pv 8) c6)))))
   (d9 (B5 (i:=7) Q1.nd rfl (Or.inl rfl) (C0 X1 (pv 7) (pv 10)))
   (aw1 (G8 (PW.pt (bh8 (A4 at4 (pv 10) m6 (E1 _)) (bh8 (A4 aS9 (pv 10) (pv 4) (E1 _)) (ba9 (PW.pt (bb0 (A4 aL1 (L0 (a5 (pv 8) (a5 (pv 9) c6))) (pv 1) (by rfl)) (aK5 (A4 Z1 (pv 10) m6 (E1 _))))))))) K1 B8)
   (d9 (B5 (i:=11) Q1.nd rfl (Or.inl rfl) (v7 GW hr (by rfl) FW E7 (a5 (pv 10) (a5 (pv 4) c6))))
   (d9 (G8 (A4 aS8 (Q9 U1 (v7 GX hr (by rfl) FX (Z0 (P:=P) (w:=w)) (a5 (pv 3) (a5 (pv 8) (a5 (pv 9) c6)))) m6 (fun _ _=>rfl)) (pv 11) (E1 _)) K1 B8)
   (m5 (G8 (PW.pt (bh8 (A4 aS8 (ai5 aL1 (L0 (a5 (pv 8) (a5 (pv 9) c6))) (Q9 ad4 (pv 6) m6 (fun _ _=>rfl)) (by rfl)) (ai5 Z1 (pv 11) X0 (E1 _)) (E1 _)) (ba9 (A4 aS8 (ai5 aL1 (L0 (a5 (pv 8) (a5 (pv 9) c6))) (Q9 ad4 (pv 6) m6 (fun _ _=>rfl)) (by rfl)) (ai5 Z1 (pv 11) X0 (E1 _)) (E1 _))))) K1 B8))))))))
  (m5 (x8 (cg5 (ai5 aS9 (pv 0) m6 (E1 _)) (bV8 (ai5 Z1 (pv 7) (C0 ad3 (pv 4) (A2 A7 (by rfl) B.len PySem.boot_len (a5 (pv 1) c6))) (E1 _)))))))))))),?_⟩
 have ups:∀ k∈ks,Up n k:=fun k hk=>aj0 (hsub.subset hk)
 have nd:ks.Nodup:=(as0 (ar9 n)).sublist hsub
 have hkl:ks.length<=276:=p8 hsub.length_le (U0 n (by omega))
 refine⟨_,rfl,_,rfl,n,lt,zs,ks,rfl,by omega,by omega,.inl (SqL.of g1),t1,fun k hk=>(ups k hk).ends,by rw[aJ6 ups];exact nd,by omega,fun p t zs2 ks2 H2 s2 _ _ k1 k2 tt pm so=>?_⟩
 rw[aJ6 ups]at pm
 obtain⟨ns,hns⟩:∃ ns,tal n ks=ns:=⟨_,rfl⟩
 have htl2:tal n ks2=ns:=by
  rw[<- hns]
  unfold tal
  exact o8 fun p _=>by rw[aH8 pm]
 have hl:ns.length=n:=by rw[<- hns];exact P0 n ks
 have ht:M5 ns:=⟨by omega,by omega⟩
 have hG:Gr ns:=by rw[<- hns];exact bt7 nd ups
 have hfr:S1 ns .free:=aw7 hG
 have hcp:=am0.mpr hG
 refine⟨p,n,ks2,rfl,⟨t,zs2,SqT.of k1,SqT.of k2,tt⟩,by omega,fun k hk=>(ups k (pm.mem_iff.mp hk)).ends,fun ta H3 s3 f3 g3=>?_⟩
 rw[htl2]at g3
 have s13:=s2.trans s3
 refine B2 ?_
 refine⟨_,rfl,ta,ns,rfl,.inl (SqL.of g3),fun _ _ H4 s4=>?_,fun h=>absurd ht h,fun _ h=>absurd h (by omega)⟩
 refine B2 ?_
 refine⟨_,rfl,n,rfl,by omega,fun lp zp H5 s5 f5 g5 t5=>?_⟩
 have s15:=(s13.trans s4).trans s5
 have s35:=s4.trans s5
 refine⟨fun σ Hn=>∃ (l:Addr) (ys:List V) (T:List (List Int)),σ=[some (.int n),some (.ref lt),some (.int c),some (.ref ta),some (.int (cnt ns:Nat)),some (.ref l),none,none,none,none,none,none]/\y7 H5 Hn/\Hn l=some (.lst ys)/\u5 K Hn ys T/\(∀ k∈T,k∈C5 n)/\(n<=6->T=C5 n),?_,?_⟩
 ·refine⟨_,rfl,_,_,rfl,rfl,_,rfl,?_⟩
  by_cases h6:(6:Int)<(n:Int)
  ·rw[decide_eq_true h6]
   have hzl:=t5.len
   have hpl:0<zp.length:=by
    have:=bt2 (aw4 (n:=n) (i:=0) (j:=1) (by omega) (by omega))
    omega
   have hp24:=U0 n (by omega)
   refine P7 ⟨_,rfl,by decide,by decide,fun D hD=>ad5 (lo:=0) (n:=2) (D:=D) (fun i ys σ' H'=>(∃ v,σ'=[v,some (.ref lp),some (.int c)])/\y7 H5 H'/\H' D=some (.lst ys)/\ys.length=i/\∃ T,u5 K H' ys T/\∀ k∈T,k∈C5 n)
    ⟨⟨none,rfl⟩,d6 hD,b7,rfl,[],.nil,fun k hk=>by cases hk⟩ (by omega) (fun i ys σ' H' hi ⟨_,s6,h6,e6,_⟩=>⟨h6,by omega⟩) ?_ ?_⟩
   ·rintro i ys σ' H' N kN hi ⟨⟨v,rfl⟩,s6,h6',e6,T,tT,hT⟩
    refine B2 (P9 ?_)
    have glp6:=SqL.of (K:=K) (s6 _ _ g5)
    have hz0:(0:Int)<=(c / 7+5*(0+(i:Int))) % (zp.length:Int):=ap2 _ (by omega)
    have hz1:(c / 7+5*(0+(i:Int))) % (zp.length:Int)<(zp.length:Int):=af7 _ (by omega)
    obtain⟨u,hu⟩:∃ u:Nat,(c / 7+5*(0+(i:Int))) % (zp.length:Int)=(u:Int):=⟨((c / 7+5*(0+(i:Int))) % (zp.length:Int)).toNat,by omega⟩
    have hul:u<zp.length:=by omega
    obtain⟨pa,pk,e1,hk',hq⟩:=t5.get (i6 hul)
    have hat:atI zp ((c / 7+5*(0+(i:Int))) % (zp.length:Int))=some (.ref pa):=by
     rw[hu]
     exact G3 (j:=u) (by rw[i6 hul,e1])
    refine⟨_,rfl,_,rfl,_,_,rfl,rfl,⟨by decide,by decide⟩,_,rfl,_,_,rfl,rfl,.inl ⟨by omega,by omega⟩,_,_,rfl,rfl,_,rfl,lp,zp,rfl,.inl glp6,_,_,rfl,rfl,(by show (0:Int)<(zp.length:Int);omega),.inl ⟨lp,_,_,_,rfl,rfl,glp6,hat,h6',kN _ _ _ ⟨⟨_,rfl⟩,s6.upd hD,b7,by rw[j7,e6];rfl,T++[pk],?_,?_⟩⟩⟩
    ·exact u5.updL h6' (u5.append tT (u5.one (s6.seqT hq)))
    ·intro k hk
     rcases k7.mp hk with m | m
     ·exact hT k m
     ·rw[j6.mp m]
      exact d5 hk'
   ·rintro ys σ' H6 ⟨⟨v,rfl⟩,s6,g6,e6,T,t6,hT⟩
    exact⟨D,ys,T,rfl,s6,g6,t6,hT,fun h=>by omega⟩
  ·rw[decide_eq_false h6]
   exact J8 ⟨lp,zp,C5 n,rfl,y7.refl _,g5,t5,fun k hk=>hk,fun _=>rfl⟩
 rintro σ H6 ⟨l,ys,T,rfl,s6,g6,t6,hT,hT6⟩
 have s36:=s35.trans s6
 refine⟨_,rfl,ta,ns,rfl,.inl (SqL.of (s36 _ _ g3)),fun _ _ la za H7 s7 f7 g7 t7=>?_,fun h=>absurd ht h,fun _ h=>absurd hfr h⟩
 refine⟨_,rfl,ta,ns,rfl,.inl (SqL.of ((s36.trans s7) _ _ g3)),fun _ _ la' zn H8 s8 f8 g8 t8=>?_,fun h=>absurd ht h,fun _ h=>absurd hfr h⟩
 refine⟨by show 2<=f6;omega,fun ls f9=>?_⟩
 have s9:=d6 (o:=.lst [.ref la,.ref la']) f9
 have g9:(upd H8 ls (.lst [.ref la,.ref la'])) ls=some (.lst [.ref la,.ref la']):=b7
 generalize upd H8 ls (.lst [.ref la,.ref la'])=H9 at s9 g9 ⊢
 have s69:=(s7.trans s8).trans s9
 have sA:=(s15.trans s6).trans s69
 have tb9:=tb.same sA
 have g1':=sA _ _ g1
 have t1':=sA.tups t1
 have g3':=(s36.trans s69) _ _ g3
 have gl':=s69 _ _ g6
 have tl':=s69.tups t6
 have g7':=(s8.trans s9) _ _ g7
 have t7':=(s8.trans s9).tups t7
 have g8':=s9 _ _ g8
 have t8':=s9.tups t8
 have l0:atI ([.ref la,.ref la']:List V) 0=some (.ref la):=G3 (j:=0) rfl
 have l1:atI ([.ref la,.ref la']:List V) 1=some (.ref la'):=G3 (j:=1) rfl
 clear s2 s3 s4 s5 s7 s8 s9 s35 s36 s69 s13 s15 s6
 have hyl:=tl'.len
 refine⟨_,rfl,l,rfl,⟨_,SqL.of gl'⟩,aV7 (K:=K) (a:=l) (xs:=ys) (fun u σ Ha=>∃ e8 e9 e10 e11,σ=[some (.int n),some (.ref lt),some (.int c),some (.ref ta),some (.int (cnt ns:Nat)),some (.ref l),some (.ref ls),some (.int (((T.take u).map (inK ns)).sum)),e8,e9,e10,e11]/\E9 PT H9 Ha/\Tb PT Ha) ⟨none,none,none,none,rfl,E9.refl PT H9,tb9⟩ (fun i σ Ha _ ⟨_,_,_,_,_,g,_⟩=>SqL.of (L6 g tb9 gl')) ?_ ?_⟩
 ·rintro u x σ Ha hx ⟨e8,e9,e10,e11,rfl,ga,tba⟩
  obtain⟨pa,pk,rfl,hk',hq⟩:=tl'.get hx
  obtain⟨i,j,hij,hjn,rfl⟩:=aj0 (hT pk (d5 hk'))
  have hqa:=E9.sqT ga tb9 hq
  have gta:=L6 ga tb9 g3'
  have hF:=bA9 (ns:=ns) (i:=i) (j:=j) (by omega) (by omega) (by omega) hG
  have hle:=bB1 (ns:=ns) (i:=i) (j:=j) (by omega) (by omega) (by omega)
  refine⟨pa,_,rfl,hqa,rfl,_,_,rfl,_,_,rfl,rfl,?_⟩
  refine⟨_,rfl,_,rfl,_,rfl,ta,ns,(j:Int),(i:Int),rfl,.inl (SqL.of gta),fun _ _ _ Hb sb=>?_,fun h=>absurd ht h,fun _ h=>absurd h (by omega),fun _ _ h=>absurd ⟨⟨by omega,by omega⟩,⟨by omega,by omega⟩,by omega⟩ h⟩
  rw[j2,j2,bk1]
  refine B2 ?_
  refine⟨_,rfl,_,rfl,_,_,rfl,rfl,?_⟩
  have hin:((T.take u).map (inK ns)).sum+((inH ns i j:Nat):Int)=((T.take (u+1)).map (inK ns)).sum:=by
   rw[o6,hk',O9,i9,K6,i7,T4,u7,ae8,aO9]
   show _=_+((inH ns ((i:Int)).toNat ((j:Int)).toNat:Nat):Int)
   rw[j2,j2]
  refine bB9 (v':=.int (((T.take (u+1)).map (inK ns)).sum)) (congrArg V.int hin) ?_
  have gab:E9 PT H9 Hb:=ga.trans (sb.grow PT)
  have tbb:=tba.same sb
  refine⟨fun σ Hn=>σ=[some (.int n),some (.ref lt),some (.int c),some (.ref ta),some (.int (cnt ns:Nat)),some (.ref l),some (.ref ls),some (.int (((T.take (u+1)).map (inK ns)).sum)),some (.int i),some (.int j),some (.int (inH ns i j:Nat)),e11]/\y7 Hb Hn,?_,?_⟩
  ·refine⟨_,rfl,_,_,rfl,rfl,_,rfl,?_⟩
   rw[decide_eq_false (show ¬ ((inH ns i j:Nat):Int)<0 by omega)]
   refine J8 ⟨_,rfl,_,rfl,_,_,rfl,rfl,_,rfl,?_⟩
   rw[decide_eq_false (show ¬ ((cnt ns:Nat):Int)<((inH ns i j:Nat):Int) by omega)]
   refine J8 ⟨_,rfl,_,rfl,(by show 2<=f6;omega),fun tp ftp=>?_⟩
   have stp:=d6 (o:=.tup [.int i,.int j]) ftp
   have gtp:(upd Hb tp (.tup [.int i,.int j])) tp=some (.tup ([(i:Int),(j:Int)].map V.int)):=b7
   generalize upd Hb tp (.tup [.int i,.int j])=Hc at stp gtp ⊢
   have gac:E9 PT H9 Hc:=gab.trans (stp.grow PT)
   have tbc:=tbb.same stp
   refine⟨_,rfl,bc5 false hun (SqT.of gtp) (.inl (SqL.of (L6 gac tb9 g1'))) (W7 gac tb9 t1') ⟨_,rfl,?_⟩⟩
   refine aU6 (fun hm=>?_) (fun _=>J8 ⟨rfl,stp⟩)
   have hm':[(i:Int),(j:Int)]∈ks:=of_decide_eq_true hm
   have hp:=hF.pos (by rw[<- hns];exact bu5 nd ups hij hjn hm')
   refine⟨_,rfl,rfl,_,rfl,?_⟩
   rw[aC5,decide_eq_false (show ¬ ((inH ns i j:Nat):Int)=0 by omega)]
   exact J8 ⟨rfl,stp⟩
  rintro σ Hc ⟨rfl,stp⟩
  have gac:E9 PT H9 Hc:=gab.trans (stp.grow PT)
  have tbc:=tbb.same stp
  refine⟨_,rfl,_,rfl,_,_,rfl,?_⟩
  refine B2 ?_
  refine⟨_,rfl,_,rfl,_,rfl,ta,ns,(i:Int),(j:Int),rfl,.inl (SqL.of (L6 gac tb9 g3')),tbc,fun h=>absurd ht h,fun _ h=>absurd hfr h,fun _ _ h=>absurd ⟨⟨by omega,by omega⟩,⟨by omega,by omega⟩,by omega⟩ h,fun _ _ i' j' e1 e2 _ _ _=>?_⟩
  obtain rfl:i=i':=by omega
  obtain rfl:j=j':=by omega
  refine PTk.word fun r x vs Hd gd tbd gr hx=>?_
  have gad:=gac.trans gd
  obtain⟨hw,hin0,hin1⟩:=bH5 hF hcp hij (by omega) hx
  refine⟨r,_,_,_,rfl,rfl,SqT.of gr,G3 (j:=0) rfl,_,rfl,rfl,_,rfl,bj5 (congrArg V.str hw) ?_⟩
  rw[hw]at hin0 hin1
  refine⟨_,rfl,_,rfl,(by show 2<=f6;omega),fun tp ftp=>?_⟩
  have st2:=d6 (o:=.tup [.int i,.int j]) ftp
  have gtp:(upd Hd tp (.tup [.int i,.int j])) tp=some (.tup ([(i:Int),(j:Int)].map V.int)):=b7
  generalize upd Hd tp (.tup [.int i,.int j])=He at st2 gtp ⊢
  have gae:E9 PT H9 He:=gad.trans (st2.grow PT)
  have tbe:=tbd.same st2
  refine⟨_,rfl,ls,_,_,_,rfl,rfl,SqL.of (L6 gae tb9 g9),l0,bc5 false hun (SqT.of gtp) (.inl (SqL.of (L6 gae tb9 g7'))) (W7 gae tb9 t7') ⟨_,rfl,rfl,rfl,_,rfl,bls hin0 ?_⟩⟩
  refine⟨_,rfl,_,rfl,(by show 2<=f6;omega),fun tq ftq=>?_⟩
  have st3:=d6 (o:=.tup [.int i,.int j]) ftq
  have gtq:(upd He tq (.tup [.int i,.int j])) tq=some (.tup ([(i:Int),(j:Int)].map V.int)):=b7
  generalize upd He tq (.tup [.int i,.int j])=Hf at st3 gtq ⊢
  have gaf:E9 PT H9 Hf:=gae.trans (st3.grow PT)
  refine⟨_,rfl,ls,_,_,_,rfl,rfl,SqL.of (L6 gaf tb9 g9),l1,bc5 false hun (SqT.of gtq) (.inl (SqL.of (L6 gaf tb9 g8'))) (W7 gaf tb9 t8') ⟨_,rfl,rfl,rfl,_,rfl,bls hin1 ?_⟩⟩
  exact⟨_,_,_,_,rfl,gaf,tbe.same st3⟩
 ·rintro σ Ha ⟨e8,e9,e10,e11,rfl,ga,tba⟩
  refine⟨_,rfl,_,_,rfl,rfl,_,rfl,?_⟩
  by_cases h6:(6:Int)<(n:Int)
  ·rw[decide_eq_true h6]
   exact P7 (q Ha ((sA.grow PT).trans ga) tba)
  ·rw[decide_eq_false h6]
   have hzs:=t1.len
   have hcs:=br9 (d:=ns) (by omega)
   refine J8 ⟨_,rfl,_,rfl,_,rfl,lt,_,rfl,.inl (SqL.of (L6 ga tb9 g1')),_,_,rfl,rfl,.inl ⟨by omega,by omega⟩,rfl,?_⟩
   have hsum:ns.sum=2*(ks.length:Int):=by rw[<- hns];exact bI0 n ks fun k hk=>(ups k hk).ends
   have htot:=bA8 (al7 hG) hsum
   rw[hl,<- hT6 (by omega)]at htot
   rw[hyl,aO7,htot,hzs,aC5,decide_eq_true rfl]
   exact q Ha ((sA.grow PT).trans ga) tba
end
end Web
namespace Web
open PySem L2
section
variable {K:W.Frag} {mg:Str->Option Value} {base:Heap}
def aQ9 (K:W.Frag)(PT:Addr):Sp:=fun vs H Q _=>∃ (a:Addr) (ns:List Int),vs=[.ref a]/\SqL K H a (ns.map V.int)/\ns.length<=63/\Tb PT H/\∀ H',Q (.bl true) H'
theorem aG2:r6 ["script","base","places","cell","ties"] ["script"] (m9 ba5):=.mk'
set_option maxHeartbeats 4000000 in
theorem bK5 {fC fE fR PT:Addr} {fdE fdR:FuncData} (F:Fun K "law" "law" ba5 f fd) (B:Bn mg)
  (FC:Fq K mg "_law_cell_at" aR8 fC fdC ["script","k"]) (GC:o9 P w K mg base CX0 25 fC fdC ["script","k"] (bv6 K))
  (FE:Fq K mg "_law_ties" aR6 fE fdE ["places","cell","way"]) (GE:o9 P w K mg base CX0 25 fE fdE ["places","cell","way"] (bv1 K))
  (FR:Fq K mg "_law_right" az2 fR fdR ["places","ties","cell"]) (GR:o9 P w K mg base CX0 25 fR fdR ["places","ties","cell"] (bf9 K PT)):o9 P w K mg base CX0 26 f fd ["script"] (aQ9 K PT):=by
 refine F.ok aG2 (fun cdv A outer s H vs Q E hr h=>?_)
 obtain⟨sc,ns,rfl,hS,hlen,tb,q⟩:=h
 have hsl:=J1
 refine⟨_,d9 (B5 (i:=1) aG2.nd rfl (Or.inl rfl) (C0 V4 (v7 GC hr (by rfl) FC E7 (a5 (pv 0) (a5 m6 c6))) (C0 bW1 m6 m6)))
  (d9 (B5 (i:=2) aG2.nd rfl (Or.inl rfl) (C0 X1 m6 (C0 V4 (pv 1) m6)))
  (aw1 (G8 (A4 Z1 (C0 V4 (C0 an6 (pv 1) m6) m6) m6 (E1 _)) (m5 (B5 (i:=2) aG2.nd rfl (Or.inl rfl) m6)) B8)
  (d9 (aa0 PassesOwn.never rfl (Q2 (C0 bb5 (P6 (a5 (v7 GC hr (by rfl) FC E7 (a5 (pv 0) (a5 m6 c6))) c6)) (ab1 ai4 (pv 0) (ac9 m6) (ac9 (Q9 ad4 (P6 (a5 m6 (a5 m6 (a5 m6 c6)))) (A2 (aI0 rfl) (by rfl) B.max (by rfl) (a5 m6 (a5 (C0 aq8 (pv 2) m6) c6))) (fun _ _ => rfl)))))) (B0 (i := 3) aG2.nd rfl (Or.inl rfl))
   (d9 (B5 (i:=4) aG2.nd rfl (Or.inl rfl) (v7 GE hr (by rfl) FE E7 (a5 (pv 2) (a5 (pv 3) (a5 (C0 V4 (C0 an6 (pv 1) m6) m6) c6)))))
   (m5 (G8 (ac8 (aK6 (v7 GR hr (by rfl) FR E7 (a5 (pv 2) (a5 (pv 4) (a5 (pv 3) c6)))))) K1 B8))))
  (m5 (x8 bQ7))))),?_⟩
 refine⟨_,rfl,sc,ns,0,rfl,hS,fun r0=>?_⟩
 refine⟨_,_,rfl,rfl,⟨by decide,by decide,by decide⟩,_,_,rfl,rfl,p40,?_⟩
 refine br2 fun c _=>?_
 refine⟨_,rfl,_,_,rfl,rfl,(by show (0:Int)<5;decide),_,_,rfl,rfl,?_⟩
 refine B2 ?_
 refine⟨fun σ Hn=>Hn=H/\∃ n:Nat,2<=n/\n<=7/\σ=[some (.ref sc),some (.int c),some (.int n),none,none],?_,?_⟩
 ·refine⟨_,rfl,_,_,rfl,rfl,⟨by decide,by decide⟩,_,_,rfl,rfl,(by show (0:Int)<8;decide),rfl,_,rfl,?_⟩
  refine aU6 (fun _=>⟨rfl,7,by decide,by decide,rfl⟩) (fun _=>⟨rfl,(2+c % 5).toNat,by omega,by omega,?_⟩)
  rw[show (((2+c % 5).toNat:Nat):Int)=2+c % 5 by omega]
  rfl
 rintro σ H0 ⟨rfl,n,n2,n7,rfl⟩
 refine⟨_,rfl,sc,ns,1,rfl,hS,fun r1=>⟨(by show 1<=f6;decide),fun l2 f2=>?_⟩⟩
 have s2:=d6 (o:=.lst [.int r1]) f2
 refine⟨_,rfl,_,rfl,(by show 3<=f6;decide),fun l3 f3=>?_⟩
 have s3:=d6 (o:=.lst [.int 6,.int 4,.int 2]) f3
 obtain⟨v,hv⟩:∃ v:Int,atI ([.int 6,.int 4,.int 2]:List V) (if (n:Int) - 5 > 0 then (n:Int) - 5 else 0)=some (.int v):=by
  by_cases h:(n:Int) - 5 > 0
  ·rw[if_pos h]
   have:n=6\/n=7:=by omega
   rcases this with rfl | rfl
   ·exact⟨4,G3 (j:=1) rfl⟩
   ·exact⟨2,G3 (j:=2) rfl⟩
  ·rw[if_neg h]
   exact⟨6,G3 (j:=0) rfl⟩
 obtain⟨ms,hms,hml⟩:=br6 ns (some 2) (some v)
 refine⟨_,rfl,_,_,rfl,rfl,_,_,rfl,l3,_,_,_,rfl,rfl,SqL.of b7,hv,?_⟩
 refine⟨v,rfl,sc,ns.map V.int,rfl,(s2.trans s3).seq hS,fun p4 f4=>?_⟩
 rw[hms]
 have s4:=d6 (o:=.lst (ms.map V.int)) f4
 refine⟨l2,p4,_,_,rfl,rfl,(s3.trans s4) _ _ b7,b7,by rw[a6];simp;omega,fun lc flc=>⟨lc,rfl,⟨_,SqL.of b7⟩,?_⟩⟩
 have s5:=d6 (o:=.lst ([V.int r1]++ms.map V.int)) flc
 have sA:=((s2.trans s3).trans s4).trans s5
 have glc:(upd (upd (upd (upd H0 l2 (.lst [.int r1])) l3 (.lst [.int 6,.int 4,.int 2])) p4 (.lst (ms.map V.int))) lc (.lst ([V.int r1]++ms.map V.int))) lc=some (.lst ((r1::ms).map V.int)):=b7
 generalize upd (upd (upd (upd H0 l2 (.lst [.int r1])) l3 (.lst [.int 6,.int 4,.int 2])) p4 (.lst (ms.map V.int))) lc (.lst ([V.int r1]++ms.map V.int))=H5 at sA glc ⊢
 have tb5:=tb.same sA
 refine aV7 (K:=K) (a:=lc) (xs:=(r1::ms).map V.int) (fun _ σ Ha=>∃ e3 e4,σ=[some (.ref sc),some (.int c),some (.int n),e3,e4]/\E9 PT H5 Ha/\Tb PT Ha) ⟨none,none,rfl,E9.refl PT H5,tb5⟩ (fun i σ Ha _ ⟨_,_,_,g,_⟩=>SqL.of (L6 g tb5 glc)) ?_ ?_
 ·rintro i x σ Ha hx ⟨e3,e4,rfl,ga,tba⟩
  obtain⟨z,rfl⟩:=int_at hx
  refine B2 ?_
  refine⟨_,rfl,_,rfl,_,rfl,_,_,rfl,rfl,⟨by decide,by decide⟩,_,_,rfl,rfl,(by show (0:Int)<4;decide),n,z,_,rfl,by omega,fun lt zs ks Hb sb fb gb tzs hsub=>?_⟩
  refine B2 ?_
  refine⟨_,rfl,_,rfl,_,rfl,n,lt,z,zs,ks,rfl,n2,n7,gb,tzs,hsub,tba.same sb,fun Hc gc tbc=>⟨_,rfl,J8 ⟨_,_,rfl,(ga.trans (sb.grow PT)).trans gc,tbc⟩⟩⟩
 ·rintro σ Ha ⟨e3,e4,rfl,_⟩
  exact q _
theorem bX0 {fI fC fU fV fℓ fζ fT fO fM fG fA fβ fω fW fH fF fL fY fJ fB fD fE fX fκ fN fα fφ fγ fσ fε fμ fν fη fψ fQ fK fP fθ fτ fR CN CW CM c PT:Addr}{fdU fdV fdℓ fdζ fdO fdG fdA fdβ fdω fdH fdY fdJ fdB fdD fdE fdX fdκ fdN fdα fdφ fdγ fdσ fdε fdμ fdν fdη fdψ fdQ fdK fdθ fdτ fdR:FuncData}{tk tC:Tok}(F0:Fun K "law" "law" ba5 f fd)(Bx:Bn mg)(mo:mg "MOST_PLACES"=some (.int 24 tk))(mc:mg "MOST_COUNTED"=some (.int 7 tC))
  (FI:Fq K mg "is_place" aE8 fI fdI ["places","number"])
  (FC:Fq K mg "check_place" bo9 fC fdC ["places","number"])
  (FU:Fq K mg "turned_up" sUp fU fdU ["places","tie"])
  (FV:Fq K mg "made" aG3 fV fdV ["places","ties"])
  (Fℓ:Fq K mg "tally_of" az1 fℓ fdℓ ["web"])
  (Fζ:Fq K mg "all_pairs" aR9 fζ fdζ ["places"])
  (FT:Fq K mg "check_tally" az5 fT fdT ["tally"])
  (FO:Fq K mg "order_of" ba4 fO fdO ["tally"])
  (FM:Fq K mg "moved" bw3 fM fdM ["tally","place","more"])
  (FG:Fq K mg "falling" az4 fG fdG ["tally"])
  (FA:Fq K mg "room_among" aq0 fA fdA ["numbers","most","r"])
  (Fβ:Fq K mg "places_below" ap9 fβ fdβ ["numbers"])
  (Fω:Fq K mg "wall_with" ay9 fω fdω ["tally","most"])
  (FW:Fq K mg "wall_of" az0 fW fdW ["tally"])
  (FH:Fq K mg "check_has_web" bo7 fH fdH ["tally"])
  (FF:Fq K mg "first_of_order" al4 fF fdF ["tally","many","passed_over"])
  (FL:Fq K mg "left_of_others" az3 fL fdL ["tally","place","ends"])
  (FY:Fq K mg "laid_around" aG4 fY fdY ["tally","place","ends"])
  (FJ:Fq K mg "check_pair" bp0 fJ fdJ ["places","one","other"])
  (FB:Fq K mg "moved_both" bo6 fB fdB ["tally","one","other","more"])
  (FD:Fq K mg "laid_with" aR5 fD fdD ["tally","one","other"])
  (FE:Fq K mg "laid_without" aR3 fE fdE ["tally","one","other"])
  (FX:Fq K mg "pair_told" sPT fX fdX ["tally","one","other"])
  (Fκ:Fq K mg "pairs_walled" bo5 fκ fdκ ["tally","more"])
  (FN:Fq K mg "always" bw9 fN fdN ["tally"])
  (Fα:Fq K mg "never" bw2 fα fdα ["tally"])
  (Fφ:Fq K mg "check_few" bw7 fφ fdφ ["places"])
  (Fγ:Fq K mg "check_counted" bp1 fγ fdγ ["tally"])
  (Fσ:Fq K mg "choices" bw8 fσ fdσ ["places","many"])
  (Fε:Fq K mg "first_ends" sFE fε fdε ["left"])
  (Fμ:Fq K mg "count_behind" bp2 fμ fdμ ["left","ends","known"])
  (Fν:Fq K mg "count_of" bo8 fν fdν ["left","known"])
  (Fη:Fq K mg "how_many" bw6 fη fdη ["tally"])
  (Fψ:Fq K mg "in_how_many" bw5 fψ fdψ ["tally","one","other"])
  (FQ:Fq K mg "_law_cell_at" aR8 fQ fdQ ["script","k"])
  (FK:Fq K mg "_law_mixed" bw4 fK fdK ["cell","k","bound"])
  (FP:Fq K mg "_law_pairs" ap8 fP fdP ["places"])
  (Fθ:Fq K mg "_law_ties" aR6 fθ fdθ ["places","cell","way"])
  (Fτ:Fq K mg "_law_word" aR4 fτ fdτ ["much","whole"])
  (FR:Fq K mg "_law_right" az2 fR fdR ["places","ties","cell"])
  (mCB:mg "BadTally"=some (.ref CB))(cCB:af2 K CB)(mCN:mg "NoPlace"=some (.ref CN))(cCN:af2 K CN)(mCW:mg "NoWeb"=some (.ref CW))(cCW:af2 K CW)(mCM:mg "TooMany"=some (.ref CM))(cCM:af2 K CM)(hc:fdO.code=.ref c)(LB:aD4 base mg c PT):o9 P w K mg base CX0 26 f fd ["script"] (aQ9 K PT):=by
 have GW:o9 P w K mg base (CXE P w) 3 fW fdW ["tally"] (ay5 K CB):=bK3 FW.F Bx FT FG FA Fβ Fω mo mCB cCB
 have GM:o9 P w K mg base (CXE P w) 3 fM fdM ["tally","place","more"] (bv2 K CB CN):=bW8 FM.F Bx FT FC FI mo mCB cCB mCN cCN
 have GH:o9 P w K mg base (CXE P w) 4 fH fdH ["tally"] (bg1 K CB CW):=bX3 FH.F FW GW mCW cCW
 have GB:o9 P w K mg base CX0 4 fB fdB ["tally","one","other","more"] (bg0 K):=bW7 FB.F FM GM
 have GJ:o9 P w K mg base (CXE P w) 3 fJ fdJ ["places","one","other"] (bg3 CN):=bX7 FJ.F FC FI mCN cCN
 have GF:o9 P w K mg base (CXE P w) 3 fF fdF ["tally","many","passed_over"] (ac5 K PT):=aT2 FF.F Bx FO hc LB FT mo mCB cCB
 have GY:o9 P w K mg base CX0 4 fY fdY ["tally","place","ends"] (aK0 K PT):=bK6 FY.F Bx FI FU FV FO hc LB FT FF FL mo mCB cCB
 have GD:o9 P w K mg base CX0 5 fD fdD ["tally","one","other"] (bo2 K PT true):=bK2 FD.F FF GF FY GY
 have GE:o9 P w K mg base CX0 5 fE fdE ["tally","one","other"] (bo2 K PT false):=bK0 FE.F FF GF FY GY
 have GX:o9 P w K mg base (CXE P w) 6 fX fdX ["tally","one","other"] (bU4 K PT CB CW CN):=cg8 FX.F Bx FH (GH.mono (by decide)) FJ (GJ.mono (by decide)) FW (GW.mono (by decide)) FB (GB.mono (by decide)) FD GD FE GE
 have GV:o9 P w K mg base CX0 3 fV fdV ["places","ties"] (aJ9 K):=bi4 FV.F Bx FI FU mo
 have Gκ:o9 P w K mg base (CXE P w) 5 fκ fdκ ["tally","more"] (bf7 K CB CW):=bW3 Fκ.F Bx FH GH Fζ FW (GW.mono (by decide)) FB GB
 have GT:o9 P w K mg base (CXE P w) 1 fT fdT ["tally"] (aG0 K CB):=aL2 FT.F Bx mo mCB cCB
 have Gφ:o9 P w K mg base (CXE P w) 1 fφ fdφ ["places"] (bv4 CM):=bX4 Fφ.F mc mCM cCM
 have Gγ:o9 P w K mg base (CXE P w) 2 fγ fdγ ["tally"] (bg4 K CB CM):=bX8 Fγ.F Bx FT GT Fφ Gφ
 have Gε:o9 P w K mg base CX0 8 fε fdε ["left"] (bv5 K):=cg9 Fε.F Bx Fσ
 have Gν:∀ m,o9 P w K mg base CX0 (2*m+9) fν fdν ["left","known"] (bg2 K m):=bX5 Fν Bx FG Fε Gε Fμ FL
 have Gμ:o9 P w K mg base CX0 22 fμ fdμ ["left","ends","known"] (bg6 K 6):=by9 (n:=20) Fμ.F Bx FL Fν (Gν 6)
 have Gη:=bX2 (P:=P) (w:=w) (base:=base) Fη.F Fγ (Gγ.mono (by decide)) Fν (Gν 7)
 have Gψ:=bX1 (P:=P) (w:=w) (base:=base) Fψ.F Bx Fγ (Gγ.mono (by decide)) FJ (GJ.mono (by decide)) Fε (Gε.mono (by decide)) Fμ Gμ
 have GR:=by6 (P:=P) (w:=w) (base:=base) FR.F Bx FV (GV.mono (by decide)) Fℓ ((bW4 Fℓ.F).mono (by decide)) Fη (Gη.mono (by decide)) FP ((aT1 FP.F Bx).mono (by decide)) FN ((bX9 FN.F Fκ Gκ).mono (by decide)) Fα ((bW6 Fα.F Fκ Gκ).mono (by decide)) Fψ (Gψ.mono (by decide)) Fτ ((bK1 Fτ.F).mono (by decide)) FX (GX.mono (by decide))
 exact bK5 F0 Bx FQ ((bK7 FQ.F Bx).mono (by decide)) Fθ ((bK4 Fθ.F Bx FP FK).mono (by decide)) FR GR
end
def ay2 (K:W.Frag):List (Addr × Addr):=match PySem.W.tabIn K "order_of" with
 | some q=>[q]
 | none=>[]
def bb1 (K:W.Frag):Addr:=((PySem.W.tabIn K "order_of").getD (0,0)).2
theorem ls1 {p:List Value->Prop}(h:∀ x0,p [x0]):∀ us,us.length=1->p us
 | [x0],_=>h x0
theorem ls2 {p:List Value->Prop}(h:∀ x0 x1,p [x0,x1]):∀ us,us.length=2->p us
 | [x0,x1],_=>h x0 x1
theorem ls3 {p:List Value->Prop}(h:∀ x0 x1 x2,p [x0,x1,x2]):∀ us,us.length=3->p us
 | [x0,x1,x2],_=>h x0 x1 x2
theorem ls4 {p:List Value->Prop}(h:∀ x0 x1 x2 x3,p [x0,x1,x2,x3]):∀ us,us.length=4->p us
 | [x0,x1,x2,x3],_=>h x0 x1 x2 x3
theorem fq {K:W.Frag}{mg:Str->Option Value}{st:Stmt}(X:K.In h)(G:h.Ns d4 mg)(a:d7 K d4 x=some (some (.ref f)))(F:Fun K x x st f fd)
  (b:∀ (kV doc pm:Value) (an:Option Addr) (cdv ct:Value) (us:List Value),us.length=ps.length->bf0 (S4 x x (aj4 st) (U6 st) (m9 st) .none kV doc pm an cdv ct) ⟨us,[]⟩=pure (ps.zip us)):Fq K mg x st f fd ps:=⟨F,F.binds b,P8 X G a⟩
set_option maxHeartbeats 0 in
theorem all_mk {l:PySem.W.OpenLaw}{K:W.Frag}{mg:Str->Option Value}{fa fI fC fU fV fℓ fζ fT fO fM fG fA fβ fω fW fH fF fL fY fJ fB fD fE fX fκ fN fα fφ fγ fσ fε fμ fν fη fψ fQ fK fP fθ fτ fR fZ CBadTally CNoPlace CNoWeb CTooMany:Addr}{tk:Tok}{tC:Tok}(X:K.In h)(G:h.Ns d4 mg)(hfa:mg "law"=some (.ref fa))
  {fdU fdV fdℓ fdζ fdO fdG fdA fdβ fdω fdH fdY fdJ fdB fdD fdE fdX fdκ fdN fdα fdφ fdγ fdσ fdε fdμ fdν fdη fdψ fdQ fdK fdθ fdτ fdR fdZ:FuncData}
  (aI:d7 K d4 "is_place"=some (some (.ref fI)))(FI:Fun K "is_place" "is_place" aE8 fI fdI)
  (aC:d7 K d4 "check_place"=some (some (.ref fC)))(FC:Fun K "check_place" "check_place" bo9 fC fdC)
  (aU:d7 K d4 "turned_up"=some (some (.ref fU)))(FU:Fun K "turned_up" "turned_up" sUp fU fdU)
  (aV:d7 K d4 "made"=some (some (.ref fV)))(FV:Fun K "made" "made" aG3 fV fdV)
  (aℓ:d7 K d4 "tally_of"=some (some (.ref fℓ)))(Fℓ:Fun K "tally_of" "tally_of" az1 fℓ fdℓ)
  (aζ:d7 K d4 "all_pairs"=some (some (.ref fζ)))(Fζ:Fun K "all_pairs" "all_pairs" aR9 fζ fdζ)
  (aT:d7 K d4 "check_tally"=some (some (.ref fT)))(FT:Fun K "check_tally" "check_tally" az5 fT fdT)
  (aO:d7 K d4 "order_of"=some (some (.ref fO)))(FO:Fun K "order_of" "order_of" ba4 fO fdO)
  (aM:d7 K d4 "moved"=some (some (.ref fM)))(FM:Fun K "moved" "moved" bw3 fM fdM)
  (aG:d7 K d4 "falling"=some (some (.ref fG)))(FG:Fun K "falling" "falling" az4 fG fdG)
  (aA:d7 K d4 "room_among"=some (some (.ref fA)))(FA:Fun K "room_among" "room_among" aq0 fA fdA)
  (aβ:d7 K d4 "places_below"=some (some (.ref fβ)))(Fβ:Fun K "places_below" "places_below" ap9 fβ fdβ)
  (aω:d7 K d4 "wall_with"=some (some (.ref fω)))(Fω:Fun K "wall_with" "wall_with" ay9 fω fdω)
  (aW:d7 K d4 "wall_of"=some (some (.ref fW)))(FW:Fun K "wall_of" "wall_of" az0 fW fdW)
  (aH:d7 K d4 "check_has_web"=some (some (.ref fH)))(FH:Fun K "check_has_web" "check_has_web" bo7 fH fdH)
  (aF:d7 K d4 "first_of_order"=some (some (.ref fF)))(FF:Fun K "first_of_order" "first_of_order" al4 fF fdF)
  (aL:d7 K d4 "left_of_others"=some (some (.ref fL)))(FL:Fun K "left_of_others" "left_of_others" az3 fL fdL)
  (aY:d7 K d4 "laid_around"=some (some (.ref fY)))(FY:Fun K "laid_around" "laid_around" aG4 fY fdY)
  (aJ:d7 K d4 "check_pair"=some (some (.ref fJ)))(FJ:Fun K "check_pair" "check_pair" bp0 fJ fdJ)
  (aB:d7 K d4 "moved_both"=some (some (.ref fB)))(FB:Fun K "moved_both" "moved_both" bo6 fB fdB)
  (aD:d7 K d4 "laid_with"=some (some (.ref fD)))(FD:Fun K "laid_with" "laid_with" aR5 fD fdD)
  (aE:d7 K d4 "laid_without"=some (some (.ref fE)))(FE:Fun K "laid_without" "laid_without" aR3 fE fdE)
  (aX:d7 K d4 "pair_told"=some (some (.ref fX)))(FX:Fun K "pair_told" "pair_told" sPT fX fdX)
  (aκ:d7 K d4 "pairs_walled"=some (some (.ref fκ)))(Fκ:Fun K "pairs_walled" "pairs_walled" bo5 fκ fdκ)
  (aN:d7 K d4 "always"=some (some (.ref fN)))(FN:Fun K "always" "always" bw9 fN fdN)
  (aα:d7 K d4 "never"=some (some (.ref fα)))(Fα:Fun K "never" "never" bw2 fα fdα)
  (aφ:d7 K d4 "check_few"=some (some (.ref fφ)))(Fφ:Fun K "check_few" "check_few" bw7 fφ fdφ)
  (aγ:d7 K d4 "check_counted"=some (some (.ref fγ)))(Fγ:Fun K "check_counted" "check_counted" bp1 fγ fdγ)
  (aσ:d7 K d4 "choices"=some (some (.ref fσ)))(Fσ:Fun K "choices" "choices" bw8 fσ fdσ)
  (aε:d7 K d4 "first_ends"=some (some (.ref fε)))(Fε:Fun K "first_ends" "first_ends" sFE fε fdε)
  (aμ:d7 K d4 "count_behind"=some (some (.ref fμ)))(Fμ:Fun K "count_behind" "count_behind" bp2 fμ fdμ)
  (aν:d7 K d4 "count_of"=some (some (.ref fν)))(Fν:Fun K "count_of" "count_of" bo8 fν fdν)
  (aη:d7 K d4 "how_many"=some (some (.ref fη)))(Fη:Fun K "how_many" "how_many" bw6 fη fdη)
  (aψ:d7 K d4 "in_how_many"=some (some (.ref fψ)))(Fψ:Fun K "in_how_many" "in_how_many" bw5 fψ fdψ)
  (aQ:d7 K d4 "_law_cell_at"=some (some (.ref fQ)))(FQ:Fun K "_law_cell_at" "_law_cell_at" aR8 fQ fdQ)
  (aK:d7 K d4 "_law_mixed"=some (some (.ref fK)))(FK:Fun K "_law_mixed" "_law_mixed" bw4 fK fdK)
  (aP:d7 K d4 "_law_pairs"=some (some (.ref fP)))(FP:Fun K "_law_pairs" "_law_pairs" ap8 fP fdP)
  (aθ:d7 K d4 "_law_ties"=some (some (.ref fθ)))(Fθ:Fun K "_law_ties" "_law_ties" aR6 fθ fdθ)
  (aτ:d7 K d4 "_law_word"=some (some (.ref fτ)))(Fτ:Fun K "_law_word" "_law_word" aR4 fτ fdτ)
  (aR:d7 K d4 "_law_right"=some (some (.ref fR)))(FR:Fun K "_law_right" "_law_right" az2 fR fdR)
  (aZ:d7 K d4 "law"=some (some (.ref fZ)))(FZ:Fun K "law" "law" ba5 fZ fdZ)
  (mo:d7 K d4 "MOST_PLACES"=some (some (.int 24 tk)))
  (mc:d7 K d4 "MOST_COUNTED"=some (some (.int 7 tC)))
  (aBadTally:d7 K d4 "BadTally"=some (some (.ref CBadTally)))
  (aNoPlace:d7 K d4 "NoPlace"=some (some (.ref CNoPlace)))
  (aNoWeb:d7 K d4 "NoWeb"=some (some (.ref CNoWeb)))
  (aTooMany:d7 K d4 "TooMany"=some (some (.ref CTooMany)))
  (qBadTally:PySem.W.excIn K CBadTally [.type "ValueError",.type "Exception",.type "BaseException",.type "object"] "ValueError.__new__"=true)
  (xmBadTally:PySem.W.exmOne K (.ref CBadTally) (.ref CBadTally)=some true)
  (qNoPlace:PySem.W.excIn K CNoPlace [.type "ValueError",.type "Exception",.type "BaseException",.type "object"] "ValueError.__new__"=true)
  (xmNoPlace:PySem.W.exmOne K (.ref CNoPlace) (.ref CNoPlace)=some true)
  (qNoWeb:PySem.W.excIn K CNoWeb [.type "ValueError",.type "Exception",.type "BaseException",.type "object"] "ValueError.__new__"=true)
  (xmNoWeb:PySem.W.exmOne K (.ref CNoWeb) (.ref CNoWeb)=some true)
  (qTooMany:PySem.W.excIn K CTooMany [.type "ValueError",.type "Exception",.type "BaseException",.type "object"] "ValueError.__new__"=true)
  (xmTooMany:PySem.W.exmOne K (.ref CTooMany) (.ref CTooMany)=some true)
  (tb:(PySem.W.tabIn K "order_of").isSome=true)
  (z1:d7 K d4 "len"=some none)
  (z2:d7 K d4 "range"=some none)
  (z3:d7 K d4 "enumerate"=some none)
  (z4:d7 K d4 "list"=some none)
  (z5:d7 K d4 "tuple"=some none)
  (z6:d7 K d4 "sorted"=some none)
  (z7:d7 K d4 "set"=some none)
  (z8:d7 K d4 "isinstance"=some none)
  (z9:d7 K d4 "int"=some none)
  (z10:d7 K d4 "bool"=some none)
  (z11:d7 K d4 "min"=some none)
  (z12:d7 K d4 "max"=some none)
  (z13:d7 K d4 "sum"=some none)
  (z14:d7 K d4 "str"=some none)
  (z15:d7 K d4 "ValueError"=some none) :
  ∃ fd:FuncData,(∀ (s:Shared) (v:Value),bm9 s fd ⟨[v],[]⟩ [("script",v)])/\∀ base:Heap,K.In base->base.Ns d4 mg->(∀ q∈ay2 K,aD4 base mg q.1 q.2)->o9 l.prog w K mg base CX0 26 fa fd ["script"] (aQ9 K (bb1 K)):=by
 have e:=hfa.symm.trans (P8 X G aZ)
 cases e
 have B:Bn mg:=⟨v8 X G z1,v8 X G z2,v8 X G z3,v8 X G z4,v8 X G z5,v8 X G z6,v8 X G z7,v8 X G z8,v8 X G z9,v8 X G z10,v8 X G z11,v8 X G z12,v8 X G z13,v8 X G z14,v8 X G z15⟩
 obtain⟨⟨c,PT⟩,hcp⟩:=v9.mp tb
 obtain⟨_,_,_,_,_,_,_,_,_,_,lO,_⟩:=FO.ex
 have hc:=bu7 hcp aO lO
 have ept:bb1 K=PT:=by unfold bb1;rw[hcp];rfl
 have ets:ay2 K=[(c,PT)]:=by unfold ay2;rw[hcp]
 rw[ept,ets]
 obtain⟨_,_,y1,y2,y3,y4,y5,y6,_,rfl,_,_⟩:=FZ.ex
 exact⟨S4 "law" "law" (aj4 ba5) (U6 ba5) (m9 ba5) .none y1 y2 y3 y4 y5 y6,fun s v=>.of_eq rfl,fun base _ _ hL=>bX0 FZ B (P8 X G mo) (P8 X G mc) (fq X G aI FI fun _ _ _ _ _ _=>ls2 fun _ _=>rfl) (fq X G aC FC fun _ _ _ _ _ _=>ls2 fun _ _=>rfl) (fq X G aU FU fun _ _ _ _ _ _=>ls2 fun _ _=>rfl) (fq X G aV FV fun _ _ _ _ _ _=>ls2 fun _ _=>rfl) (fq X G aℓ Fℓ fun _ _ _ _ _ _=>ls1 fun _=>rfl) (fq X G aζ Fζ fun _ _ _ _ _ _=>ls1 fun _=>rfl) (fq X G aT FT fun _ _ _ _ _ _=>ls1 fun _=>rfl) (fq X G aO FO fun _ _ _ _ _ _=>ls1 fun _=>rfl) (fq X G aM FM fun _ _ _ _ _ _=>ls3 fun _ _ _=>rfl) (fq X G aG FG fun _ _ _ _ _ _=>ls1 fun _=>rfl) (fq X G aA FA fun _ _ _ _ _ _=>ls3 fun _ _ _=>rfl) (fq X G aβ Fβ fun _ _ _ _ _ _=>ls1 fun _=>rfl) (fq X G aω Fω fun _ _ _ _ _ _=>ls2 fun _ _=>rfl) (fq X G aW FW fun _ _ _ _ _ _=>ls1 fun _=>rfl) (fq X G aH FH fun _ _ _ _ _ _=>ls1 fun _=>rfl) (fq X G aF FF fun _ _ _ _ _ _=>ls3 fun _ _ _=>rfl) (fq X G aL FL fun _ _ _ _ _ _=>ls3 fun _ _ _=>rfl) (fq X G aY FY fun _ _ _ _ _ _=>ls3 fun _ _ _=>rfl) (fq X G aJ FJ fun _ _ _ _ _ _=>ls3 fun _ _ _=>rfl) (fq X G aB FB fun _ _ _ _ _ _=>ls4 fun _ _ _ _=>rfl) (fq X G aD FD fun _ _ _ _ _ _=>ls3 fun _ _ _=>rfl) (fq X G aE FE fun _ _ _ _ _ _=>ls3 fun _ _ _=>rfl) (fq X G aX FX fun _ _ _ _ _ _=>ls3 fun _ _ _=>rfl) (fq X G aκ Fκ fun _ _ _ _ _ _=>ls2 fun _ _=>rfl) (fq X G aN FN fun _ _ _ _ _ _=>ls1 fun _=>rfl) (fq X G aα Fα fun _ _ _ _ _ _=>ls1 fun _=>rfl) (fq X G aφ Fφ fun _ _ _ _ _ _=>ls1 fun _=>rfl) (fq X G aγ Fγ fun _ _ _ _ _ _=>ls1 fun _=>rfl) (fq X G aσ Fσ fun _ _ _ _ _ _=>ls2 fun _ _=>rfl) (fq X G aε Fε fun _ _ _ _ _ _=>ls1 fun _=>rfl) (fq X G aμ Fμ fun _ _ _ _ _ _=>ls3 fun _ _ _=>rfl) (fq X G aν Fν fun _ _ _ _ _ _=>ls2 fun _ _=>rfl) (fq X G aη Fη fun _ _ _ _ _ _=>ls1 fun _=>rfl) (fq X G aψ Fψ fun _ _ _ _ _ _=>ls3 fun _ _ _=>rfl) (fq X G aQ FQ fun _ _ _ _ _ _=>ls2 fun _ _=>rfl) (fq X G aK FK fun _ _ _ _ _ _=>ls3 fun _ _ _=>rfl) (fq X G aP FP fun _ _ _ _ _ _=>ls1 fun _=>rfl) (fq X G aθ Fθ fun _ _ _ _ _ _=>ls3 fun _ _ _=>rfl) (fq X G aτ Fτ fun _ _ _ _ _ _=>ls2 fun _ _=>rfl) (fq X G aR FR fun _ _ _ _ _ _=>ls3 fun _ _ _=>rfl) (P8 X G aBadTally) ⟨qBadTally⟩ (P8 X G aNoPlace) ⟨qNoPlace⟩ (P8 X G aNoWeb) ⟨qNoWeb⟩ (P8 X G aTooMany) ⟨qTooMany⟩ hc (hL (c,PT) b9)⟩
theorem walk {l:PySem.W.OpenLaw} {q:Program} {loose:List Str} {d:DefRec} {K:Params->PySem.W.Frag} (hn:l.most=some 63) (hdf:d.params.defaults=[])
  (hY:∀ (w:World) (h:Heap),YP w h->(K w.params).In h) (hK0:∀ w:World,PySem.W.noTabs (K w.params)=true) (hrec:((PyProof.Rows.recsOf q).find? (fun e=>e.name == ("order_of":Str))).isSome=true) (htb:∀ w:World,(PySem.W.tabIn (K w.params) "order_of").isSome=true)
  (F : ∀ (w : World) (mg : Str -> Option Value) (fa : Addr) (h : Heap), (K w.params).In h -> h.Ns d4 mg -> mg d.name = some (.ref fa) ->
   ∃ fd:FuncData,(∀ (s:Shared) (u:Value),bm9 s fd ⟨[u],[]⟩ [("script",u)])/\∀ base:Heap,(K w.params).In base->base.Ns d4 mg->(∀ q∈ay2 (K w.params),aD4 base mg q.1 q.2)->o9 l.prog w (K w.params) mg base CX0 26 fa fd ["script"] (aQ9 (K w.params) (bb1 (K w.params)))) :
  PySem.W.WalkO q loose XP YP l.row.toRowW d [] (fun f vs=>PySem.call f vs):=by
 refine L2.walk_ofT (n:=63) (k:=26) (x:="script") (CX:=fun _=>CX0) (sp:=fun w _=>aQ9 (K w.params) (bb1 (K w.params))) (ts:=fun w=>ay2 (K w.params)) hn (by decide) hdf ⟨rfl,by decide,by decide⟩ hY hK0 (fun w loose mean mg mb h T X=>?_) F (fun w H a ns hl hT hS=>?_) fun _ _ _ _ _ z=>z
 ·obtain⟨⟨c,PT⟩,hcp⟩:=v9.mp (htb w)
  obtain⟨d',hd'⟩:=v9.mp hrec
  have ets:ay2 (K w.params)=[(c,PT)]:=by unfold ay2;rw[hcp]
  show PySem.W.TabsAt (ay2 (K w.params)) h
  rw[ets]
  intro r hr
  rw[j6.mp hr]
  exact PySem.W.tab_of T X hd' hcp
 ·obtain⟨⟨c,PT⟩,hcp⟩:=v9.mp (htb w)
  have ets:ay2 (K w.params)=[(c,PT)]:=by unfold ay2;rw[hcp]
  have ept:bb1 (K w.params)=PT:=by unfold bb1;rw[hcp];rfl
  refine⟨a,ns,rfl,hS,hl,?_,fun _=>rfl⟩
  rw[ept]
  exact⟨#[],hT (c,PT) (by show (c,PT)∈ay2 (K w.params);rw[ets];exact b9),trivial,.inl rfl⟩
end Web
set_option Elab.async false
namespace PySem.W.Fast
def tw9316320155339053373:=0
def tw10991098036592171970:=0
def tw17600326660711347601:=0
def tw1073676816535165346:=0
def tw10282203007900426087:=0
def tw2358698976438416657:=0
def tw11585898789168925198:=0
def tw4092966025723143386:=0
def tw12616745036946803479:=0
def tw1622622391364364967:=0
def tw5190144158431902973:=0
def tw1650002087662605322:=0
def tw7975766495711024145:=0
def tw4348848757152768541:=0
def tw2903733834815149369:=0
def tw16779347532641695431:=0
def tw3652431711654306735:=0
def tw3685780385184571230:=0
def tw10659082012927257995:=0
def tw14689732929562065760:=0
def tw6978462164047271290:=0
def tw3646846843056051282:=0
def tw8505321228385871198:=0
def tw3523806652853744172:=0
def tw15282439864551444937:=0
def tw16574475367999062374:=0
def tw11500416964363707403:=0
def tw1482068494737331985:=0
def tw12040439277374312524:=0
def tw192727724952724775:=0
def tw10754608859991595072:=0
def tw11932815097749410596:=0
def tw17826361790985855965:=0
def tw14716410941952888426:=0
def tw2486787739164463256:=0
def tw18353556680007268955:=0
def tw16735959435179327854:=0
def tw12953619248210314513:=0
def tw14879147091690988802:=0
def tw10437045585681595947:=0
def tw8996962346168240310:=0
def tw14480493315256166663:=0
def tw11725886874430398452:=0
def tw16617661917907710320:=0
def tw10865954219956533780:=0
def tw13437000728247245278:=0
def tw11934567929235363717:=0
def tw3258789971743487233:=0
def tw2916582304277467874:=0
def tw16833166844636089548:=0
def tw12786263225452213387:=0
def tw17027607021931217447:=0
def tw16310274536776253737:=0
def tw1305227811936080062:=0
def tw6327063889991728076:=0
def tw2091590203813994915:=0
def tw9731137633754875379:=0
def tw11624451032594949628:=0
def tw5330550804576254670:=0
def tw4029507062759998570:=0
def tw13945942760478092562:=0
def tw8304068966512043619:=0
def tw8321498591235031148:=0
def tw13884267843698366742:=0
def tw16280556552279881013:=0
def tw1546815387437690390:=0
def tw5776508376621907282:=0
def tw2746733411508318644:=0
def tw14449373249647963278:=0
def tw11217889200109878945:=0
def tw17113635526333722616:=0
def tw5482114217395595916:=0
def tw15542903797575410037:=0
def tw16556428855067045967:=0
def tw6479173260986394527:=0
def tw3769577631834523122:=0
def tw16301429506696786502:=0
def tw18024072048846642098:=0
def tw12709193852200709708:=0
def tw18332314190046303023:=0
def tw2412857871942293157:=0
def tw11193352729439090837:=0
def tw11939336364115692810:=0
def tw14051850627968562050:=0
def tw6256754534993324308:=0
def tw12002151361079408616:=0
def tw8705797776030270280:=0
def tw15413838326049134002:=0
def tw16139437770464565944:=0
def tw3977195124281334740:=0
def tw4267530463520634689:=0
def tw1048575193284351686:=0
def tw12787504070101170701:=0
def tw4581040473876918193:=0
def tw5121665357409496783:=0
def tw2370184794729209261:=0
def tw6695277384691408245:=0
def tw15396109190299552864:=0
def tw18331764307272112490:=0
def tw567819300693000277:=0
def tw13496734803795426525:=0
def tw6080847651454353166:=0
def tw9091703178016354428:=0
def tw3944591636642722653:=0
def tw13219179175563811056:=0
def tw16819756312086212553:=0
def tw2161278095378681769:=0
def tw12777417377403698203:=0
def tw13241219794323959730:=0
def tw17937725106705966690:=0
def tw17302448506975817282:=0
def tw9490462053081858325:=0
def tw15171248724672026235:=0
def tw2714811654904059151:=0
def tw16111409505954131403:=0
def tw2211312854990101034:=0
def tw2308185605910688277:=0
def tw10010020305346692782:=0
def tw14392290866453679334:=0
def tw11574562906159870780:=0
def tw16425308706497699076:=0
def tw5569813298846771114:=0
def tw6423248222233560290:=0
def tw601443021229202303:=0
def tw5408007314258576396:=0
def tw14872672873100273462:=0
def tw328924183563085346:=0
def tw6865402520866580491:=0
def tw9895623598254531287:=0
def tw3357121221155594974:=0
def tw14986022593550861318:=0
def tw343495066500381508:=0
def tw6695958901194922997:=0
def tw13148425684450935163:=0
def tw8778230587472514745:=0
def tw12855576746070512735:=0
def tw7385089777549197783:=0
def tw955193042773922515:=0
def tw9514266944678886868:=0
def tw255760936881044257:=0
def tw3717983730156821576:=0
def tw5011516617032435621:=0
def tw17947604201353069334:=0
def tw13617663305062297806:=0
def tw12769703406128610775:=0
def tw1916107949050271846:=0
def tw2823974843501169979:=0
def tw14296108331649230706:=0
def tw5151575703069929681:=0
def tw14731865804635138579:=0
def tw7737488767718326622:=0
def tw6620020411012971429:=0
def tw14853767978562540178:=0
def tw11492190882249385902:=0
def tw511848051436098486:=0
def tw14891103552740846579:=0
def tw5606846690066260181:=0
def tw17138922335289249571:=0
def tw9178888542751475859:=0
def tw17484277493228399496:=0
def tw18010758151353752651:=0
def tw18408797255468040722:=0
def tw5766228977680572189:=0
def tw3131610612702094005:=0
def tw15370087838670397514:=0
def tw6591110126024664740:=0
def tw3470392781733786213:=0
def tw7238320247012140653:=0
def tw4569305139988926270:=0
def tw3007525629599303521:=0
def tw15271615277687225761:=0
def tw14145563026800894770:=0
def tw1469070959926575198:=0
def tw11415664420274000038:=0
def tw3136610507580058071:=0
def tw7840763156929635916:=0
def tw13768388149015655209:=0
def tw8358353458953012324:=0
def tw12288775816302131724:=0
def tw9230115051632893314:=0
def tw6561197418509046795:=0
def tw9637762322284532917:=0
def tw8226948641073487446:=0
def tw16394768346392460470:=0
def tw18423098809270143023:=0
def tw11555674751720322161:=0
def tw14455615926186279558:=0
def tw15949544097475394367:=0
def tw3594292547656343144:=0
def tw16115676486339865485:=0
def tw1908097586488863016:=0
def tw10375625491542177440:=0
def tw2918455405665727582:=0
def tw10816586872940799328:=0
def tw3238080593870644577:=0
def tw7176548602416919736:=0
def tw14481449011255248638:=0
def tw4519310687494720110:=0
def tw11920301429100135311:=0
def tw1152407630644366999:=0
def tw14225655987963459019:=0
def tw16639917950305621143:=0
def tw4600268624194352747:=0
def tw14054254674364164250:=0
def tw18226998279399309717:=0
def tw3265410769955603747:=0
def tw11244400388017830197:=0
def tw2090246080522658637:=0
def tw8952144624975392289:=0
def tw11528037692707689159:=0
def tw557792875517675069:=0
end PySem.W.Fast
open PySem PySem.W PyProof.Rows
set_option maxRecDepth 100000 in
set_option maxHeartbeats 0 in
theorem PySem.Challenge.cw_tallyweb_k28_whole_pairs_counted_holds : PySem.Challenge.rw_tallyweb_k28_whole_pairs_counted.Holds := by
 w_on; o_law; k_head; (case hw => w_witness2)
 k_fill
 refine Web.walk (l := PySem.Challenge.rw_tallyweb_k28_whole_pairs_counted) rfl rfl (fun w h Y => PySem.W.km_in_of Y) ?hN0 ?hR0 ?hT0 ?F
 case hN0 => intro w; kernel_rfl
 case hR0 => kernel_rfl
 case hT0 => intro w; kernel_rfl
 case F =>
  intro w mg fa h KX G hmg
  refine' Web.all_mk KX G hmg ?aI (L2.fun_mk ?lI ?cI ?kI) ?aC (L2.fun_mk ?lC ?cC ?kC) ?aU (L2.fun_mk ?lU ?cU ?kU) ?aV (L2.fun_mk ?lV ?cV ?kV) ?aℓ (L2.fun_mk ?lℓ ?cℓ ?kℓ) ?aζ (L2.fun_mk ?lζ ?cζ ?kζ) ?aT (L2.fun_mk ?lT ?cT ?kT) ?aO (L2.fun_mk ?lO ?cO ?kO) ?aM (L2.fun_mk ?lM ?cM ?kM) ?aG (L2.fun_mk ?lG ?cG ?kG) ?aA (L2.fun_mk ?lA ?cA ?kA) ?aβ (L2.fun_mk ?lβ ?cβ ?kβ) ?aω (L2.fun_mk ?lω ?cω ?kω) ?aW (L2.fun_mk ?lW ?cW ?kW) ?aH (L2.fun_mk ?lH ?cH ?kH) ?aF (L2.fun_mk ?lF ?cF ?kF) ?aL (L2.fun_mk ?lL ?cL ?kL) ?aY (L2.fun_mk ?lY ?cY ?kY) ?aJ (L2.fun_mk ?lJ ?cJ ?kJ) ?aB (L2.fun_mk ?lB ?cB ?kB) ?aD (L2.fun_mk ?lD ?cD ?kD) ?aE (L2.fun_mk ?lE ?cE ?kE) ?aX (L2.fun_mk ?lX ?cX ?kX) ?aκ (L2.fun_mk ?lκ ?cκ ?kκ) ?aN (L2.fun_mk ?lN ?cN ?kN) ?aα (L2.fun_mk ?lα ?cα ?kα) ?aφ (L2.fun_mk ?lφ ?cφ ?kφ) ?aγ (L2.fun_mk ?lγ ?cγ ?kγ) ?aσ (L2.fun_mk ?lσ ?cσ ?kσ) ?aε (L2.fun_mk ?lε ?cε ?kε) ?aμ (L2.fun_mk ?lμ ?cμ ?kμ) ?aν (L2.fun_mk ?lν ?cν ?kν) ?aη (L2.fun_mk ?lη ?cη ?kη) ?aψ (L2.fun_mk ?lψ ?cψ ?kψ) ?aQ (L2.fun_mk ?lQ ?cQ ?kQ) ?aK (L2.fun_mk ?lK ?cK ?kK) ?aP (L2.fun_mk ?lP ?cP ?kP) ?aθ (L2.fun_mk ?lθ ?cθ ?kθ) ?aτ (L2.fun_mk ?lτ ?cτ ?kτ) ?aR (L2.fun_mk ?lR ?cR ?kR) ?aZ (L2.fun_mk ?lZ ?cZ ?kZ) ?mo ?mc ?aBadTally ?aNoPlace ?aNoWeb ?aTooMany ?qBadTally ?xmBadTally ?qNoPlace ?xmNoPlace ?qNoWeb ?xmNoWeb ?qTooMany ?xmTooMany ?tb ?z1 ?z2 ?z3 ?z4 ?z5 ?z6 ?z7 ?z8 ?z9 ?z10 ?z11 ?z12 ?z13 ?z14 ?z15
  case aI | lI | cI | kI | aC | lC | cC | kC | aU | lU | cU | kU | aV | lV | cV | kV | aℓ | lℓ | cℓ | kℓ | aζ | lζ | cζ | kζ | aT | lT | cT | kT | aO | lO | cO | kO | aM | lM | cM | kM | aG | lG | cG | kG | aA | lA | cA | kA | aβ | lβ | cβ | kβ | aω | lω | cω | kω | aW | lW | cW | kW | aH | lH | cH | kH | aF | lF | cF | kF | aL | lL | cL | kL | aY | lY | cY | kY | aJ | lJ | cJ | kJ | aB | lB | cB | kB | aD | lD | cD | kD | aE | lE | cE | kE | aX | lX | cX | kX | aκ | lκ | cκ | kκ | aN | lN | cN | kN | aα | lα | cα | kα | aφ | lφ | cφ | kφ | aγ | lγ | cγ | kγ | aσ | lσ | cσ | kσ | aε | lε | cε | kε | aμ | lμ | cμ | kμ | aν | lν | cν | kν | aη | lη | cη | kη | aψ | lψ | cψ | kψ | aQ | lQ | cQ | kQ | aK | lK | cK | kK | aP | lP | cP | kP | aθ | lθ | cθ | kθ | aτ | lτ | cτ | kτ | aR | lR | cR | kR | aZ | lZ | cZ | kZ | mo | mc | aBadTally | aNoPlace | aNoWeb | aTooMany | z1 | z2 | z3 | z4 | z5 | z6 | z7 | z8 | z9 | z10 | z11 | z12 | z13 | z14 | z15 => k_is
  case qBadTally | qNoPlace | qNoWeb | qTooMany => k_exc
  case xmBadTally | xmNoPlace | xmNoWeb | xmTooMany => kts_exm
  case tb => kernel_rfl
#print axioms PySem.Challenge.cw_tallyweb_k28_whole_pairs_counted_holds

